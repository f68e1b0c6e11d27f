import PyProof.Rows.All
import Wide.All
import OpenK.AllK
import Wide.FinOn
import Lean
import PyProof.EqAt
import PyProof.EqKinds
import PyProof.TupleCall
import PyProof.NsDelKeeps
import PyProof.ListRange
import PyProof.ExcArgsOwn
import PySem.Challenge.RW_edgetally_k17_paper_told
set_option Elab.async false
set_option linter.all false
set_option genSizeOf false
set_option compiler.extract_closed false
set_option bootstrap.genMatcherCode false
set_option maxHeartbeats 8000000
set_option maxRecDepth 100000
noncomputable section
open And renaming intro->XF
open Array renaming length_toList->O9,getElem?_toList->Qd,getElem?_eq_some_iff->Qf,toList_append->RQ,getElem?_eq_none->RW,getElem_toList->Sb,getElem?_eq_getElem->S8,forIn_toList->Tu,toList_push->TN,toList_setIfInBounds->UR,getD->Vx,getElem?_extract->Xy,toList_extract->XR,toList_reverse->XS,getElem?_push->Yk,append_assoc->Yw,size_extract->Yx,toList_inj->Ze,toList_map->Zf,toList_zip->Zg
open Bool renaming true->OL,false->OQ,false_ne_true->O4,false_eq_true->Ph,and_eq_true->PP,not_true->R0,true_and->Tq,eq_false_iff->TW,false_and->UU,and_self->Vl,eq_iff_iff->VH,not_false->VQ,or_eq_true->WK,and_eq_true_iff->Yl
open Classical renaming byContradiction->R3
open Except renaming ok->Ra
open False renaming elim->Rp
open ForIn renaming forIn->X7
open ForInStep renaming yield->Uc
open Function renaming comp->VO
open Int renaming toNat_natCast->Qv,natCast_add->Sf,zero_add->T5,emod_nonneg->UC,emod_lt_of_pos->U2,fdiv_eq_ediv_of_nonneg->U3,natAbs_natCast->Wb,le_refl->YB
open List renaming length_map->OH,getElem?_eq_getElem->ON,mem_cons_of_mem->OO,mem_map->OR,getElem?_map->OS,getElem?_eq_some_iff->OT,mem_cons_self->OU,range->OX,map_map->O0,length_append->O1,append_assoc->O3,getD_eq_getElem?_getD->O5,mem_cons->O6,length_cons->Pb,map_cons->Pc,mem_of_getElem?->Pd,size_toArray->Pg,length_range->Pi,mem_range->Pn,mem_singleton->Po,replicate->Pr,map_append->Pw,sum_cons->Pz,mem_append->PD,take_append_drop->PL,append_nil->PN,length_take->PR,map_congr_left->PU,pairwise_append->PV,getElem?_range->P9,drop_eq_getElem_cons->Qa,mem_append_right->Qe,nodup_cons->Qn,getElem_mem->Qr,length_singleton->Qs,getElem?_append_right->Qw,pairwise_singleton->Qz,length_set->QC,not_mem_nil->QD,take_length->QE,flatMap_cons->QI,take_of_length_le->QJ,mem_flatMap->QO,mem_of_mem_take->QR,getElem?_set->QX,pairwise_map->QY,map->Q2,map_flatMap->Q4,filterMap_cons->Q8,replicate_succ->Q9,flatten_cons->Rb,sum->Rf,zip_cons_cons->Rj,drop_length->Rl,length_eq_zero_iff->Rm,getElem?_append_left->Rw,mem_or_eq_of_mem_set->Rx,length_replicate->Rz,perm_append_comm->RA,mem_replicate->RF,nil_append->RO,range_succ->RP,pairwise_cons->R5,length_nil->Sc,mem_append_left->Sg,mem_of_mem_drop->Sh,nodup_append->Si,flatMap_append->Ss,length_pos_iff->Su,getElem?_replicate->Sx,length_drop->Sy,mem_singleton_self->Sz,drop_eq_nil_of_le->SG,getElem?_drop->SH,map_nil->SI,map_replicate->SJ,find?_cons->SQ,forIn_cons->SR,forIn_nil->SY,getElem?_append->SZ,all_eq_true->S9,cons_append->Ta,exists_cons_of_length_eq_add_one->Tc,ext_getElem->Td,getElem_map->Te,pairwise_iff_getElem->Tg,length_zip->Tw,getElem?_take->TC,flatMap_eq_nil_iff->TF,getElem?_cons_succ->TH,length->TK,ext_getElem?->TX,map_set->TY,take_zero->TZ,getElem?_eq_none->Ud,Perm->Ug,any_cons->Uk,map_drop->Ul,drop_append_of_le_length->Uw,lookup->Ux,length_reverse->UD,reverse_append->UE,zipWith->UN,getElem_range->UW,mem_filterMap->UX,getElem?_eq_none_iff->Vb,reverse_cons->Vf,take_add_one->Vg,zip_nil_left->Vh,all_cons->Vn,flatMap_map->Vu,lookup_cons->Vv,range_succ_eq_map->VB,mem_filter->VI,getElem?_toArray->VM,drop_drop->VT,take_take->VU,getElem_of_mem->V3,map_take->V5,map_inj_right->Wa,filter_cons->Wt,flatMap_nil->Wu,zipIdx_cons->Wv,map_id->WD,take_append_of_le_length->WE,filter_map->WO,foldl_cons->WP,of_mem_zip->WQ,sum_append->WR,take_left'->WS,foldl->Xb,eraseIdx_eq_dropLast->Xf,mem_of_find?_eq_some->Xg,mem_take_iff_getElem->Xh,rel_of_pairwise_cons->Xi,getElem?_take_of_lt->Xs,drop_of_length_le->XJ,filter_eq_nil_iff->XM,flatMap->XN,getElem?_set_self->XO,set_append_right->XT,getElem?_set_ne->Yp,getElem_reverse->Yq,length_dropLast->Yr,filter_flatMap->YC,filter_sublist->YD,flatten_append->YE,length_zipWith->YF,zip_nil_right->YX,any_eq_false->Zj,filter_congr->Zk
open List.Pairwise renaming nil->Uv
open List.Perm renaming append_left->Xa,of_eq->Yo
open List.cons renaming injEq->SB,inj->S5
open Max renaming max->Yb
open Min renaming min->SC
open Nat renaming le_refl->OW,le_trans->Pj,lt_of_lt_of_le->Pm,lt_of_le_of_lt->P5,ne_of_lt->Qc,lt_irrefl->Qg,zero_le->Ql,lt_of_le_of_ne->Qm,le_of_lt->Qo,lt_of_succ_lt->QZ,zero_add->Q0,add_sub_cancel_left->Rn,le_add_right->RH,ne_of_gt->RK,min_eq_left->RT,mul_comm->R1,pos_of_ne_zero->R9,not_lt_zero->Sj,lt_succ_of_lt->Sk,le_of_not_lt->Th,sub_self->Ti,sub_add_cancel->TL,lt_trichotomy->T6,mul_left_comm->T7,lt_succ_self->Um,mul_assoc->Uy,mul_le_mul_right->Uz,add_le_add_left->UO,le_succ->Vo,succ_le_succ->Vz,pow_le_pow_right->VW,lt_or_ge->Wo,lt_trans->Wp,max_eq_right->WF,div_le_self->WY,add_le_add->Xj,mod_lt->Xk,le_mul_of_pos_right->XQ,add_comm->XU,div_div_eq_div_mul->XV,le_of_eq->XW,add_mul->YG
open Option renaming some->My,none->OI,map_some->Rt,bind_some->RZ,map_eq_some_iff->SF,isSome_iff_exists->Xc,getD_none->YZ
open Option.some renaming inj->PH,injEq->Xu
open Or renaming inl->RM,inr->Ts
open Prod renaming ext->R6,ext_iff->T0
open Pure renaming pure->Ry
open PyProof renaming noPylong_of_log2->WZ
open PyProof.Rows renaming wpS_bind->Ps,wpS_pure->Pt,Keyed->P6,callWith_type1->QB,pendingOf->QL,SortSt->QW,arrOf->RU,seqObj->RV,listUpdate_at->TU,envOfC->T8,wpS_modify->Ua,IntsAre->Uj,wpS->UQ,failedOf->UT,AllBare->Vd,wpS_get->VG,setArr->VL,subscriptTail_builtinR->V0,gallopOf->We,wpS_lift->Wk,SortKind->W0,boot_range->X2,subscriptTail->YR,tuples'->Zt
open PyProof.Rows.SortSt renaming mk'->Vw
open PySem renaming wpAny_bind->OG,wpAny_pure->OJ,Addr->OM,Value->OP,Shared->OV,wpAny->O8,starEach->Pe,sizeLine->Pk,model->Px,FuncData->Py,Obj->PF,Program->PM,Str->PZ,World->P0,wpAny_call_entry->P3,Around->P7,foldedSetIterable->Qh,wpAny_newObj_type->Qi,wpAny_mono->Qk,SetTable->Qp,Heap->Qt,eval->Qu,compareOp->Qy,wpAny_holding->QG,Stmt->QH,mem_of_lookup->QN,wpAny_truthy_bool->QS,wpAny_field->QT,wpAny_setField_rec->QU,sizeLine_eq->Q6,Comprehension->Q7,cellsFrom->Rc,wpAny_setState_of->Rg,wpAny_seqItems->Rk,wpAny_rule->Ro,wpAny_isInstance->Rq,treeTable->Rv,mainGlobals->RG,wpAny_standAt->RN,DictEntry->RY,binaryOp->Se,wpAny_specialOf->So,keywordEach->Sv,wpAny_dictEntries->Sw,wpAny_attempt->SD,wpAny_comprehension_free->SE,IsPair->SK,backTo->SL,firstArgMember->SM,wpAny_setField->SN,wpAny_typeNameOfWhole_itemiter->SO,wpAny_of_eq->SU,wpAny_typeNameOfWhole_keyiter->SV,rawInt->SW,pyNext->S7,NameKind->Tk,sliceBounds->Tp,bootBuiltins->Tx,wpAny_typeNameOf_itemiter->TD,attributeBase->TR,wpAny_typeNameOf_keyiter->TV,codeAny->T3,wpAny_dictEpoch->T4,Pos->Ub,backToKw->Uo,codeAny_mono->Uq,isSubtype_type->Ur,standAt->Us,wpAny_fieldsOf->Ut,wpAny_pyIter_slot->Uu,swapsWith->UJ,sysModules->UK,wpAny_askSetting->UL,wpAny_forIn_list->UM,behindInMarks->UP,cLine->US,Paired->U4,assign->U6,codeAny_builtin->U7,letOwnedTupleGo->U9,wpAny_passesOwn->Va,holding->Vk,IsItemIter->Vq,wpAny_Call_Name_kw->Vs,IsZip->VA,intKind->VC,wpAny_pyIter_list->VF,boot_len->VP,Fin->VV,OsState->VX,assignEach->VY,pyIter->VZ,wpAny_isOneOf_itemiter->V1,wpAny_pyIter_rangeiter->V2,builtinLookup_eq_fast->V7,isSubtype_tuple_tuple->V8,IsRangeIter->Wc,Within->Wd,isSubtype_stop->Wf,setField->Wg,wpAny_letGo->Wh,wpAny_updateSeq_pair->Wj,BindsTo->Wl,call->Wq,wpAny_setEntries_of->Wr,Model->Ww,again->Wz,plainId_quiet->WA,wpAny_handled->WB,wpAny_onRaise->WC,call_meets->WG,isInstance->WH,wpAny_pyIter_tuple->WI,wpAny_tupleItemsOf->WJ,Env->WL,callerA->W1,ofAClassStatement->W2,searchCouldBeSeen->W4,wpAny_assign_Name->W5,wpAny_typeOf->W6,Params->Xl,newExc->Xn,noFill_tuple_add->Xo,pickOrder->Xp,Draws->Xq,wpAny_throw->Xx,typeLookup_type->XD,wpAny_execs_nil->XE,Keyword->XI,PyData->XX,Sem->X0,builtinsNs->X3,compPost->X5,entryFor_alias->X6,intItems->X8,newFunctionEnv->Yc,raiseNew->Ye,wpAny_call->Yh,wpAny_newTuple->Yi,wpAny_runValue->Yj,evalArgs_none->Yv,call->YN,evalPart_none->YO,seq_tuple_add->YQ,wpAny_getItem_list_slice->YS,wpAny_newList->YT,list_append->Y3,atKey->Y5,bindC->Y6,bindL->Y7,eqIsQuiet->Y8,field->Y9,getMethod->Za,lastMarks->Zb,slicePick->Zc,wpAny_Call_method0_late->Zd,seqIndex_neg->Zs,wpAny_pyNext_range_end->Zu
open PySem.Around renaming under_plainId->Uf,under->V9
open PySem.Builtin.Dict renaming showsAll->Tv
open PySem.Builtin.Dict_items renaming ownsTuple->Ru,ownedTupleFields->UY,ownedTupleIsFree->UZ,pairFromOwner->Vm
open PySem.Builtin.Int renaming intBits->W7
open PySem.Builtin.List renaming listExtendWith->SA,listSameRef->SX,listTooLong->UA,listLengthHint->V4,listTouch->Ws
open PySem.Builtin.Range renaming rangeFitsLong->QA,rangeSize->UB
open PySem.Builtin.SmallTypes renaming nextOf->Rh,ownedTupleIsFree->RB,ownedTupleHandOut->UV,refuseKeywords->Ve
open PySem.Builtin.Tuple renaming tupleHashOf->Ui
open PySem.Calls renaming call_function_entry->U1,callWith_builtin->Vy,Name_function_global->WV,spliced_cons->Yy,spliced_nil->YU
open PySem.Challenge renaming rw_edgetally_k17_paper_told->P8
open PySem.Code renaming isFrame->XG
open PySem.Draws renaming list->Yz
open PySem.F renaming slot_dict_itemiterator_next->Re,plainAttrs_list->Ri,slot_list_append->RC,type_list_append->RE,slot_dict_keyiterator_next->RX,slot_tuple_iterator_next->Tf,args_tuple_add_2->U5,entry_tuple_add->Vi,slot_tuple_add->Vr,plain_list_iadd->Vt,slot_zip_next->VR,args_dict_itemiterator_next_1->WM,args_dict_keyiterator_next_1->WW,entry_dict_itemiterator_next->WX,entry_dict_keyiterator_next->W8,slot_dict_itemiterator_iter->W9,args_tuple_iterator_next_1->Xe,entry_tuple_iterator_next->Xr,slot_dict_items_iter->YA,entry_proto_collect->YV,plain_proto_collect->YW,args_list_append_2->Zh
open PySem.Heap renaming get?_push_of_some->OK,get?_push_size->O7,lt_size->Pq,SameBut->PQ,size_push->Q1,get?_update_ne->Rr,get?_update_self->R8,ExtBut->VS,get?_update_other->XH,get?_none_of_le->Ym,get?_push_ne->Zi
open PySem.Heap.IsSliceOf renaming new->WN
open PySem.Heap.SameBut renaming update->QK
open PySem.IntMulOk renaming of_bits->Yn
open PySem.IsRange renaming new->Xz
open PySem.IsTupleKey renaming typeIs->XA
open PySem.Manifest renaming find?->YY
open PySem.NameKind renaming free->Sa,cell->WT
open PySem.Obj renaming mapSeq->Qx,data_mapFields->Q3,isFreed_of_fields->Uh,cls_mapFields->Vp,putSet->VJ,mapFields->XB
open PySem.P renaming add_list->YI
open PySem.PyData renaming depth->S3,eqv->Tt,eqvAll->Ue,depthAll->Wx,canLayAll0->YH
open PySem.SeqAt renaming EqAt->QV,shaped->UH
open PySem.SeqAt.EqAt renaming int_int->Xv
open PySem.SetTable renaming fits->WU,fresh->Y4
open PySem.Str renaming ofString->Q5,empty->Tj
open PySem.Value renaming ref->Pa,none->P4,type->Sm,int->S6,isInt_shape->Vc,bool->V6,isInt->X1,str->Zn
open PySem.W renaming Frag->Pl,fnOf->TM,findIn->T9,codeIn->UF,segRun->UG,emptyDict->UI,keepIn->U8,piecesOf->Vj,kia_one->VD,kia_tup->VE,instObj->Wm,kitx_list->Wn,of_hideAll->XZ,cellsFrom_some->X4,kitx_tuple->X9,topFrame->Yg,kitx_bool->Ys,kitx_none->Yt,plainOver->Yu,handedIn->YJ,kitx_int->YK,kitx_own->YL,kitx_str->YM,makesIn->Y0,takesIn->Y1,topStub->Y2,kitAny->Zl,topRun->Zm,hideAll->Zp,hideAll_none->Zq
open PySem.W.OpenLaw renaming row->R7
open PySem.W.OpenRow renaming toRowW->RJ
open PySem.W.RowW renaming prog->Xm
open PySem.W.WData renaming int->Xd
open PySem.pickOrder renaming go->W3
open True renaming intro->S4
open PySem PySem.Spec PyProof PyProof.Rows
abbrev a1b:=List Bool
abbrev a1a:=OP->OP->X0 OP
abbrev a0W:=Int->Int->Prop
abbrev a0S:=P6->Nat
abbrev a0R:=List QH
abbrev a0Q:=Option OM
abbrev a0P:=List Q7
abbrev a0N:=Nat->Int
abbrev a0M:=List (PZ×Tk)
abbrev a0L:=Int->Int->Int
abbrev a0I:=Option Nat
abbrev a0H:=Array OP
abbrev a0C:=Option Bool
abbrev a0B:=List WL
abbrev a0z:=List P6
abbrev a0x:=Array (Int×OP)
abbrev a0w:=Array a0I
abbrev a0v:=Array P6
abbrev a0u:=Option Int
abbrev a0q:=List OM
abbrev a0n:=List (PZ×OM)
abbrev a0m:=Option (OM×OM)
abbrev a0j:=PZ->Option OP
abbrev a0i:=List PZ
abbrev a0h:=List (Nat×Nat)
abbrev a0g:=List OP
abbrev a0f:=List a0h
abbrev a0e:=List Int
abbrev a0p:=List (a0e×OM)
abbrev a0d:=OP->OV->Prop
abbrev a0c:=List (OM×PF)
abbrev a0a:=List Nat
abbrev a0K:=List a0a
abbrev a0U:=List (Nat×a0a)
abbrev a0X:=a0a->a0a->Prop
abbrev OY:=@if_neg
abbrev OZ:=@if_pos
abbrev Pf:=@decide_eq_true
abbrev Pp:=@absurd
abbrev PX:=@decide_eq_true_eq
abbrev PY:=@decide_eq_false
abbrev Qb:=@congrArg
abbrev Qj:=@if_false
abbrev Qq:=@if_true
abbrev QP:=@of_decide_eq_true
abbrev SS:=@bne_self_eq_false
abbrev Tl:=@beq_iff_eq
abbrev Tz:=@or_false
abbrev VN:=@beq_eq_false_iff_ne
abbrev Xw:=@dif_pos
abbrev Yd:=@of_decide_eq_false
abbrev Zo:=@beq_self_eq_true
abbrev Zr:=@not_or
open PySem.W (Frag instObj methodObj hideAll hideAll_get hideAll_none lookIn plainGet hasDictIn findIn plainGet_of isFn takerIn emptyDict keepIn specialIn kitOne kia_one kitx_list kitx_tuple cellsFrom_some mg_of kia_tup)
abbrev LI:=List a0e
abbrev LP:=List (List (Int×Int))
--CHANGE:your row's module here,as the last of these ac
namespace L2
inductive V where
 |non|bl (b:Bool)|int (i:Int)|str (x:PZ)|ref (a:OM)|ty (n:String)
 deriving DecidableEq
abbrev a0k:=List V
abbrev a0E:=List (PZ×V)
def aJ:V->OP->Prop
 | .non,u=>u=P4
 | .bl b,u=>u=V6 b
 | .int i,u=>∃t,u=S6 i t
 | .str x,u=>∃t,u=Zn x t
 | .ref a,u=>u=Pa a
 | .ty n,u=>u=Sm n
abbrev aw:a0k->a0g->Prop:=U4 aJ
theorem aw.length{xs:a0k}{us:a0g}(r:aw xs us):xs.length=us.length:=Paired.length r
theorem aw.get:∀{xs:a0k} {D:a0g} {i:Nat} {x:V},aw xs D->xs[i]?=My x->∃u,D[i]?=My u/\aJ x u
 |_,_,_,_,.nil,e=>by simp at e
 |_,_,0,_,.cons r _,e=>by simp at e;subst e;exact⟨_,rfl,r⟩
 |_,_,i+1,x,.cons _ t,e=>by
  obtain⟨u,a,b⟩:=aw.get (i:=i) (x:=x) t (by simpa using e);exact⟨u,by simpa using a,b⟩
theorem aw.set(r:aJ x u):∀{xs:a0k} {D:a0g} (i:Nat),aw xs D->aw (xs.set i x) (D.set i u)
 |_,_,_,.nil=> .nil
 |_,_,0,.cons _ t=> .cons r t
 |_,_,i+1,.cons q t=> .cons q (aw.set r i t)
theorem aw.append:∀{xs D:a0k} {E a:a0g},aw xs E->aw D a->aw (xs++D) (E++a)
 |_,_,_,_,.nil,s=>s
 |_,_,_,_,.cons r t,s=> .cons r (aw.append t s)
theorem aw.take:∀{xs:a0k} {D:a0g} (n:Nat),aw xs D->aw (xs.take n) (D.take n)
 |_,_,0,_=> .nil
 |_,_,_+1,.nil=> .nil
 |_,_,n+1,.cons r t=> .cons r (aw.take n t)
theorem aw.drop:∀{xs:a0k} {D:a0g} (n:Nat),aw xs D->aw (xs.drop n) (D.drop n)
 |_,_,0,r=>r
 |_,_,_+1,.nil=> .nil
 |_,_,n+1,.cons _ t=>aw.drop n t
def gZ:Option V->Option OP->Prop
 |some v,My u=>aJ v u
 |none,OI=>True
 |_,_=>False
inductive HO where
 |lst (xs:a0k)
 |tup (xs:a0k)
 |ins (C dx:OM) (fs:a0E)
 |own (x:OM)
 |xd (fs:a0E)
 |met (f x:OM)
 |rng (lo hi:Int)
 |frz (o:PF) (u:HO)
 |tbl (ps:a0H)
 |ext (φ:Qt->Prop)
abbrev Hp:=OM->Option HO
abbrev a0V:=Bool->Hp->Prop
noncomputable def upd(H:Hp)(a:OM)(o:HO):Hp:=λb=>if b=a then My o else H b
theorem ao:upd H a o a=My o:=by unfold upd;rw[OZ rfl]
theorem bb(h:b≠a):upd H a o b=H b:=by unfold upd;rw[OY h]
theorem N7{H:Hp}{a b:OM}{o u:HO}(h:H a=My o)(D:H b=My u)(d:o≠u):a≠b:=by
 intro e;subst e;rw[h]at D;exact d (PH D)
theorem aB{H:Hp}{a b:OM}{o:HO}(h:H a=My o)(D:H b=OI):a≠b:=by
 intro e;subst e;rw[h]at D;cases D
section
variable(P:PM)(w:P0)
def bJ(P:PM)(w:P0)(H:Hp)(h:Qt)(a:OM):HO->Prop
 | .lst xs=>xs.length<=Pk/\∃(D:a0g) (n:Nat),aw xs D/\h.get? a=My {cls:= .type "list",data:= .seq D.toArray n}
 | .tup xs=>xs.length<=Pk/\∃D:a0g,aw xs D/\IsTup h a D.toArray
 | .ins C dx fs=>H dx=My (.own a)/\fs.length<=1000/\dx≠a/\h.get? a=My (Wm C dx)/\
   ∃b,h.Ns1 dx b/\(∀f,gZ (fs.lookup f) (b f))/\Wd b (fs.map (·.1))
 | .own _=>∃o,h.get? a=My o
 | .xd fs=>∃b,h.Ns1 a b/\∀f,gZ (fs.lookup f) (b f)
 | .rng lo hi=>∃t u v,h.get? a=My {cls:= .type "range",data:= .fields #[.int lo t,.int hi u,.int 1 v]}
 | .frz o u=>h.get? a=My o/\bJ P w H h a u
 | .tbl ps=>h.get? a=My {cls:= .none,data:= .fields ps}
 | .met f x=>h.get? a=My (methodObj (.ref f) (.ref x))
 | .ext φ=>φ h/\(∃o,h.get? a=My o)/\∀c d:Qt,φ c->(∀o,c.get? a=My o->d.get? a=My o)->φ d
def js(H:Hp)(h:Qt):Prop:=∀a o,H a=My o->bJ P w H h a o
end
section
variable{P:PM}{w:P0}{H s:Hp}{h h':Qt}{a:OM}{o:HO}
theorem bJ.lt(x:bJ P w H h a o):a<h.objs.size:=by
 cases o with
 |lst xs=>obtain⟨_,_,_,_,e⟩:=x;exact Pq e
 |tup xs=>obtain⟨_,_,_,p⟩:=x;exact p.lt
 |ins C dx fs=>obtain⟨_,_,_,e,_⟩:=x;exact Pq e
 |own y=>obtain⟨_,e⟩:=x;exact Pq e
 |xd fs=>obtain⟨_,⟨_,_,_,e,_⟩,_⟩:=x;exact Pq e
 |rng lo hi=>obtain⟨_,_,_,e⟩:=x;exact Pq e
 |frz ob u=>obtain⟨e,_⟩:=x;exact Pq e
 |tbl ps=>exact Pq (show h.get? a=My _ from x)
 |met f y=>exact Pq (show h.get? a=My _ from x)
 |ext φ=>obtain⟨_,⟨_,e⟩,_⟩:=x;exact Pq e
theorem bJ.stay(x:bJ P w H h a o)(k:∀b u,(b=a\/H b=My (.own a))->h.get? b=My u->h'.get? b=My u)
  (l:∀b,H b=My (.own a)->s b=My (.own a)) (A:∀b E,H b=My (.tup E)->s b=My (.tup E)):bJ P w s h' a o:=by
 induction o with
 |lst E=>obtain⟨z,D,n,r,e⟩:=x;exact⟨z,D,n,r,k _ _ (.inl rfl) e⟩
 |tup E=>obtain⟨z,D,r,g,e,c⟩:=x;exact⟨z,D,r,g,k _ _ (.inl rfl) e,c⟩
 |ins C dx fs=>
  obtain⟨d,z,S,e,i,⟨j,G,K,m,c⟩,r⟩:=x;exact⟨l _ d,z,S,k _ _ (.inl rfl) e,i,⟨j,G,K,k _ _ (.inr d) m,c⟩,r⟩
 |own y=>obtain⟨g,e⟩:=x;exact⟨g,k _ _ (.inl rfl) e⟩
 |xd fs=>obtain⟨i,⟨j,G,K,e,c⟩,r⟩:=x;exact⟨i,⟨j,G,K,k _ _ (.inl rfl) e,c⟩,r⟩
 |rng lo hi=>obtain⟨t,u,v,e⟩:=x;exact⟨t,u,v,k _ _ (.inl rfl) e⟩
 |frz g u ih=>obtain⟨e,q⟩:=x;exact⟨k _ _ (.inl rfl) e,ih q⟩
 |tbl ps=>
  have e:h.get? a=My {cls:= .none,data:= .fields ps}:=x;show h'.get? a=My {cls:= .none,data:= .fields ps};exact k a _ (.inl rfl) e
 |met f y=>
  have e:h.get? a=My (methodObj (.ref f) (.ref y)):=x;show h'.get? a=My (methodObj (.ref f) (.ref y));exact k a _ (.inl rfl) e
 |ext φ=>obtain⟨p,⟨o,e⟩,M⟩:=x;exact⟨M _ _ p λo q=>k _ _ (.inl rfl) q,⟨o,k _ _ (.inl rfl) e⟩,M⟩
theorem js.lt(x:js P w H h)(e:H a=My o):a<h.objs.size:=(x a o e).lt
theorem js.fresh(x:js P w H h)(e:h.objs.size<=a):H a=OI:=by
 cases q:H a with
 |none=>rfl
 |some u=>exact Pp (Pm (x.lt q) e) (Qg _)
theorem js.kept(x:js P w H h)(k:∀b u,h.get? b=My u->h'.get? b=My u):js P w H h':=λa o e=>
 (x a o e).stay (λb u _ q=>k b u q) (λ_ q=>q) λ_ _ q=>q
theorem js.laid(x:js P w H h)(k:∀b u,h.get? b=My u->h'.get? b=My u)(f:h.objs.size<=a)(s:bJ P w (upd H a o) h' a o):js P w (upd H a o) h':=λb u e=>by
 have D:=x.fresh f;by_cases d:b=a
 .subst d;rw[ao]at e;cases e;exact s
 .rw[bb d]at e
  exact(x b u e).stay (λc v _ q=>k c v q) (λc q=>by rw[bb (aB q D)];exact q) λc E q=>by rw[bb (aB q D)];exact q
def Rd(H:Hp)(a:OM)(u:HO):Prop:=H a=My u\/∃o,H a=My (.frz o u)
theorem Rd.ok{P:PM}{w:P0}{H:Hp}{h:Qt}{a:OM}(r:Rd H a u)(x:js P w H h):bJ P w H h a u:=by
 rcases r with r|⟨o,r⟩
 .exact x a u r
 .obtain⟨_,q⟩:=x a _ r
  exact q
def Mut:Option HO->Prop
 |some (.lst _)=>True
 |some (.ins _ _ _)=>True
 |some (.ext _)=>True
 |_=>False
variable{x e:OM}{p:HO}
theorem js.write(s:js P w H h)(mu:Mut (H x))(l:e=x\/H e=My (.own x))(k:∀b u,b≠e->h.get? b=My u->h'.get? b=My u)(j:∃u,h'.get? e=My u)
  (o:bJ P w (upd H x p) h' x p):js P w (upd H x p) h':=λb u q=>by
 have f:∀c y,H c=My (.own y)->c≠x:=λc y r z=>by subst z;rw[r]at mu;exact mu
 have g:∀c a,H c=My (.tup a)->c≠x:=λc a r z=>by subst z;rw[r]at mu;exact mu
 by_cases i:b=x
 .subst i;rw[ao]at q;cases q;exact o
 .rw[bb i]at q
  by_cases d:b=e
  .have m:H b=My (.own x):=by
    rcases l with z|z
    .exact Pp (d.trans z) i
    .rw[d];exact z
   rw[q]at m;cases m;obtain⟨v,n⟩:=j;exact⟨v,by rw[d];exact n⟩
  .refine(s b u q).stay (λc v hc r=>k c v ?_ r) (λc r=>by rw[bb (f c b r)];exact r) λc a r=>by rw[bb (g c a r)];exact r
   rcases hc with rfl|hc
   .exact d
   .rintro rfl
    rcases l with z|z
    .exact f c b hc z
    .rw[hc]at z;cases z;exact i rfl
structure Un (fs ex:a0q) (H s:Hp) (h h':Qt):Prop where
 keep:∀b o,h.get? b=My o->H b=OI->b∉fs->b∉ex->h'.get? b=My o
 slot:∀b o,h.get? b=My o->H b=OI->b∈fs->b∉ex->∃sl,h'.get? b=My {o with slots:=sl}
 free:∀b o,h.get? b=My o->H b=OI->b∉ex->s b=OI
 there:∀b o,h.get? b=My o->b∉ex->∃p,h'.get? b=My p
 tups:∀b xs,H b=My (.tup xs)->s b=My (.tup xs)
 frzs:∀b o u,H b=My (.frz o u)->s b=My (.frz o u)
 tbls:∀b ps,H b=My (.tbl ps)->∃more,s b=My (.tbl (ps++more))
variable{l g ex i:a0q}{m s:Hp}{k r:Qt}
theorem Un.any(u:Un l ex H m h k)(q:h.get? b=My ob)(n:H b=OI)(a:b∉ex):∃e,k.get? b=My {ob with slots:=e}:=by
 by_cases c:b∈l
 .exact u.slot b ob q n c a
 .exact⟨ob.slots,u.keep b ob q n c a⟩
theorem Un.trans(a:Un l ex H m h k)(b:Un l ex m s k r):Un l ex H s h r where
 keep:=λc d q n g e=>b.keep c d (a.keep c d q n g e) (a.free c d q n e) g e
 slot:=λc d q n g e=>by
  obtain⟨E,f⟩:=a.slot c d q n g e;obtain⟨i,j⟩:=b.slot c _ f (a.free c d q n e) g e;exact⟨i,j⟩
 free:=λc d q n e=>by
  obtain⟨p,f⟩:=a.there c d q e;exact b.free c p f (a.free c d q n e) e
 there:=λc d q e=>by
  obtain⟨p,f⟩:=a.there c d q e;exact b.there c p f e
 tups:=λc o q=>b.tups c o (a.tups c o q)
 frzs:=λc d o q=>b.frzs c d o (a.frzs c d o q)
 tbls:=λc w q=>by
  obtain⟨x,f⟩:=a.tbls c w q;obtain⟨D,j⟩:=b.tbls c _ f;exact⟨x++D,by rw[j,Yw]⟩
theorem Un.kept(k:∀b u,h.get? b=My u->h'.get? b=My u):Un l ex H H h h':=
 ⟨λb c q _ _ _=>k b c q,λb c q _ _ _=>⟨c.slots,k b c q⟩,λ_ _ _ n _=>n,λb c q _=>⟨c,k b c q⟩,λ_ _ q=>q,λ_ _ _ q=>q,λ_ a q=>⟨#[],by rw[q];simp⟩⟩
theorem Un.refl:Un l ex H H h h:=Un.kept λ_ _ q=>q
theorem Un.laid(k:∀b u,h.get? b=My u->h'.get? b=My u)(c:h.objs.size<=a)(e:H a=OI):Un l ex H (upd H a o) h h' where
 keep:=λb u q _ _ _=>k b u q
 slot:=λb u q _ _ _=>⟨u.slots,k b u q⟩
 free:=λb u q n _=>by rw[bb (Qc (Pm (Pq q) c))];exact n
 there:=λb u q _=>⟨u,k b u q⟩
 tups:=λb g q=>by rw[bb (aB q e)];exact q
 frzs:=λb u g q=>by rw[bb (aB q e)];exact q
 tbls:=λb i q=>⟨#[],by rw[bb (aB q e),q];simp⟩
theorem Un.write(mu:Mut (H x))(g:e=x\/H e=My (.own x))(k:∀b u,b≠e->h.get? b=My u->h'.get? b=My u)(d:∃u,h'.get? e=My u):Un l ex H (upd H x o) h h':=by
 have m:∀b,H b=OI->b≠x:=λb n z=>by subst z;rw[n]at mu;exact mu
 have f:∀b,H b=OI->b≠e:=λb n z=>by
  subst z;rcases g with r|r
  .exact m b n r
  .rw[n]at r;cases r
 have a:∀b u,H b=My u->¬Mut (My u)->b≠x:=λb u q i z=>by subst z;rw[q]at mu;exact i mu
 refine⟨λb u q n _ _=>k b u (f b n) q,λb u q n _ _=>⟨u.slots,k b u (f b n) q⟩,λb u q n _=>by rw[bb (m b n)];exact n,λb u q _=>?_,
  λb p q=>by rw[bb (a b _ q λz=>z)];exact q,λb u p q=>by rw[bb (a b _ q λz=>z)];exact q,λb s q=>⟨#[],by rw[bb (a b _ q λz=>z),q];simp⟩⟩
 by_cases c:b=e
 .subst c;exact d
 .exact⟨u,k b u c q⟩
theorem Un.mono(u:Un l ex H m h k)(e:∀b∈l,b∈g)(a:∀b∈ex,b∈i):Un g i H m h k:=
 ⟨λb d q n f c=>u.keep b d q n (λz=>f (e b z)) λz=>c (a b z),λ_ _ q n _ c=>u.any q n λz=>c (a _ z),λb d q n c=>u.free b d q n λz=>c (a b z),λb d q c=>u.there b d q λz=>c (a b z),u.tups,u.frzs,u.tbls⟩
noncomputable def Z2(h:Qt)(H:Hp):a0q:=(OX h.objs.size).filter λa=>(H a).isSome
noncomputable def j6(h:Qt)(H:Hp):Qt:=Zp h (Z2 h H)
theorem AE(h:Qt)(H:Hp):(j6 h H).objs.size=h.objs.size:=PySem.W.hideAll_size _ _
theorem EF{h:Qt}{H:Hp}{o:PF}(e:h.get? b=My o)(n:H b=OI):(j6 h H).get? b=My o:=
 hideAll_get _ e λa=>by
  have q:(H b).isSome=OL:=(VI.mp a).2;rw[n]at q;simp at q
theorem JX{h:Qt}{H:Hp}{o:PF}(e:(j6 h H).get? b=My o):h.get? b=My o/\H b=OI:=by
 have c:h.get? b=My o:=XZ (Z2 h H) e;refine⟨c,?_⟩;cases q:H b with
 |none=>rfl
 |some x=>
  have a:b∈Z2 h H:=VI.mpr ⟨Pn.mpr (Pq c),by simp[q]⟩;have z:(j6 h H).get? b=OI:=Zq (Z2 h H) a;rw[z]at e;cases e
structure Mod (K:Pl) (mg:a0j) (base:Qt):Prop where
 kin:K.In base
 glob:base.Ns RG mg
 blt:∃mb,base.Ns X3 mb/\∀x:PZ,x≠"__name__"->mb x=Tx x
 nolimit:base.NoLimit
structure Cx where
 prog:PM
 w:P0
 K:Pl
 mg:PZ->Option OP
 base:Qt
 A:P7
 N:a0i
 s₀:OV
 H₀:Hp
 env:WL
 outer:a0B
 stack:a0B
 ex:a0q
 fn:PZ->Bool
 calm:Bool
 pn:a0c
 xe:OP->OV->Prop
noncomputable def f0(l:a0B):a0q:=l.filterMap (·.frame)
end
noncomputable abbrev Cx.fs(X:Cx):a0q:=f0 X.outer
def ZQ(a:Scope)(x:PZ):Prop:=a.names.lookup x=My .local\/a.names.lookup x=My .cell\/a.names.lookup x=My .free
def uY(a:Scope)(x:PZ):Prop:=a.names.lookup x=My .local\/a.names.lookup x=My .cell
def Look(D:WL)(h:Qt)(m:a0j)(x:PZ)(u:OP):Prop:=
 (D.kindOf x=My .local/\m x=My u)\/((D.kindOf x=My .cell\/D.kindOf x=My .free)/\∃c,D.cells.lookup x=My c/\h.IsCell c (My u))
structure Cx.Ok (X:Cx):Prop where
 mod:Mod X.K X.mg X.base
 kind:X.env.scope.kind= .function
 glob:X.env.globals=RG
 blt:X.env.builtins=X3
 above:X.s₀.heap.objs.size<=X.env.locals
 inj:∀x y c,X.env.cells.lookup x=My c->X.env.cells.lookup y=My c->x=y
 has:∀x,(X.env.kindOf x=My .cell\/X.env.kindOf x=My .free)->∃c,X.env.cells.lookup x=My c
 cab:∀x c,X.fn x=OL->X.env.cells.lookup x=My c->X.s₀.heap.objs.size<=c
 hd:X.calm=OL->X.A.handled=OI
 frames:X.A.frames=My X.stack
 stk:X.stack=X.outer\/(X.stack=X.env::X.outer/\X.env.frame=My X.env.locals)
 exf:∀b∈X.ex,b≠X.env.locals/\∀x c,X.env.cells.lookup x=My c->c≠b
 bs:∀b o,X.base.get? b=My o->X.s₀.heap.get? b=My o/\X.H₀ b=OI
 bsz:X.base.objs.size<=X.s₀.heap.objs.size
 noex:∀b o,X.base.get? b=My o->b∉X.ex
 exfs:∀b∈X.ex,b∉X.fs
 funs:X.s₀.heap.FunFrames X.base X.outer
 frf:∀b∈X.fs,X.H₀ b=OI
structure b_ (X:Cx) (a_:a0c) (σ:List (Option V)) (H:Hp) (s:OV):Prop where
 ok:X.Ok
 os:s.os=X.s₀.os
 bare:Vd s.gens
 base:Un X.fs X.ex X.H₀ H X.s₀.heap s.heap
 loc:∃m,s.heap.Ns X.env.locals m/\∀(i:Nat) (x:PZ) (v:V),X.N[i]?=My x->σ[i]?=My (My v)->ZQ X.env.scope x->∃u,aJ v u/\Look X.env s.heap m x u
 cell:∀x c,X.env.cells.lookup x=My c->∃v,s.heap.IsCell c v
 free:H X.env.locals=OI
 freeC:∀x c,X.env.cells.lookup x=My c->H c=OI
 pin:∀p∈X.pn++a_,s.heap.get? p.1=My p.2/\H p.1=OI/\p.1≠X.env.locals/\p.1∉X.fs/\∀v,p.2.data≠ .cell v
 hok:js X.prog X.w H s.heap
 len:σ.length=X.N.length
section
variable{X:Cx}{a_:a0c}{σ:List (Option V)}{H R:Hp}{s:OV}{h':Qt}
theorem Cx.Ok.nofr(s:X.Ok)(e:X.base.get? b=My o):b∉X.fs:=λa=>by
 have:=(s.funs.mem a).1;rw[e]at this;cases this
theorem b_.bs(I:b_ X a_ σ H s):∀b o,X.base.get? b=My o->s.heap.get? b=My o/\H b=OI:=λb o e=>
 ⟨I.base.keep b o (I.ok.bs b o e).1 (I.ok.bs b o e).2 (I.ok.nofr e) (I.ok.noex b o e),I.base.free b o (I.ok.bs b o e).1 (I.ok.bs b o e).2 (I.ok.noex b o e)⟩
theorem b_.bk(I:b_ X a_ σ H s):∀b o,X.base.get? b=My o->s.heap.get? b=My o:=λb o e=>(I.bs b o e).1
theorem b_.mod(I:b_ X a_ σ H s):Mod X.K X.mg X.base:=I.ok.mod
theorem b_.kIn(I:b_ X a_ σ H s):X.K.In s.heap:=I.ok.mod.kin.keeps I.bk
theorem b_.fr(I:b_ X a_ σ H s):∃m,Fr X.base X.env.locals s.heap m:=
 let ⟨m,hn,_⟩:=I.loc
 ⟨m,hn,I.bk,Pj I.ok.bsz I.ok.above⟩
theorem b_.lt(I:b_ X a_ σ H s):X.env.locals<s.heap.objs.size:=let ⟨_,hn,_⟩:=I.loc;hn.lt
theorem b_.sz(I:b_ X a_ σ H s):X.s₀.heap.objs.size<=s.heap.objs.size:=Pj I.ok.above (Qo I.lt)
theorem b_.nofs(I:b_ X a_ σ H s){a:OM}(h:s.heap.objs.size<=a):a∉X.fs:=λb=>by
 obtain⟨_,o,c,_⟩:=I.ok.funs.mem b;exact Pp (Pm (Pq c) (Pj I.sz h)) (Qg _)
theorem b_.cne(I:b_ X a_ σ H s):∀x c,X.env.cells.lookup x=My c->c≠X.env.locals:=λx c e z=>by
 obtain⟨v,o,d,D⟩:=I.cell x c e;obtain⟨m,⟨f,E,G,a,b,_⟩,_⟩:=I.loc;rw[z,a]at d;cases d;rw[b]at D;cases D
theorem b_.funs(I:b_ X a_ σ H s):s.heap.FunFrames X.base X.outer:=by
 have D:∀(l:a0B),(∀b∈f0 l,b∈X.fs)->X.s₀.heap.FunFrames X.base l->s.heap.FunFrames X.base l:=by
  intro l
  induction l with
  |nil=>intro _ _;trivial
  |cons G r K=>
   intro E f;obtain⟨g,⟨L,o,a,M,h,R⟩,i⟩:=f;have c:L∈X.fs:=E L (by unfold f0;rw[Q8,a];exact OU);obtain⟨S,e⟩:=I.base.slot L o h (I.ok.frf L c) c λz=>I.ok.exfs L z c;exact⟨g,⟨L,_,a,M,e,R⟩,K (λb d=>E b (by unfold f0;rw[Q8,a];exact OO _ d)) i⟩
 exact D X.outer (λ_ d=>d) I.ok.funs
theorem b_.stack(I:b_ X a_ σ H s):s.heap.FunFrames X.base X.stack:=by
 rcases I.ok.stk with e|⟨e,a⟩
 .rw[e];exact I.funs
 .rw[e]
  obtain⟨m,D,_⟩:=I.loc;refine .cons (by rw[I.ok.kind];decide) a D ?_ I.funs;exact Ym (Pj I.ok.bsz I.ok.above)
theorem b_.stkSub(I:b_ X a_ σ H s):∀b∈f0 X.stack,b∈X.env.locals::X.fs:=λb a=>by
 rcases I.ok.stk with e|⟨e,c⟩
 .rw[e]at a;exact OO _ a
 .rw[e]at a
  unfold f0 at a;rw[Q8,c]at a;exact a
theorem b_.stkFree(I:b_ X a_ σ H s):∀b∈f0 X.stack,H b=OI:=λb hb=>by
 rcases O6.mp (I.stkSub b hb)with e|hb
 .rw[e];exact I.free
 .obtain⟨_,o,a,_⟩:=I.ok.funs.mem hb
  exact I.base.free b o a (I.ok.frf b hb) λz=>I.ok.exfs b z hb
theorem b_.step{ch:a0q}(I:b_ X a_ σ H s)
  (a:∀b∈ch,(b∈X.ex\/X.s₀.heap.objs.size<=b)/\b≠X.env.locals/\(∀x c,X.env.cells.lookup x=My c->c≠b)/\∀p∈X.pn++a_,p.1≠b)
  (G:∀b o,b≠X.env.locals->b∉X.fs->b∉ch->s.heap.get? b=My o->H b=OI->h'.get? b=My o)
  (K:∀b o,b≠X.env.locals->b∈X.fs->b∉ch->s.heap.get? b=My o->H b=OI->∃Z,h'.get? b=My {o with slots:=Z}) (E:∀b o,b∉ch->s.heap.get? b=My o->H b=OI->R b=OI)
  (S:∀b o,b∉ch->s.heap.get? b=My o->∃A,h'.get? b=My A)
  (V:∀b M,H b=My (.tup M)->R b=My (.tup M)) (Q:∀b o u,H b=My (.frz o u)->R b=My (.frz o u)) (T:∀b W,H b=My (.tbl W)->∃U,R b=My (.tbl (W++U)))
  (ns:∀m,s.heap.Ns X.env.locals m->h'.Ns X.env.locals m) (Y:js X.prog X.w R h') (N:Vd g'):
  b_ X a_ σ R {s with heap:=h',gens:=g',drawn:=d',toks:=t'}:=by
 have B:∀b o,X.s₀.heap.get? b=My o->b≠X.env.locals:=λb o e=>Qc (Pm (Pq e) I.ok.above);have h:∀b o,X.s₀.heap.get? b=My o->b∉X.ex->b∉ch:=λb o e D t=>by
  rcases(a b t).1 with z|z
  .exact D z
  .exact Pp (Pm (Pq e) z) (Qg _)
 have f:∀x c,X.env.cells.lookup x=My c->∀v,s.heap.IsCell c v->h'.IsCell c v:=λx c e v ⟨o,y,hd⟩=>by
  have g:c∉ch:=λz=>(a c z).2.2.1 x c e rfl;by_cases J:c∈X.fs
  .obtain⟨Z,q⟩:=K c o (I.cne x c e) J g y (I.freeC x c e)
   exact⟨_,q,hd⟩
  .exact⟨o,G c o (I.cne x c e) J g y (I.freeC x c e),hd⟩
 refine⟨I.ok,I.os,N,⟨λb o e n t D=>?_,λb o e n t D=>?_,λb o e n D=>?_,λb o e D=>?_,λb M e=>V b M (I.base.tups b M e),λb o M e=>Q b o M (I.base.frzs b o M e),λb W e=>?_⟩,?_,λx c e=>?_,?_,λx c e=>?_,λp L=>?_,Y,I.len⟩
 .exact G b o (B b o e) t (h b o e D) (I.base.keep b o e n t D) (I.base.free b o e n D)
 .obtain⟨Z,j⟩:=I.base.slot b o e n t D
  obtain⟨F,C⟩:=K b _ (B b o e) t (h b o e D) j (I.base.free b o e n D);exact⟨F,C⟩
 .obtain⟨A,j⟩:=I.base.there b o e D
  exact E b A (h b o e D) j (I.base.free b o e n D)
 .obtain⟨A,j⟩:=I.base.there b o e D
  exact S b A (h b o e D) j
 .obtain⟨m1,j⟩:=I.base.tbls b W e
  obtain⟨m2,C⟩:=T b _ j;exact⟨m1++m2,by rw[C,Yw]⟩
 .obtain⟨m,hn,O⟩:=I.loc
  refine⟨m,ns m hn,λi x v j C P=>?_⟩;obtain⟨u,r,l⟩:=O i x v j C P;refine⟨u,r,?_⟩;rcases l with l|⟨k,c,e,z⟩
  .exact .inl l
  .exact .inr ⟨k,c,e,f x c e _ z⟩
 .obtain⟨v,z⟩:=I.cell x c e
  exact⟨v,f x c e v z⟩
 .obtain⟨m,⟨o,_,_,y,_⟩,_⟩:=I.loc
  exact E _ o (λz=>(a _ z).2.1 rfl) y I.free
 .obtain⟨v,o,y,hd⟩:=I.cell x c e
  exact E c o (λz=>(a c z).2.2.1 x c e rfl) y (I.freeC x c e)
 .obtain⟨e,n,ne,nf,d⟩:=I.pin p L
  have g:p.1∉ch:=λz=>(a p.1 z).2.2.2 p L rfl;exact⟨G p.1 p.2 ne nf g e n,E p.1 p.2 g e n,ne,nf,d⟩
theorem b_.un(I:b_ X a_ σ H s)(u:Un X.fs [] H R s.heap h')(D:js X.prog X.w R h'):b_ X a_ σ R {s with heap:=h',toks:=t'}:=by
 obtain⟨m,⟨o,G,K,g,r⟩,_⟩:=id I.loc;obtain⟨M,h⟩:=u.any g I.free (by simp);exact I.step (g':=s.gens) (d':=s.drawn) (ch:=[]) (λ_ z=>nomatch z) (λb o _ c _ e n=>u.keep b o e n c (by simp)) (λb o _ c _ e n=>u.slot b o e n c (by simp)) (λb o _ e n=>u.free b o e n (by simp)) (λb o _ e=>u.there b o e (by simp)) u.tups u.frzs u.tbls (λj E=>by
  obtain⟨k,d,f,a,i⟩:=E;rw[g]at a;cases a;exact⟨_,d,f,h,i⟩) D I.bare
theorem b_.call{ch:a0q}(I:b_ X a_ σ H s)(u:Un (f0 X.stack) ch H R s.heap h')(D:js X.prog X.w R h')(k:Vd g')
  (d:∀b∈ch,(b∈X.ex\/X.s₀.heap.objs.size<=b)/\b≠X.env.locals/\(∀x c,X.env.cells.lookup x=My c->c≠b)/\∀p∈X.pn++a_,p.1≠b):
  b_ X a_ σ R {s with heap:=h',gens:=g',drawn:=d',toks:=t'}:=by
 obtain⟨m,⟨o,G,K,j,r⟩,_⟩:=id I.loc;obtain⟨M,g⟩:=u.any j I.free λz=>(d _ z).2.1 rfl;exact I.step (ch:=ch) d (λb o g l a e n=>u.keep b o e n (λz=>(O6.mp (I.stkSub b z)).elim g l) a) (λb o _ _ a e n=>u.any e n a) (λb o a e n=>u.free b o e n a) (λb o a e=>u.there b o e a) u.tups u.frzs u.tbls (λt E=>by
  obtain⟨v,h,i,f,q⟩:=E;rw[j]at f;cases f;exact⟨_,h,i,g,q⟩) D k
theorem b_.turned(I:b_ X a_ σ H s)(k:∀b o,b≠t->s.heap.get? b=My o->h'.get? b=My o)(D:H t=OI)(f:t≠X.env.locals)
  (g:t∈X.ex\/X.s₀.heap.objs.size<=t) (h:∀x c,X.env.cells.lookup x=My c->c≠t) (i:∀p∈X.pn++a_,p.1≠t):b_ X a_ σ H {s with heap:=h',toks:=t'}:=by
 have d:∀b u,H b=My u->b≠t:=λb u e z=>by rw[z,D]at e;cases e
 refine I.step (g':=s.gens) (d':=s.drawn) (ch:=[t]) (λb j=>?_) (λb o _ _ a e _=>k b o (λz=>a (by simp[z])) e) (λb o _ _ a e _=>⟨o.slots,k b o (λz=>a (by simp[z])) e⟩) (λ_ _ _ _ n=>n)
  (λb o a e=>⟨o,k b o (λz=>a (by simp[z])) e⟩) (λ_ _ e=>e) (λ_ _ _ e=>e) (λb G e=>⟨#[],by rw[e];simp⟩) (λm E=>?_) (λb u e=>?_) I.bare
 .have e:b=t:=by simpa using j
  subst e;exact⟨g,f,h,i⟩
 .obtain⟨o,es,ep,l,r⟩:=E
  exact⟨o,es,ep,k _ o (Ne.symm f) l,r⟩
 .refine(I.hok b u e).stay (λc v a q=>k c v ?_ q) (λ_ q=>q) λ_ _ q=>q
  rcases a with z|z
  .rw[z];exact d b u e
  .exact d c _ z
theorem b_.tok(I:b_ X a_ σ H s)(t:Nat):b_ X a_ σ H {s with toks:=t}:=I.un (h':=s.heap) (t':=t) Un.refl I.hok
theorem b_.kept(I:b_ X a_ σ H s)(k:∀b u,s.heap.get? b=My u->h'.get? b=My u):b_ X a_ σ H {s with heap:=h',toks:=t'}:=I.un (Un.kept k) (I.hok.kept k)
theorem b_.laid{a:OM}{o:HO}{t':Nat}(I:b_ X a_ σ H s)(k:∀b u,s.heap.get? b=My u->h'.get? b=My u)(c:s.heap.objs.size<=a)(D:bJ X.prog X.w (upd H a o) h' a o):
  b_ X a_ σ (upd H a o) {s with heap:=h',toks:=t'}:=I.un (Un.laid k c (I.hok.fresh c)) (I.hok.laid k c D)
theorem b_.write(I:b_ X a_ σ H s)(mu:Mut (H x))(c:e=x\/H e=My (.own x))(k:∀b u,b≠e->s.heap.get? b=My u->h'.get? b=My u)(a:∃u,h'.get? e=My u)
  (D:bJ X.prog X.w (upd H x o) h' x o):b_ X a_ σ (upd H x o) {s with heap:=h',toks:=d}:=I.un (Un.write mu c k a) (I.hok.write mu c k a D)
theorem b_.pins_of(I:b_ X a_ σ H s)(h:∀p∈pins',s.heap.get? p.1=My p.2/\H p.1=OI/\p.1≠X.env.locals/\p.1∉X.fs/\∀v,p.2.data≠ .cell v):b_ X pins' σ H s:=
 ⟨I.ok,I.os,I.bare,I.base,I.loc,I.cell,I.free,I.freeC,λp a=>(PD.mp a).elim (λz=>I.pin p (Sg _ z)) (h p),I.hok,I.len⟩
theorem tT{N:a0i}(c:N.Nodup){i j:Nat}{x:PZ}(a:N[i]?=My x)(b:N[j]?=My x):i=j:=by
 obtain⟨f,d⟩:=OT.mp a;obtain⟨g,e⟩:=OT.mp b;exact(List.getElem_inj c).mp (d.trans e.symm)
theorem kG{M:Ww}{E:a0d}(I:b_ X a_ σ H s)(hN:X.N.Nodup)(L:X.N[i]?=My x)(G:uY X.env.scope x)(r:aJ v u)
  (h:∀S,b_ X a_ (σ.set i (My v)) H S->(∃a,PQ a s.heap S.heap/\(a=X.env.locals\/X.env.cells.lookup x=My a))->Q () S) (hf:X.fn x=OL\/X.env.scope.names.lookup x=My .local:=by first|exact .inl rfl|exact .inr rfl|assumption):O8 M A (storeName X.env x u) Q E s:=by
 obtain⟨m,V,hl⟩:=id I.loc;have O:(X.env.scope.kind== .class||(X.env.scope.kind== .module&&X.env.locals !=X.env.globals))=OQ:=by rw[I.ok.kind];rfl
 have B:i<σ.length:=by rw[I.len];exact(OT.mp L).1
 have K:=I.cne;have f:∀{a:OM} {h':Qt},(∃o,s.heap.get? a=My o/\H a=OI)->PQ a s.heap h'->js X.prog X.w H h':=λ{a h'} ha D b ob e=>by
  obtain⟨_,_,l⟩:=ha;refine(I.hok b ob e).stay (λc W hc q=>(D.2 c ?_).trans q) (λ_ q=>q) λ_ _ q=>q;rintro rfl;rcases hc with rfl|hc
  .rw[l]at e;cases e
  .rw[l]at hc;cases hc
 rcases G with hk|hk
 .refine wpAny_storeName_local hk V (λh' Z D=>?_) O
  obtain⟨oL,_,_,aa,_⟩:=id V;refine h _ ⟨I.ok,I.os,I.bare,⟨λb o e n C G=>?_,λb o e n C G=>?_,I.base.free,λb o e G=>?_,I.base.tups,I.base.frzs,I.base.tbls⟩,⟨_,Z,λj y v' g t e3=>?_⟩,λy c e=>?_,I.free,I.freeC,λp hp=>?_,f ⟨oL,aa,I.free⟩ D,by simpa using I.len⟩ ⟨_,D,.inl rfl⟩
  .exact(D.2 b (Qc (Pm (Pq e) I.ok.above))).trans (I.base.keep b o e n C G)
  .obtain⟨sl,g⟩:=I.base.slot b o e n C G
   exact⟨sl,(D.2 b (Qc (Pm (Pq e) I.ok.above))).trans g⟩
  .obtain⟨o',g⟩:=I.base.there b o e G
   exact⟨o',(D.2 b (Qc (Pm (Pq e) I.ok.above))).trans g⟩
  .by_cases F:j=i
   .subst F
    rw[L]at g;cases g;rw[XO B]at t;cases t;exact⟨u,r,.inl ⟨hk,by simp⟩⟩
   .rw[Yp (Ne.symm F)]at t
    obtain⟨u',r',q⟩:=hl j y v' g t e3;refine⟨u',r',?_⟩;rcases q with⟨k,e⟩|⟨k,c,e,z⟩
    .refine .inl ⟨k,?_⟩
     have:y≠x:=λe=>F (tT hN g (e▸L));simp[this,e]
    .exact .inr ⟨k,c,e,z.sameBut D (K y c e)⟩
  .obtain⟨W,z⟩:=I.cell y c e
   exact⟨W,z.sameBut D (K y c e)⟩
  .obtain⟨e,n,ne,nf,d⟩:=I.pin p hp
   exact⟨(D.2 p.1 ne).trans e,n,ne,nf,d⟩
 .have J:X.fn x=OL:=by
   rcases hf with z|z
   .exact z
   .rw[z]at hk;cases hk
  obtain⟨c,hc⟩:=I.ok.has x (.inl hk);obtain⟨W,z⟩:=I.cell x c hc;refine wpAny_storeName_cell I.ok.kind hk hc z (λh' P D=>?_);obtain⟨oc,R,T⟩:=id z;refine h {s with heap:=h'} ⟨I.ok,I.os,I.bare,⟨λb o e n C G=>?_,λb o e n C G=>?_,I.base.free,λb o e G=>?_,I.base.tups,I.base.frzs,I.base.tbls⟩,⟨m,V.sameBut D (Ne.symm (K x c hc)),λj y v' g t e3=>?_⟩,λy Y e=>?_,I.free,I.freeC,λp hp=>?_,f ⟨oc,R,I.freeC x c hc⟩ D,by simpa using I.len⟩ ⟨c,D,.inr hc⟩
  .exact(D.2 b (Qc (Pm (Pq e) (I.ok.cab x c J hc)))).trans (I.base.keep b o e n C G)
  .obtain⟨sl,g⟩:=I.base.slot b o e n C G
   exact⟨sl,(D.2 b (Qc (Pm (Pq e) (I.ok.cab x c J hc)))).trans g⟩
  .obtain⟨o',g⟩:=I.base.there b o e G
   exact⟨o',(D.2 b (Qc (Pm (Pq e) (I.ok.cab x c J hc)))).trans g⟩
  .by_cases F:j=i
   .subst F
    rw[L]at g;cases g;rw[XO B]at t;cases t;exact⟨u,r,.inr ⟨.inl hk,c,hc,P⟩⟩
   .rw[Yp (Ne.symm F)]at t
    obtain⟨u',r',q⟩:=hl j y v' g t e3;refine⟨u',r',?_⟩;rcases q with q|⟨k,Y,e,z'⟩
    .exact .inl q
    .refine .inr ⟨k,Y,e,z'.sameBut D ?_⟩
     rintro rfl;exact F (tT hN g (I.ok.inj _ _ _ e hc▸L))
  .by_cases U:Y=c
   .subst U;exact⟨_,P⟩
   .obtain⟨w2,z2⟩:=I.cell y Y e
    exact⟨w2,z2.sameBut D U⟩
  .obtain⟨e,n,ne,nf,d⟩:=I.pin p hp
   refine⟨(D.2 p.1 ?_).trans e,n,ne,nf,d⟩;intro q;rw[q,R]at e;have q':oc=p.2:=PH e;exact d W (by rw[<-q'];exact T)
theorem mZ{M:Ww}{E:a0d}(I:b_ X a_ σ H s)(a:X.N.Nodup)(b:X.N[i]?=My x)(G:uY X.env.scope x)(r:aJ v u)
  (h:∀D,b_ X a_ (σ.set i (My v)) H D->Q () D) (c:X.fn x=OL\/X.env.scope.names.lookup x=My .local:=by first|exact .inl rfl|exact .inr rfl|assumption):O8 M A (storeName X.env x u) Q E s:=
 kG I a b G r (λD d _=>h D d) c
theorem b_.call'{s':OV}{ch:a0q}(I:b_ X a_ σ H s)(d:s'.os=s.os)(u:Un (f0 X.stack) ch H R s.heap s'.heap)(D:js X.prog X.w R s'.heap)(f:Vd s'.gens)
  (a:∀b∈ch,(b∈X.ex\/X.s₀.heap.objs.size<=b)/\b≠X.env.locals/\(∀x c,X.env.cells.lookup x=My c->c≠b)/\∀p∈X.pn++a_,p.1≠b):b_ X a_ σ R s':=by
 obtain⟨h',g',d',t',g⟩:=s';have e:g=s.os:=d;subst e;exact I.call (g':=g') (t':=t') (d':=d') u D f a
abbrev XK:=OP->a0Q->Hp->Prop
abbrev St:=List (Option V)
abbrev a0s:=St->XK
abbrev a0F:=St->Hp->Prop
abbrev VK:=V->Hp->Prop
abbrev a0J:=V->a0k->Hp->VK->Prop
abbrev a0O:=a0k->Hp->VK->Prop
abbrev TE:=St->Hp->VK->Prop
abbrev TT:=St->Hp->(Bool->Hp->Prop)->Prop
abbrev TA:=St->Hp->(a0k->Hp->Prop)->Prop
structure nS where
 nx:St->Hp->Prop
 rt:VK
 bk:St->Hp->Prop:=λ_ _=>False
 ct:St->Hp->Prop:=λ_ _=>False
abbrev TS:=nS->St->Hp->Prop
def EP(X:Cx)(a_:a0c)(σ:St)(Q:VK)(u:OP)(s:OV):Prop:=∃v R,b_ X a_ σ R s/\aJ v u/\Q v R
def TP(X:Cx)(a_:a0c)(σ:St)(Q:a0V)(b:Bool)(s:OV):Prop:=∃R,b_ X a_ σ R s/\Q b R
def AP(X:Cx)(a_:a0c)(σ:St)(Q:a0k->Hp->Prop)(D:a0g)(E:OV):Prop:=∃s R,b_ X a_ σ R E/\aw s D/\Q s R
def SP(X:Cx)(a_:a0c)(D:nS)(f:Flow)(s:OV):Prop:=
 match f with
 | .next=>∃a R,b_ X a_ a R s/\D.nx a R
 | .brk=>∃a R,b_ X a_ a R s/\D.bk a R
 | .cont=>∃a R,b_ X a_ a R s/\D.ct a R
 | .ret u=>∃v a R,b_ X a_ a R s/\aJ v u/\D.rt v R
def PE(X:Cx)(e:Expr)(t:TE):Prop:=
 ∀(a_:a0c) (s:OV) (σ:St) (H:Hp) (Q:VK),b_ X a_ σ H s->t σ H Q->O8 (Px X.prog X.w) X.A (Qu e X.env) (EP X a_ σ Q) X.xe s
def PT(X:Cx)(e:Expr)(t:TT):Prop:=
 ∀(a_:a0c) (s:OV) (σ:St) (H:Hp) (Q:a0V),b_ X a_ σ H s->t σ H Q->O8 (Px X.prog X.w) X.A (isTrue e X.env (Qu e X.env)) (TP X a_ σ Q) X.xe s
def PW(X:Cx)(e:Expr)(t:TT):Prop:=
 ∀(a:X0 OP) (a_:a0c) (s:OV) (σ:St) (H:Hp) (Q:a0V),b_ X a_ σ H s->t σ H Q->O8 (Px X.prog X.w) X.A (isTrue e X.env a) (TP X a_ σ Q) X.xe s
theorem PW.pt{X:Cx}(h:PW X e t):PT X e t:=h _
def PA(X:Cx)(E:List Expr)(t:TA):Prop:=
 ∀(D:Ub) (a_:a0c) (s:OV) (σ:St) (H:Hp) (Q:a0k->Hp->Prop),b_ X a_ σ H s->t σ H Q->O8 (Px X.prog X.w) X.A (spliced (SL D (Pe E X.env))) (AP X a_ σ Q) X.xe s
def PS(X:Cx)(E:QH)(t:TS):Prop:=
 ∀(a_:a0c) (s:OV) (σ:St) (H:Hp) (D:nS),b_ X a_ σ H s->t D σ H->O8 (Px X.prog X.w) X.A (exec E X.env) (SP X a_ D) X.xe s
def PSs(X:Cx)(E:a0R)(t:TS):Prop:=
 ∀(a_:a0c) (s:OV) (σ:St) (H:Hp) (D:nS),b_ X a_ σ H s->t D σ H->O8 (Px X.prog X.w) X.A (execs E X.env) (SP X a_ D) X.xe s
theorem d5{D:Type}{t:X0 D}{Q b:D->OV->Prop}{M:Ww}{A:P7}{E:a0d}{s:OV}(h:O8 M A t Q E s)(c:∀a s,Q a s->b a s):O8 M A t b E s:=Qk h c λ_ _ x=>x
def jh(i:Nat):TE:=λσ H Q=>∃v,σ[i]?=My (My v)/\Q v H
def tC(v:V):TE:=λ_ H Q=>Q v H
theorem Ll(g:X.N[i]?=My x)(j:ZQ X.env.scope x)(D:(x==("__debug__":PZ))=OQ:=by decide)(d:(x==("__classdict__":PZ))=OQ:=by decide):PE X (.Name x n) (jh i):=by
 intro a_ s σ H Q I h;obtain⟨v,e,h⟩:=h;obtain⟨m,E,k⟩:=I.loc;obtain⟨u,r,l⟩:=k i x v g e j;have b:EP X a_ σ Q u s:=⟨v,H,I,r,h⟩;rcases l with⟨hk,G⟩|⟨hk,c,f,a⟩
 .exact wpAny_Name (wpAny_loadName_local I.ok.kind hk E G b) D
 .rcases hk with hk|hk
  .exact wpAny_Name (wpAny_loadName_cell I.ok.kind hk f a b) D
  .exact wpAny_Name (wpAny_loadName_free I.ok.kind hk f a b d) D
theorem bQ{i j a}:PE X (.Constant (.int i) j a) (tC (.int i)):=λ_ _ _ H _ I h=>wpAny_Constant_int ⟨.int i,H,I.tok _,⟨_,rfl⟩,h⟩
theorem NY{b j a}:PE X (.Constant (.bool b) j a) (tC (.bl b)):=λ_ _ _ H _ I h=>Constant_bool ⟨.bl b,H,I,rfl,h⟩
theorem Lp{j a}:PE X (.Constant .none j a) (tC .non):=λ_ _ _ H _ I h=>Constant_none ⟨.non,H,I,rfl,h⟩
def Gl(X:Cx)(x:PZ):Prop:=X.env.kindOf x=My .globalImplicit
theorem pZ{E:a0d}{a_:a0c}{s:OV}{σ:St}{H:Hp}(I:b_ X a_ σ H s)(a:Gl X x)(D:X.mg x=My u)(h:Q u s)
  (G:(x==("__debug__":PZ))=OQ:=by decide):O8 (Px X.prog X.w) X.A (Qu (.Name x b) X.env) Q E s:=
 WV I.ok.kind a (Calls.loadGlobal_global (by rw[I.ok.glob];exact I.mod.glob.keeps I.bk) D h) G
theorem fi{E:a0d}{a_:a0c}{s:OV}{σ:St}{H:Hp}(I:b_ X a_ σ H s)(a:Gl X x)(D:X.mg x=OI)(b:Tx x=My u)(h:Q u s)
  (G:x≠"__name__":=by decide) (K:(x==("__debug__":PZ))=OQ:=by decide):O8 (Px X.prog X.w) X.A (Qu (.Name x f) X.env) Q E s:=by
 obtain⟨e,c,d⟩:=I.mod.blt;exact WV I.ok.kind a (Calls.loadGlobal_builtin (by rw[I.ok.glob];exact I.mod.glob.keeps I.bk) D (by rw[I.ok.blt];exact c.keeps I.bk) ((d x G).trans b) h) K
theorem JP(a:Gl X x)(s:X.mg x=My u)(r:aJ v u)(D:(x==("__debug__":PZ))=OQ:=by decide):PE X (.Name x b) (tC v):=
 λ_ _ _ H _ I h=>pZ I a s ⟨v,H,I,r,h⟩ D
theorem cZ(a:Gl X x)(s:X.mg x=OI)(b:Tx x=My u)(r:aJ v u)(D:x≠"__name__":=by decide)(E:(x==("__debug__":PZ))=OQ:=by decide):PE X (.Name x c) (tC v):=
 λ_ _ _ H _ I h=>fi I a s b ⟨v,H,I,r,h⟩ D E
variable{a b:Expr}{o m:TE}{k:Ub}
variable{l p:TT}{j:List Expr}
def tOr(t u:TT):TT:=λσ H Q=>t σ H λc d=>if c=OL then Q OL d else u σ d Q
def tNot(t:TT):TT:=λσ H Q=>t σ H λc d=>Q (!c) d
theorem Lf(b:PT X a l):PW X (.BoolOp .Or [a] k) l:=by
 intro d a_ s σ H Q I h;refine isTrue_or (d5 (b a_ s σ H Q I h) λc f e=>?_);cases c with
 |false=>exact isTrue_or_nil e
 |true=>exact e
theorem NV(o:PT X a l)(f:PW X (.BoolOp .Or (b::j) k) p):PW X (.BoolOp .Or (a::b::j) k) (tOr l p):=by
 intro g a_ s σ H Q I h;refine isTrue_or (d5 (o a_ s σ H _ I h) λc i ⟨d,e,m⟩=>?_);cases c with
 |true=>exact⟨d,e,m⟩
 |false=>exact f g a_ i σ d Q e m
theorem Lh(b:PT X a l):PT X (.UnaryOp .Not a k) (tNot l):=by
 intro a_ s σ H Q I h;exact isTrue_not (b a_ s σ H (λc d=>Q (!c) d) I h)
def NP(o m:TE):TE:=λσ H Q=>o σ H λx d=>∃c,x= .bl c/\if c=OL then m σ d Q else Q (.bl OQ) d
theorem Lo{op}(h:PE X a t):PE X (.BoolOp op [a] k) t:=λa_ s σ H Q I c=>BoolOp_one (h a_ s σ H Q I c)
theorem Ls(p:PE X a o)(f:PE X (.BoolOp .And (b::j) k) m):PE X (.BoolOp .And (a::b::j) k) (NP o m):=by
 intro a_ s σ H Q I h;refine BoolOp_and (d5 (p a_ s σ H _ I h) λv g ⟨x,d,e,D,l⟩=>?_);obtain⟨c,rfl,l⟩:=l;cases D;refine QS ?_;cases c with
 |true=>exact f a_ g σ d Q e l
 |false=>exact⟨.bl OQ,d,e,rfl,l⟩
def tIf(t:TT)(o m:TE):TE:=λσ H Q=>t σ H λc d=>if c=OL then o σ d Q else m σ d Q
theorem CT(i:PT X c l)(D:PE X a o)(j:PE X b m):PE X (.IfExp c a b k) (tIf l o m):=by
 intro a_ s σ H Q I h;refine wpAny_IfExp (d5 (i a_ s σ H _ I h) λd e ⟨f,g,p⟩=>?_);cases d with
 |true=>exact D a_ e σ f Q g p
 |false=>exact j a_ e σ f Q g p
def en(K:Pl)(H:Hp)(a:OM)(xs:a0k):Prop:=
 Rd H a (.lst xs)\/
  ∃(o:PF) (b:a0H) (n:Nat),K.lookup a=My o/\o.cls= .type "list"/\o.dict=OI/\o.data= .seq b n/\b.size<=Pk/\aw xs b.toList
def g_(K:Pl)(H:Hp)(a:OM)(j:a0k):Prop:=
 Rd H a (.tup j)\/
  ∃(o:PF) (b:a0H) (n:Nat),K.lookup a=My o/\o.cls= .type "tuple"/\o.data= .seq b n/\b.size<=Pk/\aw j b.toList
noncomputable def absV:OP->Option V
 | .none=>My .non
 | .bool b=>My (.bl b)
 | .int i _=>My (.int i)
 | .str x _=>My (.str x)
 | .ref a=>My (.ref a)
 | .type n=>My (.ty n)
 |_=>OI
theorem aJ.abs(r:aJ x u):absV u=My x:=by
 cases x with
 |non=>cases r;rfl
 |bl _=>cases r;rfl
 |int _=>obtain⟨t,rfl⟩:=r;rfl
 |str _=>obtain⟨t,rfl⟩:=r;rfl
 |ref _=>cases r;rfl
 |ty _=>cases r;rfl
theorem aJ.inj(r:aJ x u)(q:aJ y u):x=y:=PH (r.abs.symm.trans q.abs)
theorem aw.inj:∀{a b:a0k} {j:a0g},aw a j->aw b j->a=b
 |_,_,_,.nil,.nil=>rfl
 |_,_,_,.cons r t,.cons r' t'=>by rw[r.inj r',aw.inj t t']
end
section
variable{X:Cx}{a_:a0c}{σ:St}{H:Hp}{s:OV}{a:OM}{xs ys:a0k}
theorem en.of{K:Pl}(h:H a=My (.lst xs)):en K H a xs:= .inl (.inl h)
theorem b_.list(I:b_ X a_ σ H s)(h:en X.K H a xs):∃its:a0g,aw xs its/\PlainL s.heap a its.toArray/\xs.length<=Pk:=by
 rcases h with h|⟨o,its,n,b,c,D,E,d,r⟩
 .obtain⟨z,its,n,r,e⟩:=h.ok I.hok
  exact⟨its,r,⟨_,n,e,rfl,rfl,rfl⟩,z⟩
 .refine⟨its.toList,r,⟨o,n,I.kIn a o b,c,D,by simpa using E⟩,?_⟩
  have e:=r.length;simp only[O9]at e;lia
theorem b_.tuple(I:b_ X a_ σ H s)(h:g_ X.K H a xs):∃D:a0g,aw xs D/\IsTup s.heap a D.toArray/\xs.length<=Pk:=by
 rcases h with h|⟨o,D,n,b,c,E,d,r⟩
 .obtain⟨z,D,r,p⟩:=h.ok I.hok
  exact⟨D,r,p,z⟩
 .refine⟨D.toList,r,⟨o,I.kIn a o b,c,n,by simpa using E⟩,?_⟩
  have e:=r.length;simp only[O9]at e;lia
theorem b_.list_inj(I:b_ X a_ σ H s)(h:en X.K H a xs)(M:en X.K H a ys):xs=ys:=by
 obtain⟨E,r,⟨o,n,e,_,_,d⟩,_⟩:=I.list h;obtain⟨D,c,⟨f,g,b,_,_,G⟩,_⟩:=I.list M;rw[e]at b;cases b;rw[d]at G
 injection G with S _
 have:E=D:=by simpa using Qb Array.toList S
 subst this;exact r.inj c
theorem b_.tuple_inj(I:b_ X a_ σ H s)(h:g_ X.K H a xs)(M:g_ X.K H a ys):xs=ys:=by
 obtain⟨E,r,⟨o,e,_,n,d⟩,_⟩:=I.tuple h;obtain⟨D,c,⟨f,b,_,g,G⟩,_⟩:=I.tuple M;rw[e]at b;cases b;rw[d]at G
 injection G with S _
 have:E=D:=by simpa using Qb Array.toList S
 subst this;exact r.inj c
noncomputable abbrev Cx.wish(X:Cx)(E:a0d):Cx:={X with xe:=E}
noncomputable abbrev Cx.nox(X:Cx):Cx:=X.wish λ_ _=>False
theorem Cx.Ok.wish{X:Cx}(a:X.Ok)(E:a0d):(X.wish E).Ok:=
 ⟨a.mod,a.kind,a.glob,a.blt,a.above,a.inj,a.has,a.cab,a.hd,a.frames,a.stk,a.exf,a.bs,a.bsz,a.noex,a.exfs,a.funs,a.frf⟩
theorem Cx.Ok.unwish{X:Cx}{E:a0d}(a:(X.wish E).Ok):X.Ok:=
 ⟨a.mod,a.kind,a.glob,a.blt,a.above,a.inj,a.has,a.cab,a.hd,a.frames,a.stk,a.exf,a.bs,a.bsz,a.noex,a.exfs,a.funs,a.frf⟩
variable{E:a0d}
theorem b_.wish(I:b_ X a_ σ H s)(E:a0d):b_ (X.wish E) a_ σ H s:=⟨I.ok.wish E,I.os,I.bare,I.base,I.loc,I.cell,I.free,I.freeC,I.pin,I.hok,I.len⟩
theorem b_.unwish(I:b_ (X.wish E) a_ σ H s):b_ X a_ σ H s:=⟨I.ok.unwish,I.os,I.bare,I.base,I.loc,I.cell,I.free,I.freeC,I.pin,I.hok,I.len⟩
theorem SP.unwish{D:nS}(h:SP (X.wish E) a_ D f d):SP X a_ D f d:=by
 cases f with
 |next=>obtain⟨b,c,I,q⟩:=h;exact⟨b,c,I.unwish,q⟩
 |brk=>obtain⟨b,c,I,q⟩:=h;exact⟨b,c,I.unwish,q⟩
 |cont=>obtain⟨b,c,I,q⟩:=h;exact⟨b,c,I.unwish,q⟩
 |ret u=>obtain⟨v,b,c,I,r,q⟩:=h;exact⟨v,b,c,I.unwish,r,q⟩
theorem PSs.nox{a:a0R}(h:PSs X.nox a t):PSs X a t:=λa_ s σ H D I b=>
 Qk (h a_ s σ H D (I.wish _) b) (λ_ _ q=>q.unwish) λ_ _ z=>Rp z
variable{U:QH}{rest:a0R}{t u:TS}{e:Expr}{a:TE}{aa:Ub}
noncomputable def NN:TS:=λD σ H=>D.nx σ H
def tSeq(t u:TS):TS:=λD σ H=>t {D with nx:=u D} σ H
theorem pS:PSs X [] NN:=λ_ _ σ H _ I h=>XE ⟨σ,H,I,h⟩
theorem cS(c:PS X U t)(d:PSs X rest u):PSs X (U::rest) (tSeq t u):=by
 intro a_ s σ H D I h;refine wpAny_execs_cons (d5 (c a_ s σ H {D with nx:=u D} I h) λf g q=>?_);cases f with
 |next=>
  obtain⟨b,i,j,q⟩:=q;exact d a_ g b i D j q
 |ret v=>exact q
 |brk=>exact q
 |cont=>exact q
theorem ig(b:PS X U t):PSs X [U] t:=by
 intro a_ s σ H D I h;refine wpAny_execs_cons (d5 (b a_ s σ H D I h) λf c q=>?_);cases f with
 |next=>exact XE q
 |ret v=>exact q
 |brk=>exact q
 |cont=>exact q
theorem b_.quiet{a_:a0c}{σ:St}{H:Hp}{s:OV}(I:b_ X a_ σ H s):interactive X.env=OQ:=by simp[interactive,I.ok.kind]
def rq(a:TE):TS:=λD σ H=>a σ H λ_ b=>D.nx σ b
theorem dC(b:PE X e a)(t:UJ e OI aa.line X.env=Ry OQ:=by rfl):PS X (.Expr e aa) (rq a):=by
 intro a_ s σ H D I h;exact wpAny_Expr_any (d5 (b a_ s σ H _ I h) λv f ⟨x,c,d,E,u⟩=>⟨σ,c,d,u⟩) I.quiet t
def wL(a:TE):TS:=λD σ H=>a σ H D.rt
theorem az(b:PE X e a):PS X (.Return (My e) aa) (wL a):=by
 intro a_ s σ H D I h;exact wpAny_Return_some (d5 (b a_ s σ H _ I h) λv f ⟨x,c,d,t,u⟩=>⟨x,σ,c,d,t,u⟩)
def tIfS(c:TT)(t u:TS):TS:=λD σ H=>c σ H λb d=>if b=OL then t D σ d else u D σ d
theorem IH{a b:a0R}(j:PT X c tc)(E:PSs X a t)(k:PSs X b u):PS X (.If c a b aa) (tIfS tc t u):=by
 intro a_ s σ H D I h;refine wpAny_If (d5 (j a_ s σ H _ I h) λd f ⟨g,i,e⟩=>?_);cases d with
 |true=>exact E a_ f σ g D i e
 |false=>exact k a_ f σ g D i e
abbrev TG:=V->St->Hp->(St->Hp->Prop)->Prop
abbrev H_:=a0k->St->Hp->(St->Hp->Prop)->Prop
def PG(X:Cx)(b:Expr)(t:TG):Prop:=
 ∀(a_:a0c) (s:OV) (σ:St) (H:Hp) (v:V) (u:OP) (Q:a0F),b_ X a_ σ H s->aJ v u->t v σ H Q->
  O8 (Px X.prog X.w) X.A (U6 b X.env u) (λ_ a=>∃c d,b_ X a_ c d a/\Q c d) X.xe s
def PGs(X:Cx)(d:List Expr)(t:H_):Prop:=
 ∀(a_:a0c) (s:OV) (σ:St) (H:Hp) (a:a0k) (e:a0g) (Q:a0F),b_ X a_ σ H s->aw a e->t a σ H Q->
  O8 (Px X.prog X.w) X.A (assignInOrder ((VY d X.env).map (·.2)) e) (λ_ u=>∃b c,b_ X a_ b c u/\Q b c) X.xe s
abbrev GZ:=V->V->V->Hp->(Hp->Prop)->Prop
def HA(X:Cx)(t:GZ):Prop:=
 ∀(a_:a0c) (s:OV) (σ:St) (H:Hp) (o i v:V) (b c u:OP) (Q:Hp->Prop),b_ X a_ σ H s->aJ o b->aJ i c->aJ v u->t o i v H Q->
  O8 (Px X.prog X.w) X.A (setItem b c u) (λ_ a=>∃d,b_ X a_ σ d a/\Q d) X.xe s
abbrev TIp:=V->V->Hp->VK->Prop
def PIp(X:Cx)(a:Operator)(t:TIp):Prop:=
 ∀(a_:a0c) (s:OV) (σ:St) (H:Hp) (x y:V) (v u:OP) (Q:VK),b_ X a_ σ H s->aJ x v->aJ y u->t x y H Q->
  O8 (Px X.prog X.w) X.A (inplaceOp a v u) (EP X a_ σ Q) X.xe s
def dm(i:Nat):TG:=λv σ H Q=>Q (σ.set i (My v)) H
theorem vM(b:X.N.Nodup)(c:X.N[i]?=My x)(a:uY X.env.scope x)(d:X.fn x=OL\/X.env.scope.names.lookup x=My .local:=by first|exact .inl rfl|exact .inr rfl|assumption):PG X (.Name x aa) (dm i):=by
 intro a_ s σ H v u Q I r h;exact W5 (mZ I b c a r (λe f=>⟨_,H,f,h⟩) d)
noncomputable def gNil:H_:=λa σ H Q=>a=[]/\Q σ H
def xL(t:TG)(u:H_):H_:=λa σ H Q=>∃v r,a=v::r/\t v σ H λb c=>u r b c Q
theorem bA:PGs X [] gNil:=by
 intro a_ s σ H a t Q I r h;obtain⟨e,h⟩:=h;subst e;cases r;exact assignInOrder_nil ⟨σ,H,I,h⟩
theorem aA{e:Expr}{t:TG}{u:H_}(c:PG X e t)(d:PGs X m u)
  (a:(VY (e::m) X.env).map (·.2)=U6 e X.env::(VY m X.env).map (·.2):=by rfl):PGs X (e::m) (xL t u):=by
 intro a_ s σ H E G Q I r h;obtain⟨v,l,f,h⟩:=h;subst f;cases r with
 |cons r g=>
  rw[a];refine assignInOrder_cons (d5 (c a_ s σ H _ _ _ I r h) λ_ i ⟨b,j,k,D⟩=>?_);exact d a_ i b j _ _ Q k g D
def EI(K:Pl)(n:Nat)(t:H_):TG:=λv σ H Q=>∃a xs,v= .ref a/\g_ K H a xs/\xs.length=n/\t xs σ H Q
theorem bP{t:H_}(g:X.calm=OL)(h:PGs X w t)
  (D:(VY w X.env).length=n:=by rfl) (c:(VY w X.env).findIdx? (·.1)=OI:=by rfl):PG X (.Tuple w k aa) (EI X.K n t):=by
 intro a_ s σ H v u Q I r d;obtain⟨a,xs,i,j,l,d⟩:=d;subst i;cases r;obtain⟨E,f,m,q⟩:=I.tuple j;refine assign_Tuple_tuple (I.ok.hd g) m (by simp[D,<-l,f.length]) c λG M=>?_;have p:b_ X a_ σ H {s with heap:=G}:=I.kept (t':=s.toks) λb o e=>M b o (Qc (Pq e)) e;exact h a_ _ σ H xs _ Q p (by simpa using f) d
def EJ(a b:TE)(t:GZ):TG:=λv σ H Q=>a σ H λo c=>b σ c λi d=>t o i v d λf=>Q σ f
theorem fV{t:GZ}(d:PE X o to)(f:PE X i z)(a:HA X t)
  (e:∀v,U6 (.Subscript o i aa) X.env v=(do
   let b <-Vk [v] (Qu o X.env)
   let c <-Vk [v,b] (Qu i X.env)
   Us aa
   Vk [v,b,c] (setItem b c v)
   release [v,b,c] []):=by intro _;rfl):PG X (.Subscript o i aa) (EJ to z t):=by
 intro a_ s σ H v u Q I r h;rw[e];refine OG (QG (d5 (d a_ s σ H _ I h) λb g ⟨x,j,k,D,E⟩=>?_));refine OG (QG (d5 (f a_ g σ j _ k E) λc l ⟨y,m,n,p,G⟩=>?_));refine OG (RN (OG (QG (d5 (a a_ l σ m x y v b c u _ n D p r G) λ_ A ⟨q,w,K⟩=>?_))));exact wpAny_release ⟨σ,q,w,K⟩
def fR(a:TE)(g:TG):TS:=λD σ H=>a σ H λx b=>g x σ b D.nx
theorem ef{t e:Expr}{a:TE}(b:PE X e a)(c:PG X t g)(u:swapsWithSole [t] e aa.line X.env=Ry OQ:=by rfl)(d:swappedStores [t] e X.env=Ry OI:=by rfl)
  (f:(VY [t] X.env).map (·.2)=[U6 t X.env]:=by rfl):PS X (.Assign [t] e aa) (fR a g):=by
 intro a_ s σ H D I h;refine wpAny_Assign_stores (d5 (b a_ s σ H _ I h) λv i ⟨x,j,k,E,G⟩=>?_) u d;rw[f];exact d5 (c a_ i σ j x v _ k E G) λ_ l q=>q
theorem oK{e:Expr}{a:TE}(b:X.N.Nodup)(c:X.N[i]?=My x)(t:uY X.env.scope x)(d:PE X e a)(u:UJ e (My (.Name x pos')) aa.line X.env=Ry OQ:=by rfl)(f:X.fn x=OL\/X.env.scope.names.lookup x=My .local:=by first|exact .inl rfl|exact .inr rfl|assumption):
  PS X (.Assign [.Name x pos'] e aa) (fR a (dm i)):=by
 intro a_ s σ H D I h;refine wpAny_Assign_Name (d5 (d a_ s σ H _ I h) λv l ⟨y,g,j,E,G⟩=>?_) u;exact mZ j b c t E (λm k=>⟨_,g,k,G⟩) f
def KN(i:Nat)(a:TE)(b:TIp):TS:=λD σ H=>∃x,σ[i]?=My (My x)/\a σ H λy c=>b x y c λz d=>D.nx (σ.set i (My z)) d
theorem kU{e:Expr}{a:TE}(n:X.N.Nodup)(j:X.N[i]?=My x)(t:uY X.env.scope x)(o:PE X e a)(p:PIp X op Z)(q:X.fn x=OL\/X.env.scope.names.lookup x=My .local:=by first|exact .inl rfl|exact .inr rfl|assumption):
  PS X (.AugAssign (.Name x pos') op e aa) (KN i a Z):=by
 intro a_ s σ H D I h;obtain⟨v,B,h⟩:=h;obtain⟨m,G,C⟩:=I.loc;have g:ZQ X.env.scope x:=by rcases t with k|k;exact .inl k;exact .inr (.inl k)
 obtain⟨u,r,l⟩:=C i x v j B g;refine wpAny_AugAssign_Name ?_;have E:O8 (Px X.prog X.w) X.A (Qu e X.env) (λw d=>O8 (Px X.prog X.w) X.A (inplaceOp op u w) (λr f=>O8 (Px X.prog X.w) X.A (storeName X.env x r) (λ_=>SP X a_ D .next) X.xe f) X.xe d) X.xe s:=by
  refine d5 (o a_ s σ H _ I h) λw F ⟨y,J,L,K,M⟩=>?_;refine d5 (p a_ F σ J v y u w _ L r K M) λz U ⟨W,O,P,Q,S⟩=>?_;exact mZ P n j t Q (λY R=>⟨_,O,R,S⟩) q
 rcases l with⟨hk,V⟩|⟨hk,c,T,b⟩
 .exact wpAny_loadName_local I.ok.kind hk G V E
 .rcases hk with hk|hk
  .exact wpAny_loadName_cell I.ok.kind hk T b E
  .rcases t with k|k
   .have:X.env.scope.names.lookup x=My .free:=hk
    rw[k]at this;cases this
   .have:X.env.scope.names.lookup x=My .free:=hk
    rw[k]at this;cases this
def ipI(f:a0L):TIp:=λx y H Q=>∃i j,x= .int i/\y= .int j/\Q (.int (f i j)) H
theorem AA:PIp X .Add (ipI λi j=>i+j):=by
 intro a_ s σ H x y v u Q I a b h;obtain⟨i,j,c,d,q⟩:=h;subst c;subst d;obtain⟨t,rfl⟩:=a;obtain⟨e,rfl⟩:=b;exact iadd_int ⟨.int _,H,I.tok _,⟨_,rfl⟩,q⟩
structure It where
 go:Nat->Hp->Prop
 yld:Nat->Hp->V->Hp->Prop
 stop:Nat->Hp->Prop
def fc(X:Cx)(a_:a0c)(H:Hp)(b:OM):Prop:=
 H b=OI/\b≠X.env.locals/\b∉X.fs/\(b∈X.ex\/X.s₀.heap.objs.size<=b)/\(∀x c,X.env.cells.lookup x=My c->c≠b)/\∀p∈X.pn++a_,p.1≠b
theorem b_.fpOk{X:Cx}{a_:a0c}{σ:St}{H f:Hp}{s:OV}{b:OM}(I:b_ X a_ σ H s)(d:s.heap.objs.size<=b)(a:f b=OI):fc X a_ f b:=by
 refine⟨a,RK (Pm I.lt d),I.nofs d,.inr (Pj I.sz d),λx c e z=>?_,λp g z=>?_⟩
 .obtain⟨v,q⟩:=I.cell x c e
  exact Pp (Pm q.lt (by rw[z];exact d)) (Qg _)
 .exact Pp (Pm (Pq (I.pin p g).1) (by rw[z];exact d)) (Qg _)
structure mX (P:PM) (w:P0) (K:Pl) (tg:Expr) (J:It) (fp:a0q) (it:OM) (tn:Nat->Qt->Prop):Prop where
 mem:it∈fp
 obj:∀i h,tn i h->∀b∈fp,∃o,h.get? b=My o/\∀v,o.data≠ .cell v
 keep:∀i h h',tn i h->(∀b∈fp,∀o,h.get? b=My o->h'.get? b=My o)->tn i h'
 item:∀(X:Cx),X.prog=P->X.w=w->X.K=K->X.calm=OL->∀(i:Nat) (a_:a0c) (s:OV) (σ:St) (H:Hp) (E:a0d),b_ X a_ σ H s->(∀b∈fp,fc X a_ H b)->tn i s.heap->J.go i H->
  O8 (Px P w) X.A (S7 (.ref it)) (λr s1=>∃u,r=My u/\
   O8 (Px P w) X.A (U9 tg (.ref it) u) (λ_ s2=>∃x H',b_ X a_ σ H' s2/\aJ x u/\J.yld i H x H'/\tn (i+1) s2.heap/\∀b∈fp,H' b=OI) E s1) E s
 done:∀(X:Cx),X.prog=P->X.w=w->X.K=K->X.calm=OL->∀(i:Nat) (a_:a0c) (s:OV) (σ:St) (H:Hp) (E:a0d),b_ X a_ σ H s->(∀b∈fp,fc X a_ H b)->tn i s.heap->J.stop i H->
  O8 (Px P w) X.A (S7 (.ref it)) (λr s1=>r=OI/\b_ X a_ σ H s1) E s
 self:∀(A:P7) (i:Nat) (s:OV) (Q:a0d) (E:a0d),tn i s.heap->Q (.ref it) s->O8 (Px P w) A (VZ (.ref it)) Q E s
abbrev TI:=St->Hp->(It->Hp->Prop)->Prop
def PIE(X:Cx)(a_:a0c)(σ:St)(e:Expr)(R:It->Hp->Prop)(c:OP)(f:OV):Prop:=
 ∃(a:OM) (g:a0q) (h:Nat->Qt->Prop) (J:It) (d:Hp),c= .ref a/\b_ X a_ σ d f/\mX X.prog X.w X.K e J g a h/\h 0 f.heap/\(∀b∈g,fc X a_ d b)/\R J d
def PI(X:Cx)(a b:Expr)(c:TI):Prop:=
 ∀(a_:a0c) (s:OV) (σ:St) (H:Hp) (R:It->Hp->Prop),b_ X a_ σ H s->c σ H R->
  O8 (Px X.prog X.w) X.A (Qu b X.env) (λv d=>O8 (Px X.prog X.w) X.A (VZ v) (PIE X a_ σ a R) X.xe d) X.xe s
theorem rQ{M:Ww}{E:a0d}{s:OV}{u:OP}{o:PF}(c:s.heap.get? f=My o)(d:o.cls= .type n)(a:o.data= .fields g)
  (e:["enumerate","zip","dict_itemiterator","dict_reverseitemiterator","odict_iterator","itertools.zip_longest","itertools.pairwise"].contains n=OQ) (b:Q () s):O8 M A (U9 i (.ref f) u) Q E s:=by
 unfold U9;cases i<;>first
  |exact OJ b
  |(cases u<;>first
   |exact OJ b
   |(refine OG (wpAny_load c ?_)
     rw[d,a];show O8 M A (if(["enumerate","zip","dict_itemiterator","dict_reverseitemiterator","odict_iterator","itertools.zip_longest","itertools.pairwise"].contains n&&g[0]?==My (SW _))=OL then _ else _) Q E s;rw[OY (by intro h;rw[e,UU]at h;cases h)];exact OJ b))
noncomputable def ZV(K:Pl)(a:OM):It:=
 ⟨λi H=>∃xs x,en K H a xs/\xs[i]?=My x,λi H x b=>b=H/\∀xs,en K H a xs->xs[i]?=My x,λi H=>∃xs,en K H a xs/\xs.length<=i⟩
noncomputable def Itt(K:Pl)(a:OM):It:=
 ⟨λi H=>∃xs x,g_ K H a xs/\xs[i]?=My x,λi H x b=>b=H/\∀xs,g_ K H a xs->xs[i]?=My x,λi H=>∃xs,g_ K H a xs/\xs.length<=i⟩
noncomputable def ZU(a:Int)(n:Nat):It:=⟨λi _=>i<n,λi H x b=>b=H/\x= .int (a+i),λi _=>n<=i⟩
theorem qt{K:Pl}(a t:OM):mX P w K W (ZV K a) [t] t (λi h=>h.IsListIter t a i) where
 mem:=by simp
 obj:=λi h U b f=>by
  have e:b=t:=by simpa using f
  subst e;obtain⟨o,e,c,d⟩:=U;exact⟨o,e,λv z=>by rw[d]at z;cases z⟩
 keep:=λi h D U k=>U.at λo e=>k t (by simp) o e
 item:=by
  intro X m n q J i a_ s σ H E I j U r;subst m n q;obtain⟨xs,x,l,G⟩:=r;obtain⟨M,y,p,L⟩:=I.list l;obtain⟨u,N,O⟩:=y.get G;obtain⟨A,f1,f2,B,C,F⟩:=j t (by simp);refine wpAny_pyNext_list_item U p.isList (x:=u) (by simpa using N) λD g S=>?_;have Q:b_ X a_ σ H {s with heap:=D}:=I.turned (t':=s.toks) (λb o f e=>(S.2 b f).trans e) A f1 B C F;obtain⟨o,e,c,d⟩:=id g;exact⟨u,rfl,rQ (s:={s with heap:=D}) e c d (by decide) ⟨x,H,Q,O,⟨rfl,λys V=>by rw[I.list_inj V l];exact G⟩,g,λb f=>(j b f).1⟩⟩
 done:=by
  intro X m n q J i a_ s σ H E I j U r;subst m n q;obtain⟨xs,l,G⟩:=r;obtain⟨M,y,p,L⟩:=I.list l;obtain⟨A,f1,f2,B,C,F⟩:=j t (by simp);have T:=y.length;exact wpAny_pyNext_list_end (I.ok.hd J) U p.isList (by simp;lia) λD R=>⟨rfl,I.turned (t':=s.toks) (λb o f e=>R b o f e) A f1 B C F⟩
 self:=λ_ _ _ _ _ U h=>wpAny_pyIter_listiter U h
theorem wH{K:Pl}(a t:OM):mX P w K W (Itt K a) [t] t (λi h=>h.IsTupleIter t a i) where
 mem:=by simp
 obj:=λi h U b f=>by
  have e:b=t:=by simpa using f
  subst e;obtain⟨o,e,c,d⟩:=U;exact⟨o,e,λv z=>by rw[d]at z;cases z⟩
 keep:=λi h G U k=>U.at λo e=>k t (by simp) o e
 item:=by
  intro X m n q J i a_ s σ H E I j U r;subst m n q;obtain⟨xs,x,l,M⟩:=r;obtain⟨D,y,p,L⟩:=I.tuple l;obtain⟨u,N,O⟩:=y.get M;obtain⟨A,f1,f2,B,C,F⟩:=j t (by simp);refine wpAny_pyNext_tuple_item U (show s.heap.IsTuple a D.toArray from p) (x:=u) (by simpa using N) λG g S=>?_;have Q:b_ X a_ σ H {s with heap:=G}:=I.turned (t':=s.toks) (λb o f e=>(S.2 b f).trans e) A f1 B C F;obtain⟨o,e,c,d⟩:=id g;exact⟨u,rfl,rQ (s:={s with heap:=G}) e c d (by decide) ⟨x,H,Q,O,⟨rfl,λys V=>by rw[I.tuple_inj V l];exact M⟩,g,λb f=>(j b f).1⟩⟩
 done:=by
  intro X m n q J i a_ s σ H E I j U r;subst m n q;obtain⟨xs,l,M⟩:=r;obtain⟨D,y,p,L⟩:=I.tuple l;obtain⟨A,f1,f2,B,C,F⟩:=j t (by simp);have T:=y.length;exact wpAny_pyNext_tuple_end (I.ok.hd J) U (show s.heap.IsTuple a D.toArray from p) (by simp;lia) λG R=>⟨rfl,I.turned (t':=s.toks) (λb o f e=>R b o f e) A f1 B C F⟩
 self:=λ_ _ _ _ _ U h=>wpAny_pyIter_tupleiter U h
theorem wI{K:Pl}(a:OM)(u:Int)(n:Nat):mX P w K x (ZU u n) [a] a (λi h=>Wc h a (u+(i:Nat)*1) ((n:Int)-(i:Nat)) 1) where
 mem:=by simp
 obj:=λi h U b c=>by
  have e:b=a:=by simpa using c
  subst e;exact⟨_,U,λv z=>by
   have C:Data.fields _=Data.cell v:=z;cases C⟩
 keep:=λi h D U k=>k a (by simp) _ U
 item:=by
  intro X g j l m i a_ s σ H E I f U p;subst g j l;obtain⟨q,f1,f2,r,y,A⟩:=f a (by simp);have W:=Walks.range (prog:=X.prog) (w:=X.w) (I.ok.hd m) a u 1 n;refine W.item i s _ _ p U λv D B F d J=>?_;obtain⟨t,rfl⟩:=F;have L:b_ X a_ σ H {s with heap:=D,toks:=B}:=I.turned (λb o c e=>J b o (by simpa using c) e) q f1 r y A;refine⟨_,rfl,rQ (s:={s with heap:=D,toks:=B}) (n:="range_iterator") d rfl rfl (by decide) ⟨.int (u+i),H,L,⟨t,?_⟩,⟨rfl,rfl⟩,d,λb c=>(f b c).1⟩⟩;rw[Int.mul_one]
 done:=by
  intro X g j l m i a_ s σ H E I f U p;subst g j l;obtain⟨q,f1,f2,r,y,A⟩:=f a (by simp);exact Zu (I.ok.hd m) U (by have:n<=i:=p;lia) λD N=>⟨rfl,I.turned (t':=s.toks) (λb o c e=>N b o c e) q f1 r y A⟩
 self:=λ_ _ _ _ _ U h=>V2 U h
variable{z:Expr}
def Ou(K:Pl)(e:TE):TI:=λσ H R=>e σ H λx b=>∃a,x= .ref a/\(∃xs,en K b a xs)/\R (ZV K a) b
theorem JM(f:PE X l tl):PI X z l (Ou X.K tl):=by
 intro a_ s σ H R I h;refine d5 (f a_ s σ H _ I h) λv c ⟨x,g,d,t,u⟩=>?_;obtain⟨a,e,⟨xs,i⟩,q⟩:=u;subst e;cases t;obtain⟨D,k,p,m⟩:=d.list i;refine VF p.isList ?_;refine⟨c.heap.objs.size,[c.heap.objs.size],_,_,g,rfl,d.kept (t':=c.toks) λb o e=>OK _ e,qt a _,⟨_,O7 _ rfl,rfl,rfl⟩,λb j=>?_,q⟩;have e:b=c.heap.objs.size:=by simpa using j
 subst e;exact d.fpOk (OW _) (d.hok.fresh (OW _))
theorem tB{a_:a0c}{σ:St}{H:Hp}{s:OV}{E:a0d}{a c:Int}{t u v:Tok}(I:b_ X a_ σ H s)(f:-(2^62)<=a)(g:a<2^62)(h:-(2^62)<=c)(i:c<2^62)
  (q:R (ZU a (c-a).toNat) H):O8 (Px X.prog X.w) X.A (VZ (.ref s.heap.objs.size)) (PIE X a_ σ z R) E {s with heap:=s.heap.push {cls:= .type "range",data:= .fields #[.int a t,.int c u,.int 1 v]},toks:=m}:=by
 refine wpAny_pyIter_range (Xz ..) (small_one f g h i) ?_;have d:b_ X a_ σ H {s with heap:=s.heap.push {cls:= .type "range",data:= .fields #[.int a t,.int c u,.int 1 v]},toks:=m}:=I.kept λb o e=>OK _ e;refine⟨(s.heap.push {cls:= .type "range",data:= .fields #[.int a t,.int c u,.int 1 v]}).objs.size,[(s.heap.push {cls:= .type "range",data:= .fields #[.int a t,.int c u,.int 1 v]}).objs.size],_,_,H,rfl,
  d.kept (t':=m) λb o e=>OK _ e,wI _ a (c-a).toNat,?_,λb j=>?_,q⟩
 .have k:a+((0:Nat):Int)*1=a:=by simp
  have l:(((c-a).toNat:Nat):Int)-((0:Nat):Int)=UB a c 1:=by rw[rangeSize_one];split<;>lia
  show Wc _ _ (a+((0:Nat):Int)*1) ((((c-a).toNat:Nat):Int)-((0:Nat):Int)) 1;rw[k,l];exact O7 _ rfl
 .have e:b=(s.heap.push {cls:= .type "range",data:= .fields #[.int a t,.int c u,.int 1 v]}).objs.size:=by simpa using j
  subst e;exact d.fpOk (OW _) (d.hok.fresh (OW _))
def Os(b:TA):TI:=λσ H R=>b σ H λa c=>∃j:Int,a=[.int j]/\-(2^62)<=j/\j<2^62/\R (ZU 0 j.toNat) c
def Oq(b:TA):TI:=λσ H R=>b σ H λa c=>∃i j:Int,a=[.int i,.int j]/\(-(2^62)<=i/\i<2^62/\-(2^62)<=j/\j<2^62)/\R (ZU i (j-i).toNat) c
theorem zi{a:Expr}{p aa:Ub}(b:Gl X "range")(D:X.mg "range"=OI)(E:PA X [a] i)(G:Pe [a] X.env=[(OQ,Qu a X.env)]:=by rfl):PI X z (.Call (.Name "range" p) [a] [] aa) (Os i):=by
 intro a_ s σ H R I h;refine Call_ (fi I b D X2 (QB (d5 (E aa a_ s σ H _ I h) λS f ⟨U,g,c,K,u⟩=>?_) G rfl));obtain⟨j,e,u,M,q⟩:=u;subst e;cases K with
 |cons r d=>
  cases d;obtain⟨t,rfl⟩:=r;exact call_range_1 (tB c (by decide) (by decide) u M (by simpa using q))
theorem zh{a b:Expr}{p aa:Ub}(f:Gl X "range")(D:X.mg "range"=OI)(E:PA X [a,b] n)(G:Pe [a,b] X.env=[(OQ,Qu a X.env),(OQ,Qu b X.env)]:=by rfl)(c:Pe [b] X.env=[(OQ,Qu b X.env)]:=by rfl):
  PI X z (.Call (.Name "range" p) [a,b] [] aa) (Oq n):=by
 intro a_ s σ H R I h;refine Call_ (fi I f D X2 (QB (d5 (E aa a_ s σ H _ I h) λV l ⟨o,m,g,K,u⟩=>?_) (by rw[G,c]) (by rw[c];rfl)));obtain⟨i,j,e,⟨u,M,S,U⟩,q⟩:=u;subst e;cases K with
 |cons r d=>
  cases d with
  |cons k d=>
   cases d;obtain⟨t,rfl⟩:=r;obtain⟨v,rfl⟩:=k;exact call_range_2 (tB g u M S U q)
def wM(h:TI)(g:TG)(j:TS):TS:=λD σ H=>h σ H λJ k=>∃W:Nat->Nat->St->Hp->Prop,(∃m,W 0 m σ k)/\∀i m σ H,W i m σ H->
 (J.stop i H/\D.nx σ H)\/(J.go i H/\∃N:St->Hp->Prop,(∀b c,N b c->∃f,f<m/\W (i+1) f b c)/\∀x c,J.yld i H x c->g x σ c λd l=>j {D with nx:=N,ct:=N,bk:=D.nx} d l)
noncomputable def kW(c:a0q)(h:Qt):a0c:=c.filterMap λb=>(h.get? b).map λo=>(b,o)
theorem hZ{h:Qt}(c:b∈d)(e:h.get? b=My o):(b,o)∈kW d h:=UX.mpr ⟨b,c,by rw[e];rfl⟩
theorem zr{h:Qt}{p:OM×PF}(c:p∈kW g h):p.1∈g/\h.get? p.1=My p.2:=by
 obtain⟨b,d,e⟩:=UX.mp c;cases q:h.get? b with
 |none=>rw[q]at e;cases e
 |some o=>
  rw[q]at e;have f:(b,o)=p:=PH e;subst f;exact⟨d,q⟩
theorem b_.pinned{a_:a0c}{σ:St}{H:Hp}{s:OV}(I:b_ X a_ σ H s)(g:∀b∈k,fc X a_ H b)(h:∀b∈k,∃o,s.heap.get? b=My o/\∀v,o.data≠ .cell v):b_ X (a_++kW k s.heap) σ H s:=
 I.pins_of λp i=>(PD.mp i).elim (λz=>I.pin p (Qe _ z)) λz=>by
  obtain⟨c,e⟩:=zr z;obtain⟨j,f1,f2,_⟩:=g p.1 c;obtain⟨o,f,d⟩:=h p.1 c;rw[e]at f;cases f;exact⟨e,j,f1,f2,d⟩
theorem b_.unpinned{a_ a:a0c}{σ:St}{H:Hp}{s:OV}(I:b_ X (a_++a) σ H s):b_ X a_ σ H s:=I.pins_of λp b=>I.pin p (Qe _ (Sg _ b))
theorem bo{aa:Ub}(L:PassesOwn (Px X.prog X.w) X.A X.env X.xe)(S:X.calm=OL)(hi:PI X z iter wi)(hg:PG X z g)(j:PSs X body tb)
  (hs:∀x,Qh iter X.env x=Ry x:=by intro _;rfl):PS X (.For z iter body [] aa) (wM wi g tb):=by
 intro a_ s σ H D I h;refine wpAny_For (d5 (hi a_ s σ H _ I h) λv s1 h1=>d5 h1 λab s2 h2=>?_) hs;obtain⟨it,O,V,J,H2,e,I2,T,Z,f2,W,⟨m0,w0⟩,P⟩:=h2;subst e
 --what stays OL of the iterator's objects through the loop
 have k:∀{B:Hp},(∀b∈O,B b=OI)->∀b∈O,fc X a_ B b:=λhn b j=>⟨hn b j,(f2 b j).2⟩;refine codeAny_forLoop_any (λn s'=>∃i l B,b_ X a_ l B s'/\V i s'.heap/\(∀b∈O,B b=OI)/\W i n l B) ?_ m0 ⟨0,σ,H2,I2,Z,λb j=>(f2 b j).1,w0⟩;rintro n s3 ⟨i,p,Y,I3,Q,R,w3⟩;rcases P i n p Y w3 with⟨a,qn⟩|⟨go,N,hN,step⟩
 .refine Va L (d5 (T.done X rfl rfl rfl S i a_ s3 p Y X.xe I3 (k R) Q a) λr s4 ⟨t,I4⟩=>?_)
  subst t;exact XE ⟨p,Y,I4,qn⟩
 .refine Va L (d5 (T.item X rfl rfl rfl S i a_ s3 p Y X.xe I3 (k R) Q go) λr s4 ⟨u,t,h4⟩=>?_)
  subst t;refine Va L (d5 h4 λ_ s5 ⟨x,H5,I5,r5,y5,F,E⟩=>?_);have G:=I5.pinned (k E) (T.obj _ _ F);refine Va L (d5 (hg _ s5 p H5 x u _ G r5 (step x H5 y5)) λ_ s6 ⟨K,H6,I6,q6⟩=>?_);refine Va L (d5 (j _ s6 K H6 _ I6 q6) λf M C=>?_);have Wz:∀{c:St} {q:Hp},b_ X (a_++kW O s5.heap) c q M->N c q->∃m,m<n/\∃i l B,b_ X a_ l B M/\V i M.heap/\(∀b∈O,B b=OI)/\W i m l B:=λ{c q} y U=>by
   obtain⟨m',hm,w7⟩:=hN c q U;refine⟨m',hm,i+1,c,q,y.unpinned,T.keep _ _ _ F λb j o e=>(y.pin (b,o) (Qe _ (Qe _ (hZ j e)))).1,λb j=>?_,w7⟩;obtain⟨o,e,d⟩:=T.obj _ _ F b j;exact(y.pin (b,o) (Qe _ (Qe _ (hZ j e)))).2.1
  cases f with
  |next=>obtain⟨c,q,y,U⟩:=C;exact Wz y U
  |cont=>obtain⟨c,q,y,U⟩:=C;exact Wz y U
  |brk=>obtain⟨c,q,y,C⟩:=C;exact⟨c,q,y.unpinned,C⟩
  |ret v=>obtain⟨x7,c,q,y,r7,C⟩:=C;exact⟨x7,c,q,y.unpinned,r7,C⟩
abbrev R2:=V->V->Hp->VK->Prop
def fw(X:Cx)(f:a1a)(r:R2):Prop:=
 ∀(a_:a0c) (s:OV) (σ:St) (H:Hp) (x y:V) (v u:OP) (Q:VK),b_ X a_ σ H s->aJ x v->aJ y u->r x y H Q->
  O8 (Px X.prog X.w) X.A (f v u) (EP X a_ σ Q) X.xe s
def UnR(X:Cx)(f:OP->X0 OP)(r:V->Hp->VK->Prop):Prop:=
 ∀(a_:a0c) (s:OV) (σ:St) (H:Hp) (x:V) (v:OP) (Q:VK),b_ X a_ σ H s->aJ x v->r x H Q->
  O8 (Px X.prog X.w) X.A (f v) (EP X a_ σ Q) X.xe s
def cD(X:Cx)(f:OP)(r:a0O):Prop:=
 ∀(a_:a0c) (s:OV) (σ:St) (H:Hp) (xs:a0k) (a:a0g) (Q:VK),b_ X a_ σ H s->aw xs a->r xs H Q->
  O8 (Px X.prog X.w) X.A (Wq f a) (EP X a_ σ Q) X.xe s
def TruR(X:Cx)(r:V->Hp->(Bool->Hp->Prop)->Prop):Prop:=
 ∀(a_:a0c) (s:OV) (σ:St) (H:Hp) (x:V) (v:OP) (Q:a0V),b_ X a_ σ H s->aJ x v->r x H Q->
  O8 (Px X.prog X.w) X.A (truthy v) (TP X a_ σ Q) X.xe s
def N_(r:R2)(b c:TE):TE:=λσ H Q=>b σ H λx d=>c σ d λy f=>r x y f Q
def tUn(r:V->Hp->VK->Prop)(b:TE):TE:=λσ H Q=>b σ H λx c=>r x c Q
def rI(C:a0W)(g:Int->Int->V):R2:=λx y H Q=>∃i j,x= .int i/\y= .int j/\C i j/\Q (g i j) H
def p3(g:Int->Int->V):R2:=λx y H Q=>∃i j,x= .int i/\y= .int j/\Q (g i j) H
def rU(g:Int->V):V->Hp->VK->Prop:=λx H Q=>∃i,x= .int i/\Q (g i) H
end
section
variable{X:Cx}{a b c:Expr}{ta tb tc:TE}{aa:Ub}
theorem EX(c:PE X a ta)(m:PE X b tb){d:a0c}{s:OV}{e:St}{H:Hp}{R:V->V->Hp->Prop}(I:b_ X d e H s)
  (h:ta e H λx l=>tb e l λy g=>R x y g) {Q:a0d} {f:a1a}
  (n:∀v u k x y g,b_ X d e g k->aJ x v->aJ y u->R x y g->O8 (Px X.prog X.w) X.A (f v u) Q X.xe k):
  O8 (Px X.prog X.w) X.A (Qu a X.env) (λv i=>O8 (Px X.prog X.w) X.A (Qu b X.env) (λu j=>O8 (Px X.prog X.w) X.A (f v u) Q X.xe j) X.xe i) X.xe s:=by
 refine d5 (c d s e H _ I h) λv o ⟨x,l,p,D,E⟩=>?_;refine d5 (m d o e l _ p E) λu k ⟨y,g,q,r,G⟩=>?_;exact n v u k x y g q D r G
theorem dO(e:fw X (Se op) r)(c:PE X a ta)(f:PE X b tb):PE X (.BinOp a op b aa) (N_ r ta tb):=by
 intro d s g H Q I h;exact wpAny_BinOp (EX c f I h λv u i x y j k l m q=>e d i g j x y v u Q k l m q)
theorem NX(f:UnR X (unaryOp op) r)(b:PE X a ta):PE X (.UnaryOp op a aa) (tUn r ta):=by
 intro d s e H Q I h;exact UnaryOp_ (d5 (b d s e H _ I h) λv g ⟨x,i,j,c,D⟩=>f d g e i x v Q j c D)
theorem nl{f:a1a}{C:a0W}{g:a0L}
  (d:∀(i j:Int) (t u:Tok) (s:OV) (Q:a0d) (E:a0d),C i j->Q (.int (g i j) s.toks) {s with toks:=s.toks+1}->O8 (Px X.prog X.w) X.A (f (.int i t) (.int j u)) Q E s):
  fw X f (rI C λi j=> .int (g i j)):=by
 intro e s n H x y v u Q I k l h;obtain⟨i,j,rfl,rfl,m,q⟩:=h;obtain⟨t,rfl⟩:=k;obtain⟨a,rfl⟩:=l;exact d i j t a s _ _ m ⟨.int (g i j),H,I.tok _,⟨_,rfl⟩,q⟩
theorem LC{f:a1a}{g:a0L}
  (d:∀(i j:Int) (t u:Tok) (s:OV) (Q:a0d) (E:a0d),Q (.int (g i j) s.toks) {s with toks:=s.toks+1}->O8 (Px X.prog X.w) X.A (f (.int i t) (.int j u)) Q E s):
  fw X f (p3 λi j=> .int (g i j)):=by
 intro e s m H x y v u Q I k l h;obtain⟨i,j,rfl,rfl,q⟩:=h;obtain⟨t,rfl⟩:=k;obtain⟨a,rfl⟩:=l;exact d i j t a s _ _ ⟨.int (g i j),H,I.tok _,⟨_,rfl⟩,q⟩
theorem w9{f:a1a}{g:Int->Int->Bool}
  (d:∀(i j:Int) (t u:Tok) (s:OV) (Q:a0d) (E:a0d),Q (.bool (g i j)) s->O8 (Px X.prog X.w) X.A (f (.int i t) (.int j u)) Q E s):
  fw X f (p3 λi j=> .bl (g i j)):=by
 intro e s m H x y v u Q I k l h;obtain⟨i,j,rfl,rfl,q⟩:=h;obtain⟨t,rfl⟩:=k;obtain⟨a,rfl⟩:=l;exact d i j t a s _ _ ⟨.bl (g i j),H,I,rfl,q⟩
def CDiv(i j:Int):Prop:=0<j/\j<1073741824
def CPow(i j:Int):Prop:=0<=j/\j<=1000000/\i.natAbs<2^64
def HC(i j:Int):Prop:=(-(2^64)<i/\i<2^64)\/(-(2^64)<j/\j<2^64)
theorem HC.ok(h:HC i j):IntMulOk i j:=by
 rcases h with⟨d,e⟩|⟨d,e⟩
 .exact .of_left (intBits_le_64 d e)
 .exact .of_right (intBits_le_64 d e)
theorem oN:fw X (Se .Add) (p3 λi j=> .int (i+j)):=LC λ_ _ _ _ _ _ _ q=>add_int q
theorem eA:fw X (Se .Sub) (p3 λi j=> .int (i-j)):=LC λ_ _ _ _ _ _ _ q=>sub_int q
theorem Lz:fw X (Se .Mult) (rI HC λi j=> .int (i*j)):=nl λ_ _ _ _ _ _ _ d q=>mul_int q d.ok
theorem vO:fw X (Se .FloorDiv) (rI CDiv λi j=> .int (i/j)):=nl λi j _ _ _ _ _ d q=>by
 have e:(0:Int)<j:=d.1;have f:j<1073741824:=d.2;exact floordiv_int (by lia) (by rw[U3 i (by lia)];exact q) (.inl (PyProof.noPylong_small (by omega)))
theorem kY:fw X (Se .Mod) (rI (λ_ j=>0<j) λi j=> .int (i % j)):=nl λi j _ _ _ _ _ d q=>by
 have e:(0:Int)<j:=d;exact mod_int' (by lia) (by rw[Int.fmod_eq_emod_of_nonneg i (by lia)];exact q)
theorem Lx:fw X (Se .Pow) (rI CPow λi j=> .int (i^j.toNat)):=nl λ_ _ _ _ _ _ _ d q=>pow_int_small d.1 d.2.1 d.2.2 q
theorem unI{f:OP->X0 OP}{g:Int->Int}
  (d:∀(i:Int) (t:Tok) (s:OV) (Q:a0d) (E:a0d),Q (.int (g i) s.toks) {s with toks:=s.toks+1}->O8 (Px X.prog X.w) X.A (f (.int i t)) Q E s):
  UnR X f (rU λi=> .int (g i)):=by
 intro e s k H x v Q I j h;obtain⟨i,rfl,q⟩:=h;obtain⟨t,rfl⟩:=j;exact d i t s _ _ ⟨.int (g i),H,I.tok _,⟨_,rfl⟩,q⟩
theorem ym:UnR X (unaryOp .USub) (rU λi=> .int (-i)):=unI λ_ _ _ _ _ q=>neg_int q
noncomputable def CF:V->V->Bool
 | .non,.non=>OL| .non,.int _=>OL| .int _,.non=>OL| .non,.bl _=>OL| .bl _,.non=>OL| .non,.str _=>OL| .str _,.non=>OL
 | .int _,.int _=>OL| .bl _,.bl _=>OL| .str _,.str _=>OL
 | .int _,.str _=>OL| .str _,.int _=>OL| .bl _,.str _=>OL| .str _,.bl _=>OL
 |_,_=>OQ
noncomputable def rEq:R2:=λx y H Q=>CF x y=OL/\Q (.bl (decide (x=y))) H
noncomputable def rNe:R2:=λx y H Q=>CF x y=OL/\Q (.bl (!decide (x=y))) H
theorem wl:decide (V.int i=V.int j)=(i==j):=by
 rw[VH];simp
theorem vu{i j:Bool}:decide (V.bl i=V.bl j)=(i==j):=by
 rw[VH];simp
theorem wk:decide (V.str i=V.str j)=(i==j):=by
 rw[VH];simp
theorem c4{k d:Bool}(I:b_ X f g H s)(q:Q (.bl k) H)(e:k=d):EP X f g Q (.bool d) s:=by
 subst e;exact⟨.bl k,H,I,rfl,q⟩
theorem N2:fw X (Qy .Eq) rEq:=by
 intro f s g H x y v u Q I e d h;obtain⟨b,q⟩:=h;cases x with
 |non=>
  cases e;cases y with
  |non=>cases d;exact PySem.EqNone.eq_none_none (c4 I q (by simp))
  |bl j=>cases d;exact PySem.EqNone.eq_none_bool (c4 I q (by simp))
  |int j=>obtain⟨a,rfl⟩:=d;exact PySem.EqNone.eq_none_int (c4 I q (by simp))
  |str j=>obtain⟨a,rfl⟩:=d;exact PySem.EqNone.eq_none_str (c4 I q (by simp))
  |_=>exact Pp (show OQ=OL from b) O4
 |bl i=>
  cases e;cases y with
  |non=>cases d;exact PySem.EqNone.eq_bool_none (c4 I q (by simp))
  |bl j=>cases d;exact eq_bool (c4 I q vu)
  |str j=>obtain⟨a,rfl⟩:=d;exact PySem.EqMixed.eq_bool_str (c4 I q (by simp))
  |_=>exact Pp (show OQ=OL from b) O4
 |int i=>
  obtain⟨t,rfl⟩:=e;cases y with
  |non=>cases d;exact PySem.EqNone.eq_int_none (c4 I q (by simp))
  |int j=>obtain⟨a,rfl⟩:=d;exact eq_int (c4 I q wl)
  |str j=>obtain⟨a,rfl⟩:=d;exact PySem.EqMixed.eq_int_str (c4 I q (by simp))
  |_=>exact Pp (show OQ=OL from b) O4
 |str i=>
  obtain⟨t,rfl⟩:=e;cases y with
  |non=>cases d;exact PySem.EqNone.eq_str_none (c4 I q (by simp))
  |bl j=>cases d;exact PySem.EqMixed.eq_str_bool (c4 I q (by simp))
  |int j=>obtain⟨a,rfl⟩:=d;exact PySem.EqMixed.eq_str_int (c4 I q (by simp))
  |str j=>obtain⟨a,rfl⟩:=d;exact eq_str (c4 I q wk)
  |_=>exact Pp (show OQ=OL from b) O4
 |_=>cases y<;>exact Pp (show OQ=OL from b) O4
theorem N0:fw X (Qy .NotEq) rNe:=by
 intro f s g H x y v u Q I e d h;obtain⟨b,q⟩:=h;cases x with
 |non=>
  cases e;cases y with
  |non=>cases d;exact PySem.EqNone.ne_none_none (c4 I q (by simp))
  |bl j=>cases d;exact PySem.EqNone.ne_none_bool (c4 I q (by simp))
  |int j=>obtain⟨a,rfl⟩:=d;exact PySem.EqNone.ne_none_int (c4 I q (by simp))
  |str j=>obtain⟨a,rfl⟩:=d;exact PySem.EqNone.ne_none_str (c4 I q (by simp))
  |_=>exact Pp (show OQ=OL from b) O4
 |bl i=>
  cases e;cases y with
  |non=>cases d;exact PySem.EqNone.ne_bool_none (c4 I q (by simp))
  |bl j=>cases d;exact ne_bool (c4 I q (Qb not vu))
  |str j=>obtain⟨a,rfl⟩:=d;exact PySem.EqMixed.ne_bool_str (c4 I q (by simp))
  |_=>exact Pp (show OQ=OL from b) O4
 |int i=>
  obtain⟨t,rfl⟩:=e;cases y with
  |non=>cases d;exact PySem.EqNone.ne_int_none (c4 I q (by simp))
  |int j=>obtain⟨a,rfl⟩:=d;exact ne_int (c4 I q (Qb not wl))
  |str j=>obtain⟨a,rfl⟩:=d;exact PySem.EqMixed.ne_int_str (c4 I q (by simp))
  |_=>exact Pp (show OQ=OL from b) O4
 |str i=>
  obtain⟨t,rfl⟩:=e;cases y with
  |non=>cases d;exact PySem.EqNone.ne_str_none (c4 I q (by simp))
  |bl j=>cases d;exact PySem.EqMixed.ne_str_bool (c4 I q (by simp))
  |int j=>obtain⟨a,rfl⟩:=d;exact PySem.EqMixed.ne_str_int (c4 I q (by simp))
  |str j=>obtain⟨a,rfl⟩:=d;exact ne_str (c4 I q (Qb not wk))
  |_=>exact Pp (show OQ=OL from b) O4
 |_=>cases y<;>exact Pp (show OQ=OL from b) O4
theorem rE:fw X (Qy .Lt) (p3 λi j=> .bl (decide (i<j))):=w9 λ_ _ _ _ _ _ _ q=>lt_int q
theorem jY:fw X (Qy .LtE) (p3 λi j=> .bl (decide (i<=j))):=w9 λ_ _ _ _ _ _ _ q=>le_int q
theorem w8:fw X (Qy .Gt) (p3 λi j=> .bl (decide (j<i))):=w9 λ_ _ _ _ _ _ _ q=>gt_int q
theorem N1:fw X (Qy .GtE) (p3 λi j=> .bl (decide (j<=i))):=w9 λ_ _ _ _ _ _ _ q=>ge_int q
theorem tP:fw X (Qy .Is) (λx y H Q=>y= .non/\Q (.bl (decide (x= .non))) H):=by
 intro d s g H x y v u Q I e f h;obtain⟨rfl,q⟩:=h;cases f;refine is_none_gen (c4 I q ?_);cases x<;>first
  |(cases e;rfl)
  |(obtain⟨t,rfl⟩:=e;rfl)
theorem fw.or(h:fw X f r)(a:fw X f j):fw X f (λx y H Q=>r x y H Q\/j x y H Q):=by
 intro d s e H x y v u Q I g i q;rcases q with q|q
 .exact h d s e H x y v u Q I g i q
 .exact a d s e H x y v u Q I g i q
theorem tR(b:Expr)(h:op≠ .In:=by decide)(d:op≠ .NotIn:=by decide):UP op b=OQ:=by
 have e:(op==CmpOp.In)=OQ:=by cases op<;>first|rfl|exact Pp rfl h
 have f:(op==CmpOp.NotIn)=OQ:=by cases op<;>first|rfl|exact Pp rfl d
 cases b<;>simp[UP,e,f]
theorem JQ(e:fw X (Qy op) r)(c:PE X a ta)(f:PE X b tb)(D:UP op b=OQ):PE X (.Compare a [op] [b] aa) (N_ r ta tb):=by
 intro d s g H Q I h;exact wpAny_Compare1 (EX c f I h λv u i x y j k l m q=>e d i g j x y v u Q k l m q) D
def wK(t:TE):TT:=λd H Q=>t d H λx e=>∃k,x= .bl k/\Q k e
theorem vG(g:fw X (Qy op) r)(D:PE X a ta)(i:PE X b tb)(E:UP op b=OQ):PT X (.Compare a [op] [b] aa) (wK (N_ r ta tb)):=by
 intro d s f H Q I h;refine wpAny_isTrue_Compare1 (d5 (D d s f H _ I h) λv j ⟨x,l,m,G,K⟩=>d5 (i d j f l _ m K) λu n ⟨y,o,p,q,M⟩=>
  d5 (g d n f o x y v u _ p G q M) λc B ⟨z,t,w,A,k,e,S⟩=>?_) E
 subst e;cases A;exact QS ⟨t,w,S⟩
def yA(r f:R2)(ta tb tc:TE):TE:=λd H Q=>ta d H λx g=>tb d g λy h=>r x y h λz e=>∃k,z= .bl k/\
 (if k=OL then tc d e λi j=>f y i j Q else Q (.bl OQ) e)
theorem CL(n:fw X (Qy op) r)(i:fw X (Qy op') r')(E:PE X a ta)(o:PE X b tb)(p:PE X c tc)
  (G:Zb [op,op'] [b,c]=OQ:=by with_unfolding_all rfl):PT X (.Compare a [op,op'] [b,c] aa) (wK (yA r r' ta tb tc)):=by
 intro f s g H Q I h;refine isTrue_chain (d5 (E f s g H _ I h) λv q ⟨x,t,w,K,M⟩=>test_link (d5 (o f q g t _ w M) λu A ⟨y,B,C,j,S⟩=>
  d5 (n f A g B x y v u _ C K j S) λd F ⟨z,l,m,J,k,e,D⟩=>?_)) G
 subst e;cases J;refine QS ?_;cases k with
 |false=>
  obtain⟨k',L,N⟩:=D;cases L;exact ite_ff ⟨l,m,N⟩
 |true=>
  refine ite_tt (test_last (d5 (p f F g l _ m D) λO P ⟨R,T,U,W,V⟩=>d5 (i f P g T y R u O _ U j W V) λd' s5 ⟨z2,Y,Z,r5,k2,e2,q5⟩=>?_));subst e2;cases r5;exact QS ⟨Y,Z,q5⟩
def GY(K:Pl)(x:V)(H:Hp)(k:Bool):Prop:=
 match x with
 | .non=>k=OQ
 | .bl b=>k=b
 | .int i=>k=(i !=0)
 | .str y=>y.length<=Pk/\k=((y.length:Int) !=0)
 | .ref p=>(∃a,en K H p a/\k=!a.isEmpty)\/∃a,g_ K H p a/\k=!a.isEmpty
 |_=>False
theorem o4(r:aw e d):(!d.toArray.isEmpty)=!e.isEmpty:=by
 cases r<;>simp
theorem jD:(Pk:Nat)<2^63:=by rw[Q6];decide
theorem KE:TruR X (λx H Q=>∃k,GY X.K x H k/\Q k H):=by
 intro j s m H x v Q I f h;obtain⟨k,e,q⟩:=h;have n:=jD;have G:Pk=16777216:=Q6;cases x with
 |non=>
  cases f;have d:k=OQ:=e;subst d;exact truthy_none ⟨H,I,q⟩
 |bl b=>
  cases f;have d:k=b:=e;subst d;exact QS ⟨H,I,q⟩
 |int i=>
  obtain⟨t,rfl⟩:=f;have d:k=(i !=0):=e;subst d;exact PySem.P.truthy_int ⟨H,I,q⟩
 |str y=>
  obtain⟨t,rfl⟩:=f;obtain⟨M,d⟩:y.length<=Pk/\k=((y.length:Int) !=0):=e;subst d;exact PySem.P.truthy_str (by lia) ⟨H,I.tok _,q⟩
 |ref p=>
  cases f;have d:(∃a,en X.K H p a/\k=!a.isEmpty)\/∃a,g_ X.K H p a/\k=!a.isEmpty:=e;rcases d with⟨a,c,d⟩|⟨a,c,d⟩
  .subst d
   obtain⟨D,r,E,l⟩:=I.list c;have g:=r.length;exact wpAny_truthy_list E.isList (by simp only[Pg];lia) ⟨H,I.tok _,by rw[o4 r];exact q⟩
  .subst d
   obtain⟨D,r,E,l⟩:=I.tuple c;have g:=r.length;exact truthy_tuple E (by simp only[Pg];lia) ⟨H,I.tok _,by rw[o4 r];exact q⟩
 |_=>exact(show False from e).elim
theorem CK(b:PE X a ta)(i:∀d,isTrue a X.env d=(do let v <-d;Us a.pos;Vk [v] (truthy v))):
  PT X a (λf H Q=>ta f H λx g=>∃k,GY X.K x g k/\Q k g):=by
 intro e s f H Q I h;exact isTrue_plain (d5 (b e s f H _ I h) λv j ⟨x,l,m,c,D⟩=>KE e j f l x v Q m c D) (i _)
theorem gx(r:aw [x] us):∃u,us=[u]/\aJ x u:=by
 cases r with
 |cons a d=>cases d;exact⟨_,rfl,a⟩
theorem wA(r:aw [x,y] h):∃u d,h=[u,d]/\aJ x u/\aJ y d:=by
 cases r with
 |cons a e=>
  cases e with
  |cons f g=>cases g;exact⟨_,_,rfl,a,f⟩
theorem ET:cD X (.builtin "abs") (λxs H Q=>∃i,xs=[.int i]/\Q (.int (if i<0 then -i else i)) H):=by
 intro d s e H xs a Q I r h;obtain⟨i,rfl,q⟩:=h;obtain⟨u,rfl,t,rfl⟩:=gx r;exact call_abs_int λu f=>⟨.int (if i<0 then -i else i),H,I.tok _,⟨_,rfl⟩,q⟩
theorem qZ(f:X.calm=OL):cD X (.builtin "max") (λa H Q=>∃i j,a=[.int i,.int j]/\Q (.int (if j>i then j else i)) H):=by
 intro e s g H a b Q I r h;obtain⟨i,j,rfl,q⟩:=h;obtain⟨u,l,rfl,⟨t,rfl⟩,⟨c,rfl⟩⟩:=wA r;refine max_two_ints (I.ok.hd f) λD m k=>⟨_,H,I.kept k,?_,q⟩;by_cases d:j>i
 .rw[OZ d,OZ d];exact⟨_,rfl⟩
 .rw[OY d,OY d];exact⟨_,rfl⟩
theorem jc(f:X.calm=OL):cD X (.builtin "min") (λa H Q=>∃i j,a=[.int i,.int j]/\Q (.int (if j<i then j else i)) H):=by
 intro e s g H a b Q I r h;obtain⟨i,j,rfl,q⟩:=h;obtain⟨u,l,rfl,⟨t,rfl⟩,⟨c,rfl⟩⟩:=wA r;refine min_two_ints (I.ok.hd f) λD m k=>⟨_,H,I.kept k,?_,q⟩;by_cases d:j<i
 .rw[OZ d,OZ d];exact⟨_,rfl⟩
 .rw[OY d,OY d];exact⟨_,rfl⟩
structure r8 (h:Qt) (x dx C:OM) (mA:a0j):Prop where
 obj:h.get? x=My (Wm C dx)
 ns:h.Ns1 dx mA
 ne:dx≠x
theorem zI{h:Qt}(n:h.Ns1 k mA):∃f,h.get? k=My f/\∀b,lookIn b f=My (mA b):=by
 obtain⟨o,c,K,g,D,i,_,E⟩:=n;refine⟨o,g,λb=>?_⟩;have e:=E b;unfold nsFind findBy at e;rw[<-Array.find?_toList]at e;unfold lookIn;rw[D]
 dsimp only
 split
 .rename_i y q
  rw[q]at e;exact Qb My e
 .rename_i q
  rw[q]at e;have a:c.toList.any (·.refKey)=OQ:=by
   rw[Zj];intro y G;obtain⟨z,t,d⟩:=i y (Array.mem_toList_iff.mp G);simp[DictEntry.refKey,d]
  have j:¬c.toList.any (·.refKey)=OL:=by rw[a];exact O4
  rw[OY j];exact Qb My e
theorem r8.look(I:r8 h x e C mA):∃d,PySem.W.InstAt h x (Wm C e) C (My d)/\∀a,lookIn a d=My (mA a):=
 let ⟨d,ho,hl⟩:=zI I.ns
 ⟨d,⟨I.obj,rfl,rfl,ho⟩,hl⟩
variable{z:PM}{w:P0}{A:P7}{E:a0d}{s:OV}{K:Pl}{x N C f:OM}{L:a0j}{c:PZ}{v:OP}
theorem Ke{d:Bool}(X:K.In s.heap)(I:r8 s.heap x N C L)(g:plainGet K C c=OL)(i:hasDictIn K C=OL)
  (a:T9 K (.ref C) c=My OI) (j:L c=My v) (e:YJ v=OL) (h:Q v {s with toks:=s.toks+1}):
  O8 (Px z w) A (getAttr (.ref x) c d) Q E s:=by
 obtain⟨l,J,k⟩:=I.look;exact PySem.W.get_value X J (plainGet_of g).1 (PySem.W.findObj_own i a rfl (by rw[k,j])) e h
theorem EH(X:K.In s.heap)(I:r8 s.heap x N C L)(d:plainGet K C c=OL)
  (e:T9 K (.ref C) c=My (My (.ref f))) (g:isFn K (.ref f)=OL) (i:L c=OI) (h:Q (.ref f,[.ref x]) s):
  O8 (Px z w) A (Za (.ref x) c l) Q E s:=by
 obtain⟨j,J,k⟩:=I.look;exact PySem.W.method_fn X J (plainGet_of d).1 (plainGet_of d).2 e (beq_iff_eq.mp g) (by show(lookIn c j).map (·.isSome)=My OQ;rw[k,i];rfl) h
theorem Jx{D:a0i}(X:K.In s.heap)(I:r8 s.heap x N C L)
  (G:T9 K (.ref C) "__setattr__"=My (My (.builtin "object.__setattr__"))) (l:Yu K C=OL) (m:takerIn K C c=My OI) (n:hasDictIn K C=OL)
  (o:Wd L D) (p:D.length<=Pk)
  (h:∀f,r8 f x N C (λy=>if y=c then My v else L y)->PQ N s.heap f->Q () {s with heap:=f,toks:=s.toks+2}):
  O8 (Px z w) A (setAttr (.ref x) c v) Q E s:=by
 obtain⟨B,J,F⟩:=I.look;refine PySem.W.set_plain X J G (PySem.W.osa_open (s:={s with toks:=s.toks+1}) (r:=OI) X J l m λb=>?_);obtain⟨S,q,g⟩:=PySem.W.any_some n;have M:s.heap.get? x=My ⟨.ref C,My N,.plain,#[]⟩:=I.obj;refine OG (OJ (OG (OG (wpAny_loadPart M (OG (PySem.W.Looks.here (s:={s with toks:=s.toks+1}) (PySem.W.looks_clsIn X q) ?_))))));rw[g];refine OJ (a:=My N) (OG (OJ (OG ?_)));refine wpAny_nsSet1 (s:={s with toks:=s.toks+1}) I.ns λf d e=>?_;obtain⟨H,t,u,i,j,k⟩:=d.count (Wd.cons c v o);refine OG (wpAny_lookBehind i (by rw[j];exact pastItsLine_dict (Pj k (by rw[Pb];exact Vz ‹_›))) ?_);exact OJ (h _ ⟨(e.2 _ (Ne.symm I.ne)).trans I.obj,d,I.ne⟩ e)
theorem DE(X:K.In s.heap)(b:Y0 K C=OL)
  (e:T9 K (.ref C) "__init__"=My (My (.ref f))) (i:PySem.W.typeIn K (.ref f)=My (.type "function"))
  (h:T3 (Px z w) (A.under (.builtin "type.__call__" ⟨.ref C::k,kw⟩)) (.call (.ref f) ⟨.ref (s.heap.objs.size+1)::k,kw⟩) (PySem.W.InitBack (s.heap.objs.size+1) R)
   {s with heap:=(s.heap.push UI).push (Wm C s.heap.objs.size)}):
  T3 (Px z w) A (.call (.ref C) ⟨k,kw⟩) R s:=by
 obtain⟨j,g,d,t,c⟩:=s;exact PySem.W.make_core (PySem.W.makes_of X b) (PySem.W.looks_findIn X e) (λa=>PySem.W.bind_fn X a i) (.inl rfl) h
noncomputable def dB(f:PZ)(v:V):a0E->a0E
 |[]=>[(f,v)]
 |(g,x)::r=>if g=f then(g,v)::r else(g,x)::dB f v r
theorem mM(f g:PZ)(v:V):∀a:a0E,(dB f v a).lookup g=if g=f then My v else a.lookup g
 |[]=>by
  show Ux g [(f,v)]=_;by_cases h:g=f
  .have d:(g==f)=OL:=beq_iff_eq.mpr h
   simp only[Ux,d,OZ h]
  .have d:(g==f)=OQ:=beq_eq_false_iff_ne.mpr h
   simp only[Ux,d,OY h]
 |(k,x)::r=>by
  have b:=mM f g v r;rw[show dB f v ((k,x)::r)=(if k=f then(k,v)::r else(k,x)::dB f v r)from rfl];by_cases i:k=f
  .rw[OZ i]
   by_cases h:g=k
   .have d:(g==k)=OL:=beq_iff_eq.mpr h
    simp only[Ux,d,OZ (h.trans i)]
   .have d:(g==k)=OQ:=beq_eq_false_iff_ne.mpr h
    simp only[Ux,d,OY (λe:g=f=>h (e.trans i.symm))]
  .rw[OY i]
   by_cases h:g=k
   .have d:(g==k)=OL:=beq_iff_eq.mpr h
    simp only[Ux,d,OY (λe:g=f=>i (h.symm.trans e))]
   .have d:(g==k)=OQ:=beq_eq_false_iff_ne.mpr h
    simp only[Ux,d];exact b
theorem k9(f:PZ)(v:V):∀a:a0E,f∈(dB f v a).map (·.1)/\∀g,g∈a.map (·.1)->g∈(dB f v a).map (·.1)
 |[]=>⟨by simp[dB],λg h=>by simp at h⟩
 |(k,x)::r=>by
  obtain⟨i,i2⟩:=k9 f v r;rw[show dB f v ((k,x)::r)=(if k=f then(k,v)::r else(k,x)::dB f v r)from rfl];by_cases d:k=f
  .rw[OZ d]
   subst d;exact⟨by simp,λg h=>by simpa using h⟩
  .rw[OY d]
   refine⟨?_,λg h=>?_⟩
   .rw[Pc]
    exact OO _ i
   .rw[Pc]at h⊢
    rcases O6.mp h with e|e
    .exact O6.mpr (.inl e)
    .exact OO _ (i2 g e)
theorem mP(f:PZ)(v:V):∀a:a0E,(dB f v a).length<=a.length+1
 |[]=>by simp[dB]
 |(k,x)::r=>by
  have b:=mP f v r;rw[show dB f v ((k,x)::r)=(if k=f then(k,v)::r else(k,x)::dB f v r)from rfl];by_cases d:k=f
  .rw[OZ d,Pb,Pb];exact Vo _
  .rw[OY d,Pb,Pb];exact Vz ‹_›
theorem gZ.some_of{v:V}(r:gZ (My v) o):∃u,o=My u/\aJ v u:=by
 cases o with
 |none=>exact(show False from r).elim
 |some u=>exact⟨u,rfl,r⟩
theorem gZ.none_of(r:gZ OI o):o=OI:=by
 cases o with
 |none=>rfl
 |some u=>exact(show False from r).elim
theorem AF{v:V}(r:aJ v u):YJ u=OL:=by
 cases v with
 |non=>cases(show u=P4 from r);rfl
 |bl b=>cases(show u=V6 b from r);rfl
 |int i=>obtain⟨t,e⟩:=(show ∃t,u=S6 i t from r);cases e;rfl
 |str x=>obtain⟨t,e⟩:=(show ∃t,u=Zn x t from r);cases e;rfl
 |ref a=>cases(show u=Pa a from r);rfl
 |ty n=>cases(show u=Sm n from r);rfl
end
section
variable{P:PM}{w:P0}{H l:Hp}{h h':Qt}{a C dx:OM}{N n:a0E}
theorem il(l:js P w H h)(e:H a=My (.ins C dx N)):∃b,r8 h a dx C b/\(∀f,gZ (N.lookup f) (b f))/\Wd b (N.map (·.1))/\N.length<=1000/\H dx=My (.own a):=by
 obtain⟨d,z,D,c,b,n,r,q⟩:=(show bJ P w H h a (.ins C dx N)from l a _ e);exact⟨b,⟨c,n,D⟩,r,q,z,d⟩
structure tx (K:Pl) (C:OM):Prop where
 pg:plainGet K C Tj=OL
 hd:hasDictIn K C=OL
 po:Yu K C=OL
 sa:T9 K (.ref C) "__setattr__"=My (My (.builtin "object.__setattr__"))
theorem tx.get{K:Pl}{C:OM}(c:tx K C)(f:PZ):plainGet K C f=OL:=c.pg
def dS(K:Pl)(C:OM)(f:PZ):Prop:=T9 K (.ref C) f=My OI
theorem dS.taker{K:Pl}{C:OM}(n:dS K C f):takerIn K C f=My OI:=by
 unfold takerIn;rw[show T9 K (.ref C) f=My OI from n];rfl
structure r_ (K:Pl) (C:OM) (m:PZ) (f:OM):Prop where
 at_:T9 K (.ref C) m=My (My (.ref f))
 fn:isFn K (.ref f)=OL
 kp:U8 K (.ref f)=OL
variable{X:Cx}{R:a0c}{L:St}{s:OV}{f:PZ}{v:V}{A:P7}{E:a0d}
theorem xK{b:Bool}(I:b_ X R L H s)(e:H a=My (.ins C dx N))(c:tx X.K C)(n:dS X.K C f)(l:N.lookup f=My v)
  (h:∀u D,b_ X R L H D->aJ v u->Q u D):O8 (Px X.prog X.w) A (getAttr (.ref a) f b) Q E s:=by
 obtain⟨g,O,r,_,_,_⟩:=il I.hok e;obtain⟨u,i,d⟩:=gZ.some_of (v:=v) (o:=g f) (by rw[<-l];exact r f);exact Ke I.kIn O (c.get f) c.hd n i (AF d) (h u _ (I.tok _) d)
theorem xJ(I:b_ X R L H s)(e:H a=My (.ins C dx N))(c:tx X.K C)(k:r_ X.K C m g)(l:N.lookup m=OI)
  (h:Q (.ref g,[.ref a]) s):O8 (Px X.prog X.w) A (Za (.ref a) m pl) Q E s:=by
 obtain⟨b,O,r,_,_,_⟩:=il I.hok e;have f:b m=OI:=gZ.none_of (by rw[<-l];exact r m);exact EH I.kIn O (c.get m) k.at_ k.fn f h
theorem wS(I:b_ X R L H s)(e:H a=My (.ins C dx N))(c:tx X.K C)(n:dS X.K C f)(B:N.length<1000)(l:aJ y u)
  (h:∀v,b_ X R L (upd H a (.ins C dx (dB f y N))) v->Q () v):O8 (Px X.prog X.w) A (setAttr (.ref a) f u) Q E s:=by
 obtain⟨i,O,r,j,_,k⟩:=il I.hok e;have m:(N.map (·.1)).length<=Pk:=by rw[OH,Q6];lia
 refine Jx I.kIn O c.sa c.po n.taker c.hd j m λh' d D=>h _ ?_;have G:∃o,h'.get? dx=My o:=let ⟨o,_,_,e',_⟩:=d.ns;⟨o,e'⟩
 refine I.write (x:=a) (e:=dx) (by rw[e];exact S4) (.inr k) (λb q p z=>(D.2 b p).trans z) G ?_;refine⟨by rw[bb O.ne];exact k,?_,O.ne,d.obj,_,d.ns,λg=>?_,λg t=>?_⟩
 .have:=mP f y N;exact Pj ‹_› ‹_›
 .show gZ ((dB f y N).lookup g) (if g=f then My u else i g)
  rw[mM];by_cases q:g=f
  .rw[OZ q,OZ q];exact l
  .rw[OY q,OY q];exact r g
 .by_cases q:g=f
  .rw[q];exact(k9 f y N).1
  .refine(k9 f y N).2 g (j g λz=>t ?_)
   show(if g=f then My u else i g)=OI;rw[OY q];exact z
theorem b_.made(I:b_ X R L H s):b_ X R L (upd (upd H s.heap.objs.size (.own (s.heap.objs.size+1))) (s.heap.objs.size+1) (.ins C s.heap.objs.size []))
  {s with heap:=(s.heap.push UI).push (Wm C s.heap.objs.size)}:=by
 have c:(s.heap.push UI).get? s.heap.objs.size=My UI:=O7 s.heap rfl;have d:((s.heap.push UI).push (Wm C s.heap.objs.size)).get? (s.heap.objs.size+1)=My (Wm C s.heap.objs.size):=by
  have:=O7 (s.heap.push UI) (o:=Wm C s.heap.objs.size) rfl;rwa[Q1]at this
 have g:(s.heap.push UI).Ns s.heap.objs.size (λ_=>OI):=⟨UI,#[],_,c,rfl,(λe i=>Pp i (by simp)),λ_=>rfl⟩;have j:=I.laid (a:=s.heap.objs.size) (o:= .own (s.heap.objs.size+1)) (h':=s.heap.push UI) (t':=s.toks) (λb u q=>OK _ q) (OW _) ⟨_,c⟩;refine j.laid (a:=s.heap.objs.size+1) (o:= .ins C s.heap.objs.size []) (t':=s.toks) (λb u q=>OK _ q) (XW (Q1 _ _)) ?_;have f:s.heap.objs.size≠s.heap.objs.size+1:=Qc (Um _);refine⟨by rw[bb f,ao],Ql _,f,d,λ_=>OI,(Heap.Ns1.of_empty g).at λo q=>OK _ q,λ_=>S4,λy h=>Pp rfl h⟩
theorem Ks{w:P0}{f:PZ}{s:OV}(c:TR e f d (Qu e d)=Qu e d)
  (h:O8 (Px prog w) A (Qu e d) (λo b=>O8 (Px prog w) A (getAttr o f OL) Q E b) E s):O8 (Px prog w) A (Qu (.Attribute e f g) d) Q E s:=
 Attribute_any_ h (by rw[arm_eval_Attribute,c])
def tFld(K:Pl)(c:TE)(f:PZ):TE:=λL H Q=>c L H λx b=>∃a C dx N v,x= .ref a/\b a=My (.ins C dx N)/\tx K C/\dS K C f/\N.lookup f=My v/\Q v b
def K5(K:Pl)(c d:TE)(f:PZ):TS:=λD L H=>d L H λy e=>c L e λx b=>∃a C dx N,x= .ref a/\b a=My (.ins C dx N)/\tx K C/\dS K C f/\N.length<1000/\
 D.nx L (upd b a (.ins C dx (dB f y N)))
variable{o e v:Expr}{O T d:Ub}{z U:TE}
theorem Lq(b:PE X e z)(d:TR e f X.env (Qu e X.env)=Qu e X.env):PE X (.Attribute e f O) (tFld X.K z f):=by
 intro R s L H Q I h;refine Ks d (d5 (b R s L H _ I h) λu r ⟨x,g,i,j,a,C,dx,N,v,o,k,c,n,l,q⟩=>?_);subst o;obtain rfl:u=Pa a:=j;exact xK i k c n l λt y m p=>⟨v,g,m,p,q⟩
theorem oM(e:PE X o z)(b:PE X v U)(w:UJ v (My (.Attribute o f T)) O.line X.env=Ry OQ):PS X (.Assign [.Attribute o f T] v O) (K5 X.K z U f):=by
 intro R s L H D I h;refine plainObj_wpAny_Assign_Attribute (d5 (b R s L H _ I h) λu d ⟨y,g,i,j,q⟩=>d5 (e R d L g _ i q) λk B ⟨x,F,m,p,a,C,dx,N,A,r,c,n,l,E⟩=>?_) w;subst A;obtain rfl:k=Pa a:=p;exact wS m r c n l j λJ t=>⟨L,_,t,E⟩
variable{Q:a0d}{c:OP}{b:Bool}
inductive my (K:Pl) (H:Hp):V->OP->Prop where
 |non:my K H .non (.type "NoneType")
 |bl (x:Bool):my K H (.bl x) (.type "bool")
 |int (i:Int):my K H (.int i) (.type "int")
 |str (x:PZ):my K H (.str x) (.type "str")
 |lst {a:OM} {xs:a0k} (e:H a=My (.lst xs)):my K H (.ref a) (.type "list")
 |frz {a:OM} {o:PF} {xs:a0k} (e:H a=My (.frz o (.lst xs))):my K H (.ref a) (.type "list")
 |tup {a:OM} {xs:a0k} (e:H a=My (.tup xs)):my K H (.ref a) (.type "tuple")
 |ins {a C dx:OM} {N:a0E} (e:H a=My (.ins C dx N)) (cl:tx K C) (ha:T9 K (.ref C) "__class__"=My (My (.builtin "object.__class__")))
  (hn:specialIn K (.builtin "object.__class__") "__get__"=My (My (.builtin "getset_descriptor.__get__"))) (htk:Y1 K (.builtin "object.__class__")=My OL)
  (hm:PySem.W.mroIn K C (.type "object")=My OL):my K H (.ref a) (.ref C)
theorem z7(I:b_ X R L H s)(d:aJ x u)(f:my X.K H x t)(e:kitOne X.K t c=My b)(h:∀j,Q (.bool b) {s with toks:=j}):
  O8 (Px X.prog X.w) A (Wq (.builtin "isinstance") [u,c]) Q E s:=by
 cases f with
 |non=>cases(show u=P4 from d);exact VD Yt I.kIn S4 e (λz=>nomatch z) h
 |bl y=>cases(show u=V6 y from d);exact VD Ys I.kIn S4 e (λz=>nomatch z) h
 |int i=>obtain⟨t,q⟩:=(show ∃t,u=S6 i t from d);cases q;exact VD YK I.kIn S4 e (λz=>nomatch z) h
 |str y=>obtain⟨t,q⟩:=(show ∃t,u=Zn y t from d);cases q;exact VD YM I.kIn S4 e (λz=>nomatch z) h
 |@lst a xs ea=>
  cases(show u=Pa a from d);obtain⟨_,_,n,_,g⟩:=(show bJ X.prog X.w H s.heap a (.lst xs)from I.hok a _ ea);exact VD Wn I.kIn ⟨_,g,rfl⟩ e (λz=>nomatch z) h
 |@frz a ob xs ea=>
  cases(show u=Pa a from d);obtain⟨_,_,_,n,_,g⟩:=(show bJ X.prog X.w H s.heap a (.frz ob (.lst xs))from I.hok a _ ea);exact VD Wn I.kIn ⟨_,g,rfl⟩ e (λz=>nomatch z) h
 |@tup a xs ea=>
  cases(show u=Pa a from d);obtain⟨_,_,_,p⟩:=(show bJ X.prog X.w H s.heap a (.tup xs)from I.hok a _ ea);obtain⟨o,g,k,_⟩:=p;exact VD X9 I.kIn ⟨o,g,k⟩ e (λz=>nomatch z) h
 |@ins a C dx N ea cl ha hn htk hm=>
  cases(show u=Pa a from d);obtain⟨l,O,_⟩:=il I.hok ea;obtain⟨m,J,_⟩:=O.look;exact VD (YL (cl.get _) cl.hd ha hn htk hm) I.kIn J e (λz=>nomatch z) h
structure dt (k:Nat) (A:P7):Prop where
 hd:A.handled=OI
 dp:A.depth+3*k+5<recursionLimit
 un:A.units+16*k+200<US
 gd:A.guards=My []
theorem dt.mono{A:P7}(r:dt k A)(h:j<=k):dt j A:=⟨r.hd,by have:=r.dp;lia,by have:=r.un;lia,r.gd⟩
theorem dt.deeper{A:P7}(r:dt (k+1) A)(a:WL):dt k (A.deeper a):=
 ⟨r.hd,by have:=r.dp;show A.depth+1+3*k+5<_;lia,by have:=r.un;show A.units+3+16*k+200<_;lia,r.gd⟩
theorem dt.in1{A:P7}(r:dt (k+1) A):dt k A.in1:=
 ⟨r.hd,by have:=r.dp;show A.depth+3*k+5<_;lia,by have:=r.un;show A.units+1+16*k+200<_;lia,r.gd⟩
theorem xt{A:P7}{C:OM}:(A.under (.builtin "type.__call__" ⟨.ref C::g,kw⟩)).depth=A.depth+1:=by
 first|rfl|simp[V9,Code.weight,Code.isCreation,Code.isGuard,Code.isCaller,Code.frames,XG,guardIds]
theorem xq{A:P7}{C:OM}:(A.under (.builtin "type.__call__" ⟨.ref C::g,kw⟩)).units=A.units+1:=by
 first|rfl|simp[V9,Code.cUnits,Code.frames,XG]
theorem dt.make{A:P7}(r:dt (k+1) A)(C:OM)(a:a0g)(d:List (PZ×OP)):dt k (A.under (.builtin "type.__call__" ⟨.ref C::a,d⟩)):=
 ⟨r.hd,by have:=r.dp;rw[xt];lia,by have:=r.un;rw[xq];lia,by first|exact r.gd|simp[V9,Code.guards,Code.isGuard,guardIds,pushGuards,r.gd]⟩
theorem dt.depth{A:P7}(r:dt k A):A.depth<recursionLimit:=by have:=r.dp;lia
theorem dt.units{A:P7}(r:dt k A):A.units+64<US:=by have:=r.un;lia
noncomputable def BX:TA:=λ_ H Q=>Q [] H
def HU(z:TE)(a:TA):TA:=λL H Q=>z L H λx d=>a L d λb g=>Q (x::b) g
variable{es:List Expr}{c:TE}{t:TA}
theorem gF:PA X [] BX:=λ_ _ _ _ H Q I h=>YU ⟨[],H,I,.nil,h⟩
theorem dX(a:PE X e c)(d:PA X es t)(b:Pe (e::es) X.env=(OQ,Qu e X.env)::Pe es X.env:=by rfl):PA X (e::es) (HU c t):=by
 intro O R s L H Q I h;rw[b];show O8 _ _ (spliced ((OQ,Qu e X.env)::SL O (Pe es X.env))) _ _ s;refine Yy (d5 (a R s L H _ I h) λu g ⟨x,i,j,f,o⟩=>?_);exact d5 (d O R g L i _ j o) λz n ⟨v,k,l,m,w⟩=>⟨x::v,k,l,.cons f m,w⟩
def tTup(t:TA):TE:=λL H Q=>t L H λa d=>a.length<=Pk/\∀p,d p=OI->Q (.ref p) (upd d p (.tup a))
def KI(t:TA):TE:=λL H Q=>t L H λa d=>a.length<=Pk/\∀p,d p=OI->Q (.ref p) (upd d p (.lst a))
theorem Lm{m}(h:PA X es t):PE X (.Tuple es m O) (tTup t):=by
 intro R s L H Q I j;refine wpAny_Tuple_spliced (d5 (h O R s L H _ I j) λa d ⟨c,g,i,r,z,q⟩=>⟨by rw[<-r.length];exact z,?_⟩);have k:g d.heap.objs.size=OI:=i.hok.fresh (OW _);refine⟨.ref d.heap.objs.size,upd g d.heap.objs.size (.tup c),i.laid (t':=d.toks) (λb u e=>OK _ e) (OW _) ?_,rfl,q _ k⟩;exact⟨z,a,r,⟨_,O7 _ rfl,rfl,_,rfl⟩⟩
theorem fW(h:PA X es t):PE X (.List es O) (KI t):=by
 intro R s L H Q I j;refine wpAny_List_spliced (d5 (h O R s L H _ I j) λa d ⟨c,g,i,r,z,q⟩=>⟨by rw[<-r.length];exact z,?_⟩);have k:g d.heap.objs.size=OI:=i.hok.fresh (OW _);refine⟨.ref d.heap.objs.size,upd g d.heap.objs.size (.lst c),i.laid (t':=d.toks) (λb u e=>OK _ e) (OW _) ?_,rfl,q _ k⟩;exact⟨z,a,0,r,O7 _ rfl⟩
abbrev Sp:=a0k->Hp->VK->XK->Prop
abbrev xl:=a0B->Hp->OV->XK->OP->OV->Prop
structure m_ (P:PM) (w:P0) (K:Pl) (mg:a0j) (base:Qt) (A:P7) (outer:a0B) (s:OV) (H:Hp):Prop where
 frames:A.frames=My outer
 mod:Mod K mg base
 bs:∀b o,base.get? b=My o->s.heap.get? b=My o/\H b=OI
 bsz:base.objs.size<=s.heap.objs.size
 funs:s.heap.FunFrames base outer
 frf:∀b∈f0 outer,H b=OI
 hok:js P w H s.heap
 bare:Vd s.gens
def CE(a:a0B)(P:PM)(w:P0)(H:Hp)(s:OV)(Q:VK)(u:OP)(b:OV):Prop:=
 ∃v l,b.os=s.os/\Vd b.gens/\Un (f0 a) [] H l s.heap b.heap/\js P w l b.heap/\aJ v u/\Q v l
def CR(c:xl)(a:a0B)(P:PM)(w:P0)(H:Hp)(s:OV)(Q:VK)(E:XK)(r:Result)(b:OV):Prop:=
 match r with
 | .ok (.ret u)=>CE a P w H s Q u b
 | .ok _=>False
 | .error e=>c a H s E e b
structure ee (P:PM) (w:P0) (K:Pl) (mg:a0j) (base:Qt) (CX:xl) (k:Nat) (f:OM) (fd:Py) (ps:a0i) (sp:Sp):Prop where
 len:∀vs H Q E,sp vs H Q E->vs.length=ps.length
 run:∀(A:P7) (outer:a0B) (s:OV) (H:Hp) (args:Args) (us:a0g) (vs:a0k) (Q:VK) (E:XK),dt k A->m_ P w K mg base A outer s H->Wl s fd args (ps.zip us)->aw vs us->sp vs H Q E->
  T3 (Px P w) A (.call (.ref f) args) (CR CX outer P w H s Q E) s
theorem ee.mono{P:PM}{w:P0}{K:Pl}{f:OM}(F:ee P w K g base CX j f i ps m)(h:j<=k):
  ee P w K g base CX k f i ps m:=⟨F.len,λA a s H b c e Q E d=>F.run A a s H b c e Q E (d.mono h)⟩
theorem m_.make{P:PM}{w:P0}{K:Pl}{A:P7}{s:OV}{H:Hp}(e:m_ P w K j i A g s H)(C:OM)(a:a0g)(d:List (PZ×OP)):
  m_ P w K j i (A.under (.builtin "type.__call__" ⟨.ref C::a,d⟩)) g s H:=⟨by first|exact e.frames|(simpa[V9,Code.envs,XG,pushEnvs]using e.frames),e.mod,e.bs,e.bsz,e.funs,e.frf,e.hok,e.bare⟩
theorem m_.in1{P:PM}{w:P0}{K:Pl}{A:P7}{s:OV}{H:Hp}(e:m_ P w K j i A g s H):
  m_ P w K j i A.in1 g s H:=⟨e.frames,e.mod,e.bs,e.bsz,e.funs,e.frf,e.hok,e.bare⟩
variable{a:OV}
theorem b_.env0(I:b_ X R L H s):m_ X.prog X.w X.K X.mg X.base X.A X.stack s H:=
 ⟨I.ok.frames,I.ok.mod,I.bs,Pj I.ok.bsz I.sz,I.stack,I.stkFree,I.hok,I.bare⟩
theorem b_.after{Q:VK}(I:b_ X R L H s)(h:CE X.stack X.prog X.w H s Q u a):EP X R L Q u a:=by
 obtain⟨v,l,f,c,n,e,r,q⟩:=h;obtain⟨j,g,d,t,i⟩:=a;obtain rfl:i=s.os:=f;exact⟨v,l,I.call (h':=j) (g':=g) (d':=d) (t':=t) (ch:=[]) n e c (λb z=>Pp z (by simp)),r,q⟩
def NO(a:Sp)(d:a0k)(E:a0s)(t:TA):TE:=λL H Q=>t L H λb g=>a (b++d) g Q (E L)
def HS(C:OM)(m:PZ)(b:Sp)(d:a0k)(E:a0s)(z:TE)(t:TA):TE:=λL H Q=>z L H λx g=>∃a dx N,x= .ref a/\g a=My (.ins C dx N)/\N.lookup m=OI/\
 t L g λc i=>b (x::(c++d)) i Q (E L)
def aC(K:Pl)(d:Py)(b:a0i)(c:a0g):Prop:=
 ∀(s:OV) (a:a0g),K.In s.heap->(a++c).length=b.length->Wl s d ⟨a,[]⟩ (b.zip (a++c))
theorem aC.all{K:Pl}{a:a0i}(h:∀us:a0g,us.length=a.length->bindArgs g ⟨us,[]⟩=Ry (a.zip us)):aC K g a []:=λs us _ d=>by
 rw[PN]at d⊢;exact .of_eq (h us d)
def cM(b:xl)(X:Cx)(E:a0s):Prop:=∀(R:a0c) (L:St) (H:Hp) (s:OV) (e:OP) (a:OV),b_ X R L H s->b X.stack H s (E L) e a->X.xe e a
end
section
variable{X:Cx}{CX:xl}{k:Nat}{f C:OM}{Y:Py}{ps:a0i}{sp:Sp}{O:a0k}{U:a0g}{E:a0s}{x m:PZ}{p z R:Ub}{e o:Expr}{B:List Expr}{Z:TE}{t:TA}
theorem yU(F:ee X.prog X.w X.K X.mg X.base CX k f Y ps sp)(c:dt k X.A)(d:aC X.K Y ps U)(m:aw O U)(o:cM CX X E)
  (I:b_ X j i H s) (r:aw vs us) (h:sp (vs++O) H Q (E i)):O8 (Px X.prog X.w) X.A (Wq (.ref f) us) (EP X j i Q) X.xe s:=by
 have b:aw (vs++O) (us++U):=r.append m;have g:(us++U).length=ps.length:=by rw[<-b.length];exact F.len _ _ _ _ h
 refine Yh (Uq (F.run X.A X.stack s H ⟨us,[]⟩ (us++U) (vs++O) Q (E i) c I.env0 (d s us I.kIn g) b h) λr p a=>?_);cases r with
 |error e=>exact o j i H s e p I a
 |ok fl=>
  cases fl with
  |ret u=>exact I.after a
  |next=>exact Rp a
  |brk=>exact Rp a
  |cont=>exact Rp a
theorem jB(F:ee X.prog X.w X.K X.mg X.base CX k f Y ps sp)(g:dt k X.A)(i:Gl X x)(m:X.mg x=My (.ref f))(j:U8 X.K (.ref f)=OL)(l:aC X.K Y ps U)(o:aw O U)(C:cM CX X E)
  (D:PA X (e::B) t) (b:(x==("__debug__":PZ))=OQ:=by decide) (n:Pe (e::B) X.env=(OQ,Qu e X.env)::Pe B X.env:=by rfl) (c:(SL z (Pe B X.env)).any (·.1)=OQ:=by rfl):
  PE X (.Call (.Name x p) (e::B) [] z) (NO sp O E t):=by
 intro a s u H Q I h;refine Vs (pZ I i m ?_ b);refine PySem.W.callWith_K (h₀:=X.base) I.ok.mod.kin j (d5 (D z a s u H _ I h) λG v ⟨M,y,d,r,q⟩=>⟨d.kIn,?_⟩) n c;exact yU F g l o C d r q
theorem CQ(g:PE X o Z)(c:tx X.K C)(e:r_ X.K C m f)(F:ee X.prog X.w X.K X.mg X.base CX k f Y ps sp)(i:dt k X.A)(j:aC X.K Y ps U)(p:aw O U)(t:cM CX X E)
  (n:Qu (.Call (.Attribute o m R) [] [] z) X.env=(do
   let N <-Qu o X.env
   Us R.atName
   let (f,first) <-Vk [N] (Za N m pl)
   callWith z f first (SL z (Pe [] X.env)) (Uo z (Sv [] X.env))):=by rfl):
  PE X (.Call (.Attribute o m R) [] [] z) (HS C m sp O E Z BX):=by
 intro b s r H Q I h;refine PySem.W.methodCall_KW (pl:=pl) (d5 (g b s r H _ I h) λu B ⟨x,J,d,v,a,L,G,D,y,l,q⟩=>?_) n;subst D;obtain rfl:u=Pa a:=v;refine xJ d y c e l ?_;exact PySem.W.callWith_K0 (first:=[.ref a]) d.kIn e.kp (yU (us:=[.ref a]) (vs:=[.ref a]) F i j p t d (.cons rfl .nil) q)
structure Mk (K:Pl) (C f:OM):Prop where
 makes:Y0 K C=OL
 init:T9 K (.ref C) "__init__"=My (My (.ref f))
 fn:isFn K (.ref f)=OL
 kp:U8 K (.ref C)=OL
def PK(X:Cx)(b:List XI)(t:TA):Prop:=
 ∀(z:Ub) (a:a0c) (s:OV) (c:St) (H:Hp) (Q:a0k->Hp->Prop),b_ X a c H s->t c H Q->O8 (Px X.prog X.w) X.A (evalAll ((Uo z (Sv b X.env)).map (·.2))) (AP X a c Q) X.xe s
variable{a:a0i}{k:Ub}{f:List XI}{m:TE}{o:TA}{A:Option PZ}
theorem Lj:PK X [] BX:=λ_ _ _ _ H Q I h=>wpAny_evalAll_nil ⟨[],H,I,.nil,h⟩
theorem JL(o:PE X e m)(c:PK X f t):PK X (⟨A,e,k⟩::f) (HU m t):=by
 intro z a s b H Q I h;show O8 _ _ (evalAll ((do let v <-Qu e X.env;Us z;Ry v)::(Uo z (Sv f X.env)).map (·.2))) _ _ s
 refine wpAny_evalAll_cons (OG (d5 (o a s b H _ I h) λu d ⟨x,g,i,p,B⟩=>OG (RN (OJ ?_))));exact d5 (c z a d b g _ i B) λE q ⟨C,j,l,n,D⟩=>⟨x::C,j,l,.cons p n,D⟩
structure w_ (K:Pl) (Y:Py) (ps a:a0i) (g:a0g->a0g->a0g) (gV:a0k->a0k->a0k):Prop where
 to:∀(s:OV) (us ws:a0g),K.In s.heap->(g us ws).length=ps.length->Wl s Y ⟨us,a.zip ws⟩ (ps.zip (g us ws))
 rel:∀{vs:a0k} {us:a0g} {zs:a0k} {ws:a0g},aw vs us->aw zs ws->aw (gV vs zs) (g us ws)
variable{g:a0g->a0g->a0g}{a:a0k->a0k->a0k}
structure br (N P:a0i) (sc:Scope):Prop where
 kind:sc.kind= .function
 co:sc.isCoroutine=OQ
 gen:sc.isGenerator=OQ
 nd:N.Nodup
 pre:N.take P.length=P
 par:∀x∈P,sc.names.lookup x=My .local\/sc.names.lookup x=My .cell
 nofree:∀y∈sc.names,y.2≠ .free
theorem q8{b:PZ->Option Tk}{x:PZ}:∀{a:List (PZ×OP)} {m:a0j},(∀v,(x,v)∉a)->Y7 b a m x=m x
 |[],_,_=>rfl
 |(n,v)::r,m,h=>by
  unfold Y7;rw[q8 λw c=>h w (OO _ c)];split
  .have:x≠n:=by rintro rfl;exact h v OU
   simp[this]
  .rfl
theorem rb{b:PZ->Option Tk}{x:PZ}:∀{a:List (PZ×OP)} {m:a0j},(∀v,(x,v)∉a)->Y6 b a m x=m x
 |[],_,_=>rfl
 |(n,v)::r,m,h=>by
  unfold Y6;rw[rb λw c=>h w (OO _ c)];split
  .rfl
  .have:x≠n:=by rintro rfl;exact h v OU
   simp[this]
theorem q9{a:PZ->Option Tk}{x:PZ}{v:OP}:∀{P:a0i} {e:a0g} {i:Nat} {m:a0j},P.Nodup->P[i]?=My x->e[i]?=My v->a x=My .local->
  Y7 a (P.zip e) m x=My v
 |[],_,_,_,_,h,_,_=>by simp at h
 |_::_,[],_,_,_,_,h,_=>by simp at h
 |p::P,w::e,0,m,nd,h1,h2,hk=>by
  simp at h1 h2;subst h1;subst h2;show Y7 a ((p,w)::P.zip e) m p=_;unfold Y7;rw[q8 λv b=>(Qn.mp nd).1 (WQ b).1,OZ hk];simp
 |p::P,w::e,i+1,m,nd,h1,h2,hk=>by
  show Y7 a ((p,w)::P.zip e) m x=_;unfold Y7;exact q9 (i:=i) (Qn.mp nd).2 (by simpa using h1) (by simpa using h2) hk
theorem rc{a:PZ->Option Tk}{x:PZ}{v:OP}:∀{P:a0i} {e:a0g} {i:Nat} {m:a0j},P.Nodup->P[i]?=My x->e[i]?=My v->a x≠My .local->
  Y6 a (P.zip e) m x=My v
 |[],_,_,_,_,h,_,_=>by simp at h
 |_::_,[],_,_,_,_,h,_=>by simp at h
 |p::P,w::e,0,m,nd,h1,h2,hk=>by
  simp at h1 h2;subst h1;subst h2;show Y6 a ((p,w)::P.zip e) m p=_;unfold Y6;rw[rb λv b=>(Qn.mp nd).1 (WQ b).1,OY hk];simp
 |p::P,w::e,i+1,m,nd,h1,h2,hk=>by
  show Y6 a ((p,w)::P.zip e) m x=_;unfold Y6;exact rc (i:=i) (Qn.mp nd).2 (by simpa using h1) (by simpa using h2) hk
noncomputable def fq(N:a0i)(a:a0k):St:=a.map My++Pr (N.length-a.length) OI
noncomputable def eW(CX:xl)(P:PM)(w:P0)(K:Pl)(mg:a0j)(base:Qt)(N:a0i)(a:PZ)(g:Scope)(f:OM)(k:OP)(A:P7)(outer:a0B)(s:OV)(H:Hp)(E:XK):Cx where
 prog:=P
 w:=w
 K:=K
 mg:=mg
 base:=base
 A:=A.deeper (T8 a g s.heap.objs.size f k)
 N:=N
 s₀:=s
 H₀:=H
 env:=T8 a g s.heap.objs.size f k
 outer:=outer
 stack:=T8 a g s.heap.objs.size f k::outer
 ex:=[]
 calm:=OL
 fn:=λ_=>OL
 pn:=[]
 xe:=λe m=>O8 (Px P w) (A.deeper (T8 a g s.heap.objs.size f k)) (leaving (T8 a g s.heap.objs.size f k) e) (λ_ b=>CX outer H s E e b) (λc b=>CX outer H s E c b) m
theorem uU{a:Scope}{x:PZ}(h:a.names.lookup x=My .cell):∃c,(Rc n a.names []).lookup x=My c:=by
 have q:=X4 a.names n [] (.inl h);exact Xc.mp q
theorem AB{CX:xl}{K:Pl}{N ps:a0i}{g:Scope}{f:OM}{A:P7}{s L:OV}{E:XK}{m:a0k}
  (S:br N ps g) (t:A.handled=OI) (j:m_ P w K mg base A outer s H) (U:m.length=ps.length) (r:aw m us)
  (x:InCallC s s.heap.objs.size (Y7 (T8 qual g s.heap.objs.size f cd).kindOf (ps.zip us) λ_=>OI) (Rc (s.heap.objs.size+1) g.names []) (Y6 (T8 qual g s.heap.objs.size f cd).kindOf (ps.zip us) λ_=>OI) L):
  b_ (eW CX P w K mg base N qual g f cd A outer s H E) [] (fq N m) H L:=by
 have R:ps.length<=N.length:=by have:=Qb TK S.pre;rw[PR]at this;lia
 obtain⟨I,o,rfl,O⟩:=x.done;have l:∀b:OM,b∉(eW CX P w K mg base N qual g f cd A outer s H E).ex:=λb z=>Pp (show b∈([]:a0q)from z) (by simp);refine⟨⟨j.mod,S.kind,rfl,rfl,OW _,λy z c I d=>?_,λy hy=>?_,λy c _ h=>?_,λ_=>t,Around.frames_deeper j.frames,.inr ⟨rfl,rfl⟩,λb z=>Pp z (l b),j.bs,j.bsz,λb _ _=>l b,λb z=>Pp z (l b),j.funs,j.frf⟩,
  rfl,j.bare,Un.kept O,⟨_,x.toInCall.ns,λi y v I d W=>?_⟩,λy c h=>⟨_,x.cell y c h⟩,j.hok.fresh (OW _),λy c h=>?_,λp B=>Pp (show p∈([]:a0c)from B) (by simp),j.hok.kept O,?_⟩
 .exact name_of_addr x.apart (QN I) (QN d)
 .have hy:g.names.lookup y=My .cell\/g.names.lookup y=My .free:=hy
  rcases hy with hy|hy
  .exact uU hy
  .exact Pp rfl (S.nofree _ (QN hy))
 .exact Qo (x.above y c (QN h))
 .have J:i<m.length:=by
   unfold fq at d;by_cases J:i<m.length
   .exact J
   .rw[Qw (by simpa using J)]at d
    rw[Sx]at d;split at d<;>cases d
  have C:m[i]?=My v:=by
   unfold fq at d;rw[Rw (by simpa using J),OS]at d;cases e:m[i]? with
   |none=>rw[e]at d;cases d
   |some a=>rw[e]at d;cases d;rfl
  obtain⟨u,Q,T⟩:=r.get C;have B:ps[i]?=My y:=by
   rw[<-S.pre,Xs (by lia)];exact I
  have F:ps.Nodup:=by rw[<-S.pre];exact S.nd.sublist (List.take_sublist _ _)
  refine⟨u,T,?_⟩;rcases S.par y (Pd B)with k|k
  .exact .inl ⟨k,q9 F B Q k⟩
  .obtain⟨c,e⟩:=uU (n:=s.heap.objs.size+1) k
   refine .inr ⟨.inl k,c,e,?_⟩;have q:=x.cell y c e;rw[rc F B Q (by show g.names.lookup y≠_;rw[k];decide)]at q;exact q
 .exact j.hok.fresh (Qo (x.above y c (QN h)))
 .unfold fq
  show _=N.length;rw[O1,OH,Rz];lia
theorem IX{CX:xl}{K:Pl}{k:Nat}{f:OM}
  {N ps:a0i} {sp:Sp} (U:K.lookup f=My ⟨oc,od,.func (TM name qual params body scope dV kV doc pm an cdv ct),osl⟩) (B:UF K cdv qual=OL) (S:br N ps scope)
  (z:∀m H Q E,sp m H Q E->m.length=ps.length)
  (d:∀(A:P7) (g:a0B) (s:OV) (H:Hp) (m:a0k) (Q:VK) (E:XK),dt k (A.deeper (T8 qual scope s.heap.objs.size f cdv))->sp m H Q E->
   ∃t,PSs (eW CX P w K mg base N qual scope f cdv A g s H E) body t/\t {nx:=λ_ c=>Q .non c,rt:=Q} (fq N m) H):
  ee P w K mg base CX (k+1) f (TM name qual params body scope dV kV doc pm an cdv ct) ps sp:=by
 refine⟨z,λA g s H D G m Q E F i Y r j=>?_⟩;have Z:=z _ _ _ _ j;have R:K.In s.heap:=i.mod.kin.keeps λb o e=>(i.bs b o e).1;have L:s.heap.NoLimit:=i.mod.nolimit.keeps λb o e=>(i.bs b o e).1;have h:∀y∈ps.zip G,scope.names.lookup y.1=My .local\/(scope.names.lookup y.1=My .cell/\((Rc (s.heap.objs.size+1) scope.names []).lookup y.1).isSome=OL):=λ⟨n,v⟩ M=>by
  rcases S.par n (WQ M).1 with q|q
  .exact .inl q
  .exact .inr ⟨q,X4 _ _ _ (.inl q)⟩
 refine codeAny_call_function F.depth (R _ _ U) rfl S.co S.gen rfl (PySem.W.codeRec_of R B) (Y _ _ _ _ ?_);refine wpAny_newFunctionEnv_cells S.kind h λX he T x=>?_;subst he;refine⟨L.keeps x.toInCall.keep,codeAny_func ?_⟩;obtain⟨t,ht,hq⟩:=d A g s H m Q E (F.deeper _) j;have I:b_ (eW CX P w K mg base N qual scope f cdv A g s H E) [] (fq N m) H T:=AB S F.hd i Z r x;refine Qk (ht [] T (fq N m) H _ I hq) (λfl C p=>?_) λe C p=>p;have l:∀{a:St} {c:Hp} {v:V} {u:OP},b_ (eW CX P w K mg base N qual scope f cdv A g s H E) [] a c C->aJ v u->Q v c->CE g P w H s Q u C:=
  λ{a c v u} J O q=>⟨v,c,J.os,J.bare,J.base,J.hok,O,q⟩
 cases fl with
 |ret u=>
  obtain⟨v,a,c,J,O,q⟩:=p;exact l J O q
 |next=>
  obtain⟨a,c,J,q⟩:=p;exact l (v:=V.non) (u:=P4) J rfl q
 |brk=>
  obtain⟨_,_,_,q⟩:=p;exact Rp q
 |cont=>
  obtain⟨_,_,_,q⟩:=p;exact Rp q
variable{f T:String}{r:a0O}
def tCB(r:a0O)(t:TA):TE:=λa H Q=>t a H λe b=>r e b Q
theorem iE(i:cD X (.builtin f) r)(j:Gl X x)(g:X.mg x=OI)(l:Tx x=My (.builtin f))(k:PA X (e::B) t)(m:x≠"__name__":=by decide)(b:(x==("__debug__":PZ))=OQ:=by decide)
  (n:Pe (e::B) X.env=(OQ,Qu e X.env)::Pe B X.env:=by rfl) (c:(SL z (Pe B X.env)).any (·.1)=OQ:=by rfl):PE X (.Call (.Name x p) (e::B) [] z) (tCB r t):=by
 intro a s d H Q I h;refine Vs (fi I j g l ?_ m b);exact Rows.callWith_builtin1 (d5 (k z a s d H _ I h) λo q ⟨A,u,v,C,D⟩=>i a q d u A o Q v C D) n c
theorem zj(i:cD X (.type T) r)(j:Gl X x)(f:X.mg x=OI)(l:Tx x=My (.type T))(g:PA X (e::B) t)(k:x≠"__name__":=by decide)(b:(x==("__debug__":PZ))=OQ:=by decide)
  (n:Pe (e::B) X.env=(OQ,Qu e X.env)::Pe B X.env:=by rfl) (c:(SL z (Pe B X.env)).any (·.1)=OQ:=by rfl):PE X (.Call (.Name x p) (e::B) [] z) (tCB r t):=by
 intro a s d H Q I h;refine Vs (fi I j f l ?_ k b);exact QB (d5 (g z a s d H _ I h) λm q ⟨o,u,v,A,C⟩=>i a q d u o m Q v A C) n c
end
end L2
namespace HT
def lexLt:a0e->a0e->Bool
 |[],[]=>OQ
 |[],_::_=>OL
 |_::_,[]=>OQ
 |x::xs,y::ys=>if x=y then lexLt xs ys else decide (x<y)
theorem lexLt_cons(x y:Int)(D E:a0e):lexLt (x::D) (y::E)=if x=y then lexLt D E else decide (x<y):=rfl
theorem rp:lexLt [] []=OQ:=rfl
theorem pW(y:Int)(D:a0e):lexLt [] (y::D)=OL:=rfl
theorem pX(x:Int)(D:a0e):lexLt (x::D) []=OQ:=rfl
theorem EN(A:P7)(s:OV)(a:Int)(t:Tok)(c:Int)(u:Tok):∃e,QV A s (.int a t) (.int c u) e/\(e=OL↔a=c):=
 ⟨(a==c),Xv a t c u,by simp⟩
theorem CI(A:P7)(s:OV)(a:Int)(t:Tok)(c:Int)(u:Tok)(D:PM)(w:P0)(E:a0d)(Q:a0d)(h:Q (.bool (decide (a<c))) s):
  O8 (Px D w) A (richCompare .Lt (.int a t) (.int c u)) Q E s:=
 (Rows.lt_int h:O8 (Px D w) A (Qy .Lt (.int a t) (.int c u)) Q E s)
section
open PySem.SeqAt
open PySem.AutoSeq1 (wpAny_loadPart')
open PySem.MeetsSeq PySem.MeetsSeq2 PySem.MeetsSeq3
theorem rf(l b:OM)(i f:a0H)(n Z:Nat)(V P:a0Q)(z Q:Array (Option OP))(G J:a0e)(W:Uj i.toList G)(X:Uj f.toList J):
  Meets (Builtin.«tuple.__lt__» ⟨[.ref l,.ref b],[]⟩)
   (λ_ R s=>s.heap.get? l=My {cls:= .type "tuple",dict:=V,data:= .seq i n,slots:=z}/\s.heap.get? b=My {cls:= .type "tuple",dict:=P,data:= .seq f Z,slots:=Q}/\
    R (.ok (.ret (.bool (lexLt G J)))) s):=
 .of_wp λD w A R s h=>by
  obtain⟨L,g,d,N,K⟩:=s;obtain⟨hl,hb,h⟩:=h;have f2:=AutoSeq1.sub_tuple_tuple;have z1:i.size=G.length:=by rw[<-W.length];simp
  have z2:f.size=J.length:=by rw[<-X.length];simp
  wp_walk using wpAny_loadPart' hl,wpAny_loadPart' hb,UM _ (λE b S=>b.1=OI/\S=⟨L,g,d,N,K⟩/\∃(M O:a0g) (k m:a0e),E=M.zip O/\
   Uj M k/\Uj O m/\k.length+f.size=m.length+i.size/\R (.ok (.ret (.bool (lexLt k m)))) ⟨L,g,d,N,K⟩) _
  case turn=>
   rintro⟨y,x⟩ E b S ⟨B,rfl,M,O,k,m,o,C,p,j,r⟩;cases C with
   |nil=>rw[Vh]at o;cases o
   |cons a t H=>
    cases p with
    |nil=>rw[YX]at o;cases o
    |cons c u I=>
     rw[Rj]at o
     injection o with T F
     injection T with hy hx
     subst hy hx;rw[lexLt_cons]at r;simp only[Pb]at j;obtain⟨e,he,v⟩:=EN A.in1 ⟨L,g,d,N,K⟩ a t c u;refine OG (he D w _ _ ?_);cases e with
     |true=>
      rw[OZ (v.mp rfl)]at r
      wp_walk
      exact⟨rfl,rfl,_,_,_,_,F,H,I,by lia,r⟩
     |false=>
      rw[OY (λq=>Pp (v.mpr q) O4)]at r;have U:=CI A.in1 ⟨L,g,d,N,K⟩ a t c u D w
      wp_walk using U
      exact⟨_,rfl,by simpa using r⟩
  case fin=>
   rintro⟨b1,b2⟩ S ⟨B,rfl,M,O,k,m,o,C,p,j,r⟩;simp only at B;subst B;have Y:lexLt k m=decide (i.size<f.size):=by
    cases C with
    |nil=>
     cases p with
     |nil=>
      simp only[Sc]at j;rw[rp];exact(PY (by lia)).symm
     |cons c u hw=>
      simp only[Sc,Pb]at j;rw[pW];exact(Pf (by lia)).symm
    |cons a t Y=>
     cases p with
     |nil=>
      simp only[Sc,Pb]at j;rw[pX];exact(PY (by lia)).symm
     |cons c u hw=>
      rw[Rj]at o;cases o
   rw[Y]at r
   wp_walk
   exact⟨_,rfl,by simpa[Builtin.Tuple.tupleCompareSizes]using r⟩
  case h=>
   exact⟨rfl,rfl,i.toList,f.toList,G,J,rfl,W,X,by lia,h⟩
end
section
variable{z:PM}{w:P0}{A:P7}{E:a0d}{s:OV}
theorem lt_tupInts{c a:a0H}(p:IsTup s.heap l c)(q:IsTup s.heap b a)(r:Uj c.toList ns)(t:Uj a.toList ms)
  (u:A.units<US) (h:Q (.bool (lexLt ns ms)) s):O8 (Px z w) A (Qy .Lt (.ref l) (.ref b)) Q E s:=by
 obtain⟨⟨K,v,D,M⟩,k,m,n,G⟩:=id p;obtain⟨⟨o,g,i,j⟩,d,e,y,f⟩:=id q;simp only at m G e f;subst m G e f;exact richCompare_meets_room (op:= .Lt) ⟨_,k,rfl⟩ ⟨_,d,rfl⟩ PySem.F.slot_tuple_lt PySem.F.entry_tuple_lt (PySem.F.args_tuple_lt_2 _ _) (rf l b c a n y v g M j ns ms r t)
  ⟨k,d,show V6 (lexLt ns ms)≠Value.notImplemented/\Q (.bool (lexLt ns ms)) s from⟨(λx=>nomatch x),h⟩⟩ u
theorem cat_tup{D a:a0g}(u:IsTup s.heap t D.toArray)(v:IsTup s.heap b a.toArray)(m:D≠[])
  (y:a=[]->Q (.ref t) s) (B:a≠[]->Q (.ref s.heap.objs.size) {s with heap:=s.heap.push {cls:= .type "tuple",data:= .seq (D++a).toArray}})
  (k:D.length+a.length<=Pk):O8 (Px z w) A (Se .Add (.ref t) (.ref b)) Q E s:=by
 obtain⟨⟨cls,o,data,G⟩,i,p,n,K⟩:=id u;obtain⟨⟨q,d,l,f⟩,c,g,r,h⟩:=id v;simp only at p K g h;subst p K g h;have e:D.toArray++a.toArray=(D++a).toArray:=by simp
 by_cases j:a=[]
 .exact concat_meets ⟨_,i,rfl⟩ ⟨_,c,rfl⟩ Xo YQ Vr Vi (U5 _ _)
   (tuple_addW1 t b D.toArray a.toArray n r o d G f (by simpa using m) (by simp[j])) ⟨i,c,y j⟩
 .refine concat_meets ⟨_,i,rfl⟩ ⟨_,c,rfl⟩ Xo YQ Vr Vi (U5 _ _)
   (tuple_addW2 t b D.toArray a.toArray n r o d G f (by simpa using m) (by simpa using j) (by rw[Pg,Pg];exact k)) ⟨i,c,?_⟩
  rw[e];exact B j
noncomputable def sIx(n d:Nat):a0u->Nat
 |none=>d
 |some v=>if v<0 then(v+(n:Int)).toNat else SC v.toNat n
theorem sIx_none(n d:Nat):sIx n d OI=d:=rfl
theorem sIx_nat(n d k:Nat):sIx n d (My (k:Int))=SC k n:=by
 show(if(k:Int)<0 then((k:Int)+(n:Int)).toNat else SC (k:Int).toNat n)=SC k n;rw[OY (by lia),Qv]
end
end HT
namespace L2
abbrev TO:=St->Hp->(a0u->Hp->Prop)->Prop
def PO(X:Cx)(e:Option Expr)(t:TO):Prop:=
 ∀(a:a0c) (s:OV) (b:St) (H:Hp) (Q:a0u->Hp->Prop),b_ X a b H s->t b H Q->
  O8 (Px X.prog X.w) X.A (evalPart e X.env) (λu D=>∃o c,b_ X a b c D/\IsPart u o/\Q o c) X.xe s
noncomputable def Jq:TO:=λ_ H Q=>Q OI H
def NM(t:TE):TO:=λa H Q=>t a H λx b=>∃i,x= .int i/\Q (My i) b
theorem o7{D:a0e}:∀{E:a0g},aw (D.map V.int) E->Uj E D:=by
 induction D with
 |nil=>intro E r;rw[SI]at r;cases r;exact .nil
 |cons n D G=>
  intro E r;rw[Pc]at r;cases r with
  |cons K a=>
   obtain⟨t,e⟩:=K;subst e;exact .cons n t (G a)
section
variable{X:Cx}{e:Expr}{Z:TE}{U Y:Option Expr}{tl th:TO}{aa p2:Ub}
theorem vK:PO X OI Jq:=by
 intro a s b H Q I h;rw[YO];exact OJ ⟨OI,H,I,.none,h⟩
theorem vJ(h:PE X e Z):PO X (My e) (NM Z):=by
 intro a s b H Q I c;rw[evalPart_some];refine d5 (h a s b H _ I c) λu g ⟨x,d,f,D,E⟩=>?_;obtain⟨i,rfl,q⟩:=E;obtain⟨t,rfl⟩:=D;exact⟨My i,d,f,.int i t,q⟩
def SlR(X:Cx)(r:V->a0u->a0u->Hp->VK->Prop):Prop:=
 ∀(a:a0c) (s:OV) (b:St) (H:Hp) (x:V) (v c d:OP) (U Y:a0u) (e:OM) (Q:VK),b_ X a b H s->aJ x v->s.heap.IsSliceOf e c d .none->IsPart c U->IsPart d Y->r x U Y H Q->
  ∃T f,typeLookup (.type T) "__getitem__"=Ry (My (.builtin f))/\s.TypeIs v T/\O8 (Px X.prog X.w) X.A (getItem v (.ref e)) (EP X a b Q) X.xe s
def tSl(r:V->a0u->a0u->Hp->VK->Prop)(Z:TE)(tl th:TO):TE:=λa H Q=>Z a H λx b=>tl a b λl c=>th a c λu d=>r x l u d Q
theorem tL(j:SlR X r)(k:PE X e Z)(m:PO X U tl)(n:PO X Y th):PE X (.Subscript e (.Slice U Y OI p2) aa) (tSl r Z tl th):=by
 intro a s d H Q I h;refine Subscript_ (d5 (k a s d H _ I h) λv o ⟨x,p,t,D,E⟩=>?_);refine wpAny_Slice (d5 (m a o d p _ t E) λf y ⟨l,B,C,G,K⟩=>d5 (n a y d B _ C K) λg c ⟨u,i,F,M,S⟩=>?_);rw[YO];refine OJ ?_;have J:b_ X a d i {c with heap:=c.heap.push {cls:= .type "slice",data:= .fields #[f,g,.none]}}:=F.kept (t':=c.toks) λb P q=>OK _ q;obtain⟨T,R,L,N,O⟩:=j a {c with heap:=c.heap.push {cls:= .type "slice",data:= .fields #[f,g,.none]}} d i x v f g l u c.heap.objs.size Q J D (WN ..) G M S;show O8 (Px X.prog X.w) X.A (YR e (.Slice U Y OI p2) v (.ref c.heap.objs.size)) (EP X a d Q) X.xe {c with heap:=c.heap.push {cls:= .type "slice",data:= .fields #[f,g,.none]}};exact tail_any (ops:=[.ref c.heap.objs.size,v]) N L O (by with_unfolding_all rfl)
noncomputable def lD(e:a0k)(U Y:a0u):a0k:=(e.drop (HT.sIx e.length 0 U)).take (HT.sIx e.length e.length Y-HT.sIx e.length 0 U)
theorem u7(e:a0k)(U Y:a0u):(lD e U Y).length<=e.length:=by
 unfold lD;rw[PR,Sy];lia
def wY(K:Pl):R2:=λx y H Q=>∃a b D e,x= .ref a/\y= .ref b/\g_ K H a D/\g_ K H b e/\D≠[]/\D.length+e.length<=Pk/\
 (e=[]->Q (.ref a) H)/\(e≠[]->∀p,H p=OI->Q (.ref p) (upd H p (.tup (D++e))))
theorem aw.nil_iff(r:aw a b):b=[]↔a=[]:=by
 cases r with
 |nil=>simp
 |cons _ _=>simp
theorem JT:fw X (Se .Add) (wY X.K):=by
 intro d s m H x y v u Q I i j h;obtain⟨a,b,D,E,rfl,rfl,G,k,M,f,S,U⟩:=h;cases i;cases j;obtain⟨V,e,l,_⟩:=I.tuple G;obtain⟨g,c,p2,_⟩:=I.tuple k;refine HT.cat_tup l p2 (λz=>M (e.nil_iff.mp z)) (λz=>⟨.ref a,H,I,rfl,S (c.nil_iff.mp z)⟩) (λz=>?_) (by rw[<-e.length,<-c.length];exact f);refine⟨.ref s.heap.objs.size,_,I.laid (t':=s.toks) (o:= .tup (D++E)) (λb n q=>OK _ q) (OW _) ?_,rfl,U (λw=>z (c.nil_iff.mpr w)) _ (I.hok.fresh (OW _))⟩;exact⟨by rw[O1];exact f,_,e.append c,IsTup.new _ _⟩
noncomputable def o0(n:Nat)(i:Int):a0I:=if 0<=i then(if i<n then My i.toNat else OI)else if -(n:Int)<=i then My (i+n).toNat else OI
def nj{e:Type}(xs:List e)(i:Int):Option e:=(o0 xs.length i).bind λj=>xs[j]?
theorem vX(h:o0 n i=My j):seqIndex? i n=My j/\j<n/\-(n:Int)<=i/\i<n:=by
 unfold o0 at h;by_cases b:0<=i
 .rw[OZ b]at h
  by_cases a:i<n
  .rw[OZ a]at h
   have e:i.toNat=j:=PH h;exact⟨by rw[seqIndex_of b a,e],by lia,by lia,a⟩
  .rw[OY a]at h;cases h
 .rw[OY b]at h
  by_cases a:-(n:Int)<=i
  .rw[OZ a]at h
   have e:(i+n).toNat=j:=PH h;exact⟨by rw[Zs (by lia) a,e],by lia,a,by lia⟩
  .rw[OY a]at h;cases h
theorem wv{E:Type}{D:List E}{i:Int}{v:E}(h:nj D i=My v):∃j,seqIndex? i D.length=My j/\D[j]?=My v/\j<D.length/\-(D.length:Int)<=i/\i<D.length:=by
 unfold nj at h;cases e:o0 D.length i with
 |none=>rw[e]at h;cases h
 |some j=>
  rw[e]at h;obtain⟨a,b,c,d⟩:=vX e;exact⟨j,a,h,b,c,d⟩
theorem Kt{E:Type}{D:List E}{j:Nat}{v:E}(h:D[j]?=My v):nj D (j:Int)=My v:=by
 have a:j<D.length:=(OT.mp h).1;have e:o0 D.length (j:Int)=My j:=by
  unfold o0;rw[OZ (by lia),OZ (by lia)];simp
 unfold nj;rw[e];exact h
def qq(b:Expr):Prop:=∀o i,subscripted b OQ o i=operate [o,i] (getItem o i)
def A_(X:Cx)(r:R2):Prop:=
 ∀(c a:Expr) (b:a0c) (s:OV) (d:St) (H:Hp) (x y:V) (v u:OP) (Q:VK),b_ X b d H s->aJ x v->aJ y u->r x y H Q->
  subscripted a OQ v u=operate [v,u] (getItem v u)->O8 (Px X.prog X.w) X.A (YR c a v u) (EP X b d Q) X.xe s
def MtR(X:Cx)(c:String)(r:a0J):Prop:=
 ∀(a:a0c) (s:OV) (b:St) (H:Hp) (x:V) (e:a0k) (v:OP) (D:a0g) (Q:VK),b_ X a b H s->aJ x v->aw e D->r x e H Q->
  O8 (Px X.prog X.w) X.A (Wq (.builtin c) (v::D)) (EP X a b Q) X.xe s
variable{a b:Expr}{C B:TE}
theorem A_.or(h:A_ X r)(b:A_ X k):A_ X (λx y H Q=>r x y H Q\/k x y H Q):=by
 intro c d f s g H x y v u Q I i j q a;rcases q with q|q
 .exact h c d f s g H x y v u Q I i j q a
 .exact b c d f s g H x y v u Q I i j q a
theorem fX(d:A_ X r)(e:PE X a C)(f:PE X b B)(D:qq b):PE X (.Subscript a b aa) (N_ r C B):=by
 intro c s g H Q I h;exact Subscript_ (EX e f I h λv u i x y j k l m q=>d a b c i g j x y v u Q k l m q (D _ _))
def tE(K:Pl):R2:=λx y H Q=>∃p a i v,x= .ref p/\y= .int i/\en K H p a/\nj a i=My v/\Q v H
def CJ(K:Pl):R2:=λx y H Q=>∃p a i v,x= .ref p/\y= .int i/\g_ K H p a/\nj a i=My v/\Q v H
theorem dG:A_ X (tE X.K):=by
 intro g k c s n H x y v u Q I B C h e;obtain⟨p,E,i,z,rfl,rfl,F,J,q⟩:=h;cases B;obtain⟨t,rfl⟩:=C;obtain⟨a,r,b,R⟩:=I.list F;obtain⟨j,f,L,T,N,O⟩:=wv J;obtain⟨w,o,l⟩:=r.get L;have P:=r.length;have G:=jD;have d:EP X c n Q w s:=⟨z,H,I,l,q⟩;by_cases A:0<=i
 .have m:i.toNat=j:=by
   rw[seqIndex_of A O]at f;exact PH f
  exact item_listR b.isList A (by lia) (by rw[m];simpa using o) d e
 .have m:(i+(a.toArray.size:Int)).toNat=j:=by
   rw[Zs (by lia) N]at f;rw[Pg,<-P];exact PH f
  exact V0 (x:=w) b.isList.typeIs slot_list_getitem.lookup
   (wpAny_getItem_list_neg (Q:=λr D=>r=w/\EP X c n Q r D) b.isList (by lia) (by rw[Pg]<;>lia) (by lia) (by rw[m];simpa using o) ⟨rfl,d⟩) e
theorem LX:A_ X (CJ X.K):=by
 intro d f c s l H x y v u Q I m n h b;obtain⟨p,E,i,z,rfl,rfl,o,A,q⟩:=h;cases m;obtain⟨t,rfl⟩:=n;obtain⟨e,r,a,L⟩:=I.tuple o;obtain⟨j,B,C,N,O,P⟩:=wv A;obtain⟨w,F,g⟩:=r.get C;have J:=r.length;have G:=jD;have k:EP X c l Q w s:=⟨z,H,I,g,q⟩;exact V0 (x:=w) a.typeIs slot_tuple_getitem.lookup
  (getItem_tuple (j:=j) (Q:=λr D=>r=w/\EP X c l Q r D) a (by lia) (by lia) (by rw[Pg,<-J];exact B) (by simpa using F) ⟨rfl,k⟩) b
theorem xp(a:a0g)(n j:Nat)(u:OP):Qx (·.setIfInBounds j u) {cls:= .type "list",data:= .seq a.toArray n}={cls:= .type "list",data:= .seq (a.set j u).toArray n}:=by
 simp[Qx]
theorem b_.lst{s:OV}{xs:a0k}(I:b_ X c d H s)(h:H p=My (.lst xs)):
  ∃(a:a0g) (n:Nat),aw xs a/\s.heap.get? p=My {cls:= .type "list",data:= .seq a.toArray n}/\xs.length<=Pk:=by
 obtain⟨z,a,n,r,e⟩:=I.hok p _ h;exact⟨a,n,r,e,z⟩
theorem b_.lstUpd{s:OV}{D C:a0k}{B a:a0g}(I:b_ X j k H s)(h:H p=My (.lst D))
  (d:s.heap.get? p=My {cls:= .type "list",data:= .seq B.toArray n}) (c:f {cls:= .type "list",data:= .seq B.toArray n}={cls:= .type "list",data:= .seq a.toArray n'}) (r:aw C a) (g:C.length<=Pk) (t:Nat):
  b_ X j k (upd H p (.lst C)) {s with heap:=s.heap.update p f,toks:=t}:=by
 have e:(s.heap.update p f).get? p=My {cls:= .type "list",data:= .seq a.toArray n'}:=by
  rw[R8 f d (by rw[c]<;>rfl),c]
 refine I.write (x:=p) (e:=p) (by rw[h];trivial) (.inl rfl) (λb u i q=>(XH _ _ (Ne.symm i)).trans q) ⟨_,e⟩ ?_;exact⟨g,a,n',r,e⟩
def ID:V->V->V->Hp->(Hp->Prop)->Prop:=λo i v H Q=>∃p a k j,o= .ref p/\i= .int k/\H p=My (.lst a)/\o0 a.length k=My j/\Q (upd H p (.lst (a.set j v)))
theorem gj:HA X ID:=by
 intro c s C H o i v P R u Q I F J L h;obtain⟨p,b,k,j,rfl,rfl,m,N,q⟩:=h;cases F;obtain⟨t,rfl⟩:=J;obtain⟨a,n,r,f,O⟩:=I.lst m;obtain⟨d,T,w,y⟩:=vX N;have g:=r.length;have e:=jD;have A:b_ X c C (upd H p (.lst (b.set j v))) {s with heap:=s.heap.update p (Qx (·.setIfInBounds j u))}:=
  I.lstUpd m f (xp a n j u) (r.set L j) (by rw[QC];exact O) s.toks
 by_cases B:0<=k
 .have l:k.toNat=j:=by
   rw[seqIndex_of B y]at d;exact PH d
  exact PySem.W.ki_setAt f B (by lia) (by rw[Pg,<-g];exact y) (by rw[l];exact⟨_,A,q⟩)
 .have l:(k+(a.toArray.size:Int)).toNat=j:=by
   rw[Zs (by lia) w]at d;rw[Pg,<-g];exact PH d
  exact PySem.W.ki_setBack f (by lia) (by rw[Pg,<-g];exact w) (by lia) (by rw[l];exact⟨_,A,q⟩)
theorem sR(U Y:a0u)(n:Nat):(Tp U Y OI n).1=((HT.sIx n 0 U:Nat):Int)/\(Tp U Y OI n).2.1=((HT.sIx n n Y:Nat):Int)/\(Tp U Y OI n).2.2=1:=by
 refine⟨?_,?_,rfl⟩
 .cases U with
  |none=>simp[Tp,HT.sIx]
  |some i=>
   simp only[Tp,HT.sIx,YZ,show(1:Int)>0 by decide,Qq];by_cases h:i<0
   .simp only[h,Qq]<;>lia
   .simp only[h,Qj]<;>lia
 .cases Y with
  |none=>simp[Tp,HT.sIx]
  |some i=>
   simp only[Tp,HT.sIx,YZ,show(1:Int)>0 by decide,Qq];by_cases h:i<0
   .simp only[h,Qq]<;>lia
   .simp only[h,Qj]<;>lia
theorem rh(a:a0g)(U Y:a0u):Zc a.toArray U Y OI=((a.drop (HT.sIx a.length 0 U)).take (HT.sIx a.length a.length Y-HT.sIx a.length 0 U)).toArray:=by
 obtain⟨c,d,f⟩:=sR U Y a.toArray.size;unfold Zc;rw[c,d,f];simp only[sliceRange_one,pick_run,Pg]<;>rfl
def rSlL(K:Pl):V->a0u->a0u->Hp->VK->Prop:=λx U Y H Q=>∃a b,x= .ref a/\en K H a b/\∀p,H p=OI->Q (.ref p) (upd H p (.lst (lD b U Y)))
theorem vq:SlR X (rSlL X.K):=by
 intro d s j H x v k l U Y M Q I g B C D h;obtain⟨a,e,rfl,E,q⟩:=h;cases g;obtain⟨G,r,f,i⟩:=I.list E;have c:=r.length;refine⟨"list",_,slot_list_getitem.lookup,f.isList.typeIs,?_⟩;refine YS f.isList B C D .none (by simp) ?_ (by rw[Pg]<;>lia)
 rw[rh,<-c];refine⟨.ref s.heap.objs.size,_,I.laid (t':=s.toks) (o:= .lst (lD e U Y)) (λb m q=>OK _ q) (OW _) ?_,rfl,q _ (I.hok.fresh (OW _))⟩;exact⟨Pj (u7 e U Y) i,_,0,(r.drop (HT.sIx e.length 0 U)).take (HT.sIx e.length e.length Y-HT.sIx e.length 0 U),O7 _ rfl⟩
noncomputable def gz:V->Bool
 | .non=>OL
 | .bl _=>OL
 | .int _=>OL
 | .str _=>OL
 |_=>OQ
noncomputable def F3:V->V->Bool
 | .non,.non=>OL
 | .bl a,.bl b=>a==b
 | .bl a,.int b=>(if a then 1 else 0)==b
 | .int a,.bl b=>a==(if b then 1 else 0)
 | .int a,.int b=>a==b
 | .str a,.str b=>a==b
 |_,_=>OQ
theorem Mq(d:aJ y u)(c:aJ x v)(g:gz y=OL)(f:gz x=OL):QV A s u v (F3 y x):=by
 cases y with
 |non=>
  cases d;cases x with
  |non=>cases c;exact QV.same _
  |bl b=>cases c;exact QV.none_bool b
  |int b=>obtain⟨t,rfl⟩:=c;exact QV.none_int b t
  |str b=>obtain⟨t,rfl⟩:=c;exact QV.none_str b t
  |_=>exact Pp (show OQ=OL from f) O4
 |bl a=>
  cases d;cases x with
  |non=>cases c;exact QV.bool_none a
  |bl b=>cases c;exact QV.bool_bool a b
  |int b=>obtain⟨t,rfl⟩:=c;exact QV.bool_int a b t
  |str b=>obtain⟨t,rfl⟩:=c;exact QV.bool_str a b t
  |_=>exact Pp (show OQ=OL from f) O4
 |int a=>
  obtain⟨e,rfl⟩:=d;cases x with
  |non=>cases c;exact QV.int_none a e
  |bl b=>cases c;exact QV.int_bool a e b
  |int b=>obtain⟨t,rfl⟩:=c;exact Xv a e b t
  |str b=>obtain⟨t,rfl⟩:=c;exact QV.int_str a e b t
  |_=>exact Pp (show OQ=OL from f) O4
 |str a=>
  obtain⟨e,rfl⟩:=d;cases x with
  |non=>cases c;exact QV.str_none a e
  |bl b=>cases c;exact QV.str_bool a e b
  |int b=>obtain⟨t,rfl⟩:=c;exact QV.str_int a e b t
  |str b=>obtain⟨t,rfl⟩:=c;exact QV.str_str a e b t
  |_=>exact Pp (show OQ=OL from f) O4
 |_=>exact Pp (show OQ=OL from g) O4
def ro(x:V)(u:OP):Bool:=match u with
 | .none=>F3 .non x
 | .bool b=>F3 (.bl b) x
 | .int i _=>F3 (.int i) x
 | .str z _=>F3 (.str z) x
 |_=>OQ
theorem AS(r:aJ y u)(f:gz y=OL):ro x u=F3 y x:=by
 cases y with
 |non=>cases r;rfl
 |bl b=>cases r;rfl
 |int i=>obtain⟨t,rfl⟩:=r;rfl
 |str z=>obtain⟨t,rfl⟩:=r;rfl
 |_=>exact Pp (show OQ=OL from f) O4
theorem jJ:∀{a:a0k} {b:a0g},aw a b->a.all gz=OL->b.any (ro x)=a.any λy=>F3 y x
 |_,_,.nil,_=>rfl
 |y::a,u::b,.cons r t,f=>by
  rw[Vn,PP]at f;rw[Uk,Uk,AS r f.1,jJ t f.2]
theorem iH(c:aJ x v)(d:gz x=OL):∀{a:a0k} {b:a0g},aw a b->a.all gz=OL->∀u∈b,QV A s u v (ro x u)
 |_,_,.nil,_=>λu hu=>by cases hu
 |y::a,u::b,.cons r t,f=>λg hu=>by
  rw[Vn,PP]at f;rcases O6.mp hu with rfl|hu
  .rw[AS r f.1];exact Mq r c f.1 d
  .exact iH c d t f.2 g hu
def Z_(x:V)(a:a0k):Bool:=a.any λy=>F3 y x
def rIn(K:Pl)(b:Bool):R2:=λx y H Q=>∃p a,y= .ref p/\(en K H p a\/g_ K H p a)/\gz x=OL/\a.all gz=OL/\Q (.bl (if b then !Z_ x a else Z_ x a)) H
theorem zm:fw X (Qy .In) (rIn X.K OQ):=by
 intro d s k H x y v u Q I f i h;obtain⟨p,b,rfl,hq,g,a,q⟩:=h;cases i;rcases hq with hq|hq
 .obtain⟨its,r,pl,j⟩:=I.list hq
  refine SeqAt.in_listAt (ro x) pl.isList (λw c=>iH f g r a w (by simpa using c)) ⟨.bl _,H,I,rfl,?_⟩;rw[show its.toArray.any (ro x)=its.any (ro x) by simp,jJ r a];exact q
 .obtain⟨its,r,pl,j⟩:=I.tuple hq
  refine SeqAt.in_tupleAt (ro x) pl (λw c=>iH f g r a w (by simpa using c)) ⟨.bl _,H,I,rfl,?_⟩;rw[show its.toArray.any (ro x)=its.any (ro x) by simp,jJ r a];exact q
theorem kX:fw X (Qy .NotIn) (rIn X.K OL):=by
 intro d s k H x y v u Q I f i h;obtain⟨p,b,rfl,hq,g,a,q⟩:=h;cases i;rcases hq with hq|hq
 .obtain⟨its,r,pl,j⟩:=I.list hq
  refine SeqAt.notIn_listAt (ro x) pl.isList (λw c=>iH f g r a w (by simpa using c)) ⟨.bl _,H,I,rfl,?_⟩;rw[show its.toArray.any (ro x)=its.any (ro x) by simp,jJ r a];exact q
 .obtain⟨its,r,pl,j⟩:=I.tuple hq
  refine SeqAt.notIn_tupleAt (ro x) pl (λw c=>iH f g r a w (by simpa using c)) ⟨.bl _,H,I,rfl,?_⟩;rw[show its.toArray.any (ro x)=its.any (ro x) by simp,jJ r a];exact q
theorem lF:cD X (.builtin "len") (λb H Q=>∃p a,b=[.ref p]/\(en X.K H p a\/g_ X.K H p a)/\Q (.int a.length) H):=by
 intro f s j H b e Q I r h;obtain⟨p,a,rfl,hq,q⟩:=h;obtain⟨u,rfl,g⟩:=gx r;cases g;have B:=jD;rcases hq with hq|hq
 .obtain⟨its,d,pl,i⟩:=I.list hq
  have c:=d.length;exact Calls.call_len_list pl.isList (by simp only[Pg]<;>lia) ⟨.int a.length,H,I.tok _,⟨s.toks+1,by rw[Pg,c]⟩,q⟩
 .obtain⟨its,d,pl,i⟩:=I.tuple hq
  have c:=d.length;exact len_tuple pl (by simp only[Pg]<;>lia) ⟨.int a.length,H,I.tok _,⟨s.toks+1,by rw[Pg,c]⟩,q⟩
theorem gb:cD X (.type "list") (λG H Q=>∃p C,G=[.ref p]/\(en X.K H p C\/g_ X.K H p C)/\∀l,H l=OI->Q (.ref l) (upd H l (.lst C))):=by
 intro f s v H G M Q I r h;obtain⟨p,C,rfl,hq,q⟩:=h;obtain⟨u,rfl,y⟩:=gx r;cases y
 have g:∀(a:a0g),aw C a->C.length<=Pk->∀(B:Qt) (c:Nat),(∀b t,s.heap.get? b=My t->B.get? b=My t)->
   B.get? s.heap.objs.size=My {cls:= .type "list",dict:=OI,data:= .seq a.toArray c,slots:=#[]}->EP X f v Q (.ref s.heap.objs.size) {s with heap:=B}:=λa d i B c D e=>
  ⟨.ref s.heap.objs.size,_,I.laid (t':=s.toks) D (OW _) (show bJ X.prog X.w _ B _ (.lst C)from⟨i,a,c,d,e⟩),rfl,q _ (I.hok.fresh (OW _))⟩
 rcases hq with hq|hq
 .obtain⟨a,d,pl,i⟩:=I.list hq
  have j:=d.length;obtain⟨o,k,m,n,E⟩:=pl.isList;exact call_list_seq p (.inl rfl) k m E (λB c D e=>g a d i B c D e) (by simp only[Pg]<;>lia)
 .obtain⟨a,d,pl,i⟩:=I.tuple hq
  have j:=d.length;obtain⟨o,k,m,n,E⟩:=pl;exact call_list_seq p (.inr rfl) k m E (λB c D e=>g a d i B c D e) (by simp only[Pg]<;>lia)
theorem dR:cD X (.type "tuple") (λC H Q=>∃p a,C=[.ref p]/\((en X.K H p a/\∀l,H l=OI->Q (.ref l) (upd H l (.tup a)))\/(g_ X.K H p a/\Q (.ref p) H))):=by
 intro c s g H C E Q I r h;obtain⟨p,a,rfl,h⟩:=h;obtain⟨u,rfl,m⟩:=gx r;cases m;rcases h with⟨d,q⟩|⟨d,q⟩
 .obtain⟨its,f,pl,i⟩:=I.list d
  have j:=f.length;refine call_tuple_list pl.isList (λB D=>?_) (by simp only[Pg]<;>lia)
  have k:b_ X c g H {s with heap:=B}:=I.kept (t':=s.toks) D;have n:b_ X c g (upd H B.objs.size (.tup a)) {s with heap:=B.push {cls:= .type "tuple",data:= .seq its.toArray}}:=
   k.laid (t':=s.toks) (λb o e=>OK _ e) (OW _) (show bJ X.prog X.w _ _ _ (.tup a)from⟨i,its,f,IsTup.new _ _⟩)
  exact⟨.ref B.objs.size,_,n,rfl,q _ (k.hok.fresh (OW _))⟩
 .obtain⟨its,f,pl,i⟩:=I.tuple d
  exact call_tuple_same pl ⟨.ref p,H,I,rfl,q⟩
def tyV(K:Pl)(T:String)(x:V)(H:Hp):Prop:=match x with
 | .str _=>T="str"
 | .int _=>T="int"
 | .ref p=>(T="list"/\∃a,en K H p a)\/(T="tuple"/\∃o,K.lookup p=My o/\o.cls= .type "tuple"/\o.dict=OI)
 |_=>False
theorem yp{s:OV}(I:b_ X j k H s)(r:aJ x v)(b:tyV X.K T x H):
  s.TypeIs v T/\∀a,v= .ref a->∃d,s.heap.get? a=My d/\d.dict=OI:=by
 cases x with
 |str z=>
  obtain⟨t,rfl⟩:=r;cases(show T="str"from b);exact⟨typeIs_str s z t,λ_ e=>nomatch e⟩
 |int i=>
  obtain⟨t,rfl⟩:=r;cases(show T="int"from b);exact⟨typeIs_int s i t,λ_ e=>nomatch e⟩
 |ref p=>
  cases r;rcases b with⟨rfl,C,g⟩|⟨rfl,o,f,h,B⟩
  .obtain⟨its,_,pl,_⟩:=I.list g
   refine⟨pl.isList.typeIs,λa e=>?_⟩;cases e;obtain⟨o,n,e,c,B,_⟩:=pl;exact⟨o,e,B⟩
  .refine⟨⟨o,I.kIn p o f,h⟩,λa e=>?_⟩
   cases e;exact⟨o,I.kIn _ o f,B⟩
 |_=>exact Rp b
def KM(K:Pl)(T:String)(r:a0J)(a:TE):TE:=λd H Q=>a d H λx c=>tyV K T x c/\r x [] c Q
def tBM(K:Pl)(T:String)(r:a0J)(a:TE)(t:TA):TE:=λc H Q=>a c H λx d=>tyV K T x d/\t c d λb f=>r x b f Q
variable{o:Expr}{J:List Expr}{L:TE}{t:TA}{b:PZ}{z a:Ub}{T F:String}{r:a0J}
theorem Lr(B:PlainAttrs T)(e:Slot T b F)(g:typeOf (.builtin F)=Ry (.type "method_descriptor"))(C:MtR X F r)(k:PE X o L)
  (d:TR o b X.env (Qu o X.env)=Qu o X.env:=by rfl) (f:(z.endLine==a.line)=OL:=by rfl):PE X (.Call (.Attribute o b z) [] [] a) (KM X.K T r L):=by
 intro c s i H Q I h;refine Zd d f (d5 (k c s i H _ I h) λv l ⟨x,m,j,t,D,E⟩=>?_);obtain⟨n,p⟩:=yp j t D;exact⟨T,F,B,e,g,n,p,Vy rfl (Yv (C c l i m x [] v [] Q j t .nil E))⟩
theorem l5(G:PlainAttrs T)(D:Slot T b F)(j:typeOf (.builtin F)=Ry (.type "method_descriptor"))(M:MtR X F r)(n:PE X o L)(S:PA X (e::J) t)
  (f:TR o b X.env (Qu o X.env)=Qu o X.env:=by rfl)
  (i:((SL a (Pe (e::J) X.env)).all (λx=>!x.1)&&(Uo a (Sv [] X.env)).all (λx=>x.1.isSome)
   &&decide ((e::J).length+([]:List XI).length+(if([]:List XI).isEmpty then 0 else 1)<30))=OL:=by rfl)
  (g:(z.endLine==a.line)=OL:=by rfl) (U:Pe (e::J) X.env=(OQ,Qu e X.env)::Pe J X.env:=by rfl) (d:(SL a (Pe J X.env)).any (·.1)=OQ:=by rfl):
  PE X (.Call (.Attribute o b z) (e::J) [] a) (tBM X.K T r L t):=by
 intro c s k H Q I h;refine wpAny_Call_method_late f i g rfl (d5 (n c s k H _ I h) λv p ⟨x,q,l,E,V,Y⟩=>?_);obtain⟨u,w⟩:=yp l E V;refine⟨T,F,G,D,j,u,w,?_⟩;have m:=S a c p k q _ l Y;rw[U]at m⊢;refine Vy (by show(OQ||(SL a (Pe J X.env)).any (·.1))=OQ;rw[d]<;>rfl) (Calls.evalArgs_plain ?_)
 exact d5 m λZ y ⟨N,A,B,C,O⟩=>M c y k A x N v Z Q B E C O
def MtM(X:Cx)(F:String)(r:a0J):Prop:=
 ∀(c:a0c) (s:OV) (d:St) (H:Hp) (x:V) (a:a0k) (v:OP) (b:a0g) (Q:VK),b_ X c d H s->aJ x v->aw a b->r x a H Q->
  O8 (Px X.prog X.w) X.A (Wq (.builtin F) (v::b)) (EP X c d Q) X.xe s
theorem aw.one:∀{x:V} {a:a0g},aw [x] a->∃u,a=[u]/\aJ x u
 |_,_,.cons r .nil=>⟨_,rfl,r⟩
theorem aw.zero:∀{a:a0g},aw [] a->a=[]
 |_,.nil=>rfl
theorem aw.dropLast{xs:a0k}{a:a0g}(h:aw xs a):aw xs.dropLast a.dropLast:=by
 induction h with
 |nil=>exact .nil
 |cons r t b=>
  cases t with
  |nil=>exact .nil
  |cons q e=>exact .cons r b
theorem aw.reverse{a:a0k}{b:a0g}(h:aw a b):aw a.reverse b.reverse:=by
 induction h with
 |nil=>exact .nil
 |cons r t e=>rw[Vf,Vf];exact aw.append e (.cons r .nil)
theorem aw.rep(h:aw c d):∀k:Nat,aw (Pr k c).flatten (Pr k d).flatten
 |0=> .nil
 |k+1=>by
  rw[Q9,Q9,Rb,Rb];exact aw.append h (aw.rep h k)
theorem xU{o:Type}(l:List o):l.eraseIdx (l.length-1)=l.dropLast:=by
 induction l with
 |nil=>rfl
 |cons a r t=>
  cases r with
  |nil=>rfl
  |cons b r=>
   have e:(a::b::r).length-1=((b::r).length-1)+1:=by
    have c:(a::b::r).length=r.length+2:=rfl;have d:(b::r).length=r.length+1:=rfl;rfl
   rw[e,List.eraseIdx_cons_succ,t]
   all_goals rfl
theorem qR(a:a0g):∀(k:Nat) (b:a0g),
  Xb (λc d=>c++d) b.toArray (Pr k a.toArray)=(b++(Pr k a).flatten).toArray
 |0,b=>by simp
 |k+1,b=>by
  have e:b.toArray++a.toArray=(b++a).toArray:=by simp
  have f:(b++a)++(Pr k a).flatten=b++(Pr (k+1) a).flatten:=by
   rw[Q9,Rb,O3]
  rw[<-f,<-qR a k (b++a),<-e,Q9,WP]
end
section
variable{X:Cx}{R:a0c}{P:St}{H:Hp}{s:OV}{l b:OM}{xs ys B:a0k}
theorem b_.lset{b its':a0g}(I:b_ X R P H s)(a:H l=My (.lst xs))
  (e:s.heap.get? l=My {cls:= .type "list",data:= .seq b.toArray n}) (c:f b.toArray=its'.toArray) (d:aw ys its') (g:ys.length<=Pk):
  b_ X R P (upd H l (.lst ys)) {s with heap:=s.heap.update l (Qx f),toks:=k}:=by
 have q:=PySem.IsL.update e f;rw[c]at q;refine I.write (x:=l) (e:=l) (by rw[a];exact trivial) (.inl rfl) (λj u h i=>(XH s.heap (Qx f) (Ne.symm h)).trans i) ⟨_,q⟩ ?_;exact⟨g,its',_,d,q⟩
theorem b_.lnew{its:a0g}(I:b_ X R P H s)(a:aw ys its)(c:ys.length<=Pk):
  b_ X R P (upd H s.heap.objs.size (.lst ys)) {s with heap:=s.heap.push {cls:= .type "list",data:= .seq its.toArray},toks:=t'}:=
 I.laid (λ_ _ q=>OK _ q) (OW _) ⟨c,its,0,a,O7 _ rfl⟩
theorem b_.fresh(I:b_ X R P H s):H s.heap.objs.size=OI:=I.hok.fresh (OW _)
theorem b_.lstM(I:b_ X R P H s)(a:H l=My (.lst xs)):xs.length<=Pk/\∃(b:a0g) (n:Nat),aw xs b/\xs.length=b.length/\s.heap.get? l=My {cls:= .type "list",data:= .seq b.toArray n}:=by
 obtain⟨z,b,n,r,e⟩:=I.hok l _ a;exact⟨z,b,n,r,r.length,e⟩
theorem CY(h:n<=Pk):UA n=OQ:=by
 unfold UA;exact PY (by lia)
def vE:V->a0k->Hp->VK->Prop:=λx b H Q=>∃l xs y,x= .ref l/\b=[y]/\H l=My (.lst xs)/\xs.length<Pk/\Q .non (upd H l (.lst (xs++[y])))
theorem fN:MtM X "list.append" vE:=by
 intro R s P H x B v D Q I c d h;obtain⟨l,xs,y,rfl,rfl,a,g,q⟩:=h;cases c;obtain⟨u,rfl,f⟩:=d.one;obtain⟨z,b,n,r,i,e⟩:=I.lstM a;refine WG F.slot_list_append ⟨_,e,rfl⟩ F.entry_list_append (Zh _ _) (Y3 l b.toArray n u (by rw[Pg];lia)) ⟨e,?_⟩;refine⟨.non,_,I.lset (its':=b++[u]) a e (by simp) (r.append (.cons f .nil)) ?_,rfl,q⟩;rw[O1,Qs];lia
def Lc:V->a0k->Hp->VK->Prop:=λx b H Q=>∃l xs y,x= .ref l/\b=[]/\H l=My (.lst xs)/\xs[xs.length-1]?=My y/\Q y (upd H l (.lst xs.dropLast))
theorem LK:MtM X "list.pop" Lc:=by
 intro R s P H x D v E Q I f g h;obtain⟨l,xs,y,rfl,rfl,d,B,q⟩:=h;cases f;have a:=g.zero;subst a;obtain⟨z,b,n,r,i,e⟩:=I.lstM d;obtain⟨u,j,k⟩:=r.get B;have c:b.toArray[b.toArray.size-1]?=My u:=by
  show b.toArray[b.length-1]?=My u;rw[<-Qd,<-i];exact j
 refine WG F.slot_list_pop ⟨_,e,rfl⟩ F.entry_list_pop (F.args_list_pop_1 _) (MeetsSeq.list_pop_last l b.toArray n u c (by rw[Pg];lia)) ⟨e,?_⟩;refine⟨y,_,I.lset (its':=b.dropLast) d e ?_ r.dropLast ?_,k,q⟩
 .show b.toArray.eraseIdxIfInBounds (b.toArray.size-1)=b.dropLast.toArray
  rw[Pg,List.eraseIdxIfInBounds_toArray,xU]
 .rw[Yr]
  lia
noncomputable def rCat:R2:=λx y H Q=>∃l b xs B,x= .ref l/\y= .ref b/\H l=My (.lst xs)/\H b=My (.lst B)/\xs.length+B.length<=Pk/\∀p,H p=OI->Q (.ref p) (upd H p (.lst (xs++B)))
theorem LB:fw X (Se .Add) rCat:=by
 intro R s P H x y v u Q I c d h;obtain⟨l,b,xs,B,rfl,rfl,f,hB,m,q⟩:=h;cases c;cases d;obtain⟨z,D,n,r,o,e⟩:=I.lstM f;obtain⟨p,a,t,g,i,j⟩:=I.lstM hB;refine YI e j ?_ (by rw[Pg,Pg];lia);have k:D.toArray++a.toArray=(D++a).toArray:=by simp
 rw[k];exact⟨.ref _,_,I.lnew (t':=s.toks) (r.append g) (by rw[O1];omega),rfl,q _ I.fresh⟩
noncomputable def rRep:R2:=λx y H Q=>∃l k xs,x= .ref l/\y= .int k/\H l=My (.lst xs)/\-(2^63)<=k/\k<2^63/\xs.length*k.toNat<=Pk/\
 ∀p,H p=OI->Q (.ref p) (upd H p (.lst (Pr k.toNat xs).flatten))
theorem J5{b:Type}(xs:List b)(k:Nat):(Pr k xs).flatten.length=k*xs.length:=by
 induction k with
 |zero=>simp
 |succ k l=>rw[Q9,Rb,O1,l,Nat.succ_mul,XU]
theorem Lw:fw X (Se .Mult) rRep:=by
 intro R s P H x y v u Q I w A h;obtain⟨l,k,xs,rfl,rfl,B,C,J,p,q⟩:=h;cases w;obtain⟨t,rfl⟩:=A;obtain⟨z,b,n,r,L,e⟩:=I.lstM B;have d:b.toArray.size*k.toNat<=Pk:=by rw[Pg,<-L];exact p
 have f:¬b.toArray.size*k.toNat>(2^63-1)/8:=by
  have:(Pk:Nat)<=(2^63-1)/8:=by decide
  lia
 have g:¬(!Builtin.List.listFitsIndex k)=OL:=by
  rw[fitsIndex_both C J];exact O4
 have c:¬UA (b.toArray.size*k.toNat)=OL:=by
  rw[CY d];exact O4
 have i:Xb (λj o=>j++o) #[] (Pr (if b.toArray.isEmpty=OL then 0 else k.toNat) b.toArray)=(Pr k.toNat b).flatten.toArray:=by
  have N:∀m:Nat,Xb (λj o=>j++o) #[] (Pr m b.toArray)=(Pr m b).flatten.toArray:=λm=>by
   have:=qR b m [];rw[RO]at this;exact this
  rw[N];cases b with
  |nil=>simp
  |cons a O=>rw[OY (by simp)]
 refine wpAny_binaryOp_repeat_ref (T:="list") (U:="int") (by decide) ⟨_,e,rfl⟩ (λD=>typeIs_int D k t) noFill_list_mul F.fills_int_mul F.slot_int_rmul repeat_list F.slot_int_index.lookup
  (WG F.slot_int_rmul (typeIs_int s k t) F.entry_int_rmul (F.args_int_rmul_2 _ _) (int___rmul___int_list k t l b.toArray n)
   ⟨e,rfl,⟨_,e,rfl⟩,WG F.slot_list_mul ⟨_,e,rfl⟩ F.entry_list_mul (F.args_list_mul_2 _ _) (AutoListH.list___mul___list_int_3 l b.toArray n k t g f c) ⟨e,?_⟩⟩)
 rw[i];exact⟨.ref _,_,I.lnew (t':=s.toks) (r.rep k.toNat) (by rw[J5,R1];exact p),rfl,q _ I.fresh⟩
variable{a:PM}{w:P0}{A:P7}{E:a0d}
end
end L2
namespace Att
open PySem.W PySem.Calls
theorem o6:∀(D:a0e) (E:a0g),WellAll P h E (D.map WData.int)->Uj E D:=by
 intro D
 induction D with
 |nil=>
  intro E w;rw[SI]at w;cases w;exact .nil
 |cons n D G=>
  intro E w;rw[Pc]at w;cases w with
  |cons a b=>
   cases a;exact .cons _ _ (G _ b)
theorem yL{l:OpenLaw}(G:l.most=My n){h:Qt}
  (b:l.row.toRowW.claim.pre args=OL) (g:WellAll P h vals args):
  ∃a E D,vals=[Pa a]/\args=[WData.list (D.map WData.int)]/\h.get? a=My {cls:= .type "list",data:= .seq E.toArray}/\Uj E D/\D.length<=n:=by
 have hsh:WShape.hasAll [] args [.list .int]=OL:=(pre_splitW b).1;have i:l.pre.holds [] {args:=args}=OL:=(pre_splitW b).2;obtain⟨d,r,rfl,j,k⟩:=hasAllW_cons hsh;obtain rfl:=hasAllW_nil k;obtain⟨K,rfl,m⟩:=hasW_list j;obtain⟨D,rfl⟩:=items_int m;have c:D.length<=n:=by
  unfold OpenLaw.pre at i;have e:(WTm.not (.lt (.lit (.int (n:Int))) (.len (.arg 0)))).holds [] {args:=[.list (D.map .int)]}=OL:=by
   have e:=(holds_andW i).1;rw[G]at e;exact e
  have f:=condW_of e (w_not (w_lt w_lit (w_len_list (w_arg rfl))));rw[OH]at f;refine Th λq=>?_;have o:(n:Int)<((D.length:Nat):Int):=by omega
  first
   |(rw[Pf o]at f;exact Pp f (by decide))
   |(simp at f;lia)
 cases g with
 |cons p t=>
  cases t;cases p with
  |list ho hall=>exact⟨_,_,D,rfl,rfl,ho,o6 D _ hall,c⟩
theorem zc(l:OpenLaw)(args:List WData):l.row.toRowW.claim.post args (.bool OL) args=OL:=
 postW_of (r:=l.row.toRowW) (X:=(OL==OL))
  (show WShape.has [] (.bool OL) .bool=OL by first|rfl|decide|simp[WShape.has,WShape.arms,WShape.armsAll])
  (show(WTm.eq .res (.lit (.bool OL))).value [] {args:=args,res:=My (.bool OL),after:=args}=My (.bool (OL==OL))from w_eq_bool (w_res rfl) w_lit) rfl
theorem attach_call{l:OpenLaw}{d:DefRec}
  (P:l.most=My n) (k:d.params.defaults=[])
  (Wq:∀(w:P0) (D b:OV) (K m:a0j) (g:OM) (o:PF) (s M c:OP) (a:OM) (E:a0g) (S:a0e),
   Ground q loose [] XP w D K m b.heap->YP w b.heap->
   b.heap.get? g=My o->o.data= .func (docDef d.name d.params d.body d.scope s M c)->b.heap.CodeRec M d.name->K d.name=My (.ref g)->
   b.heap.get? a=My {cls:= .type "list",data:= .seq E.toArray}->Uj E S->S.length<=n->b.gens=#[]->
   T3 (Px l.prog w) W1 (.call (.ref g) ⟨[.ref a],[]⟩) (λr V=>r= .ok (.ret (.bool OL))/\OldK b.heap V.heap/\V.os=b.os/\Vd V.gens) b):
  WalkO q loose XP YP l.row.toRowW d [] (λf E=>YN f E):=by
 intro w D b K m G Y g o s M c A B C Q p v t F x z T h y H u I;obtain rfl:A= .none:=Dflts.none v k;obtain rfl:B= .none:=Dflts.noKw v;obtain⟨a,E,S,rfl,rfl,i,e,j⟩:=yL P h u;refine enter_call (Uq (Wq w D b K m g o s M c a E S G Y C (fd_plain Q) p t i e j F) λr V J=>?_);obtain⟨rfl,L,N,O⟩:=J;exact⟨.inl ⟨.bool OL,.bool OL,[],rfl,λ_=>rfl,.bool OL,zc l _,λ_=>⟨Uv,λ_ R=>(nomatch R)⟩⟩,L,N,O⟩
section
variable{a:PM}{w:P0}{A:P7}{E:a0d}{s:OV}{K:Pl}
end
end Att
namespace L2
theorem qs:∀{D:a0g} {E:a0e},Uj D E->aw (E.map V.int) D
 |_,_,.nil=> .nil
 |_,_,.cons n t h=> .cons ⟨t,rfl⟩ (qs h)
def HB(H:Hp):Prop:=∀b,H b=OI\/∃o D,H b=My (.frz o (.lst D))
theorem DQ{K:Pl}{c:OV}{G:a0g}{M:a0e}
  (R:K.In c.heap) (p:c.heap.Ns RG mg) (g:c.heap.Ns X3 mb) (I:∀x:PZ,x≠"__name__"->mb x=Tx x) (t:c.heap.NoLimit) (hg:c.gens=#[])
  (ha:c.heap.get? a=My {cls:= .type "list",data:= .seq G.toArray}) (T:Uj G M) (U:M.length<=Pk) (hr:dt k W1)
  (F:∀D:Qt,K.In D->D.Ns RG mg->ee P w K mg D CX k fa fd [x] sp) (l:∀(s:OV) (u:OP),Wl s fd ⟨[u],[]⟩ [(x,u)])
  (J:∀H:Hp,HB H->en K H a (M.map V.int)->sp [.ref a] H (λv _=>v= .bl OL) λ_ _ _=>False)
  (L:∀H e E,CX [] H c (λ_ _ _=>False) e E->False):
  T3 (Px P w) W1 (.call (.ref fa) ⟨[.ref a],[]⟩) (λr E=>r= .ok (.ret (.bool OL))/\OldK c.heap E.heap/\E.os=c.os/\Vd E.gens) c:=by
 have W:=qs T;have y:=T.length
 --from an abstract heap in which nothing but the script may be tracked
 have j:∀H:Hp,HB H->en K H a (M.map V.int)->js P w H c.heap->(∀b,H b≠OI->b=a)->(H a≠OI->K.lookup a=OI)->
   T3 (Px P w) W1 (.call (.ref fa) ⟨[.ref a],[]⟩) (λr E=>r= .ok (.ret (.bool OL))/\OldK c.heap E.heap/\E.os=c.os/\Vd E.gens) c:=by
  intro H X hS S Y hK;have f:∀{b:OM} {o:PF},c.heap.get? b=My o->H b=OI->(j6 c.heap H).get? b=My o:=λe n=>EF e n;have N:∀{b:OM} {o:PF} {es:Array RY} {ep:Nat},c.heap.get? b=My o->o.data= .dict es ep->H b=OI:=λ{b o es ep} e d=>by
   cases q:H b with
   |none=>rfl
   |some u=>
    have O:b=a:=Y b (by rw[q];simp);subst O;rw[ha]at e;cases e;have d':Data.seq G.toArray _=Data.dict es ep:=d;cases d'
  have i:∀{b:OM} {m:a0j},c.heap.Ns b m->(j6 c.heap H).Ns b m:=λ{b m} ⟨o,es,ep,e,d,r⟩=>⟨o,es,ep,f e (N e d),d,r⟩;have A:K.In (j6 c.heap H):=λb o e=>f (R b o e) (by
   cases q:H b with
   |none=>rfl
   |some u=>
    have O:b=a:=Y b (by rw[q];simp);subst O;rw[hK (by rw[q];simp)]at e;cases e)
  have hM:Mod K mg (j6 c.heap H):=⟨A,i p,⟨mb,i g,I⟩,let ⟨mc,h1,h2⟩:=t;⟨mc,i h1,h2⟩⟩
  have e0:m_ P w K mg (j6 c.heap H) W1 [] c H:=⟨rfl,hM,λb o e=>JX e,XW (AE _ _),trivial,λb g=>Pp (show b∈([]:a0q)from g) (by simp),S,.of_eq hg⟩;refine Uq ((F _ A (i p)).run W1 [] c H ⟨[.ref a],[]⟩ [.ref a] [.ref a] _ _ hr e0 (l c (.ref a)) (.cons rfl .nil) (J H X hS)) λr E h=>?_;cases r with
  |error e=>exact(L H e E h).elim
  |ok fl=>
   cases fl with
   |next=>exact Rp h
   |brk=>exact Rp h
   |cont=>exact Rp h
   |ret u=>
    obtain⟨v,H',os,aa,un,B,r',q⟩:=h;have q':v= .bl OL:=q;subst q';obtain rfl:u=V6 OL:=r';refine⟨rfl,OldK.of_keep λb o e=>?_,os,aa⟩;cases q:H b with
    |none=>exact un.keep b o e q (by intro z;exact Pp (show b∈([]:a0q)from z) (by simp)) (by simp)
    |some u=>
     rcases X b with z|⟨ob,xs,z⟩
     .rw[q]at z;cases z
     .have z2:=un.frzs b ob _ z
      obtain⟨Z,_⟩:=S b _ z;obtain⟨e2,_⟩:=B b _ z2;rw[e]at Z;cases Z;exact e2
 cases Q:K.lookup a with
 |some o=>
  --the script is one of the module's own objects
  have e:=R a o Q;rw[ha]at e;cases e;refine j (λ_=>OI) (λ_=> .inl rfl) (.inr ⟨_,G.toArray,_,Q,rfl,rfl,rfl,by rw[Pg,y];exact U,by simpa using W⟩) (λb u z=>by have C:(OI:Option HO)=My u:=z;cases C) (λb z=>Pp rfl z) λz=>Pp rfl z
 |none=>
  refine j (λb=>if b=a then My (.frz {cls:= .type "list",data:= .seq G.toArray} (.lst (M.map V.int)))else OI) (λb=>?_) (.inl (.inr ⟨{cls:= .type "list",data:= .seq G.toArray},OZ rfl⟩)) (λb u z=>?_) (λb z=>?_) λ_=>Q
  .by_cases g:b=a
   .exact .inr ⟨_,_,OZ g⟩
   .exact .inl (OY g)
  .by_cases g:b=a
   .have C:=(OZ g).symm.trans z
    cases C;subst g;exact⟨ha,by rw[OH];exact U,G,_,W,ha⟩
   .have C:=(OY g).symm.trans z
    cases C
  .by_cases g:b=a
   .exact g
   .exact Pp (OY g) z
theorem walk_of{l:PySem.W.OpenLaw}{n k:Nat}{q:PM}{E:a0i}{XP:(PZ->Option OP)->Qt->Prop}{YP:P0->Qt->Prop}{d:DefRec}{K:Xl->Pl}{CX:P0->xl}{sp:P0->Sp}{x:PZ}
  (hn:l.most=My n) (r:n<=Pk) (t:d.params.defaults=[]) (J:dt k W1)
  (L:∀(w:P0) (h:Qt),YP w h->(K w.params).In h)
  (F:∀(w:P0) (M:a0j) (p:OM) (h:Qt),(K w.params).In h->h.Ns RG M->M d.name=My (.ref p)->
   ∃B:Py,(∀(s:OV) (u:OP),Wl s B ⟨[u],[]⟩ [(x,u)])/\
    ∀D:Qt,(K w.params).In D->D.Ns RG M->ee l.prog w (K w.params) M D (CX w) k p B [x] (sp w))
  (y:∀(w:P0) (H:Hp) (a:OM) (S:a0e),S.length<=n->HB H->en (K w.params) H a (S.map V.int)->sp w [.ref a] H (λv _=>v= .bl OL) λ_ _ _=>False)
  (A:∀(w:P0) (H:Hp) (s:OV) (e:OP) (z:OV),CX w [] H s (λ_ _ _=>False) e z->False):
  PySem.W.WalkO q E XP YP l.row.toRowW d [] (λf vs=>YN f vs):=by
 refine Att.attach_call hn t λw aa j M X p o pm cd N a vs S G Y Z hd O C m i c P=>?_;have I:=L w _ Y;obtain⟨B,Q,hF⟩:=F w M p _ I G.T.g C;exact DQ I G.T.g G.T.b G.T.builtins G.T.nolimit P m i (Pj c r) J hF Q (λH R U=>y w H a S c R U) λH e z=>A w H j e z
noncomputable def aF(s:QH)(j:Nat):QH:=match s with
 | .ClassDef _ _ _ body _ _ _ _ _ _ _=>body.getD j (.Pass ⟨0,0,0,0⟩)
 |_=> .Pass ⟨0,0,0,0⟩
noncomputable def im(s:QH):Arguments:=match s with
 | .FunctionDef _ a _ _ _ _ _ _ _ _=>a
 |_=>{posonlyargs:=[],args:=[],vararg:=OI,kwonlyargs:=[],kw_defaults:=[],kwarg:=OI,defaults:=[]}
noncomputable def cf(s:QH):a0R:=match s with
 | .FunctionDef _ _ b _ _ _ _ _ _ _=>b
 |_=>[]
noncomputable def ah(s:QH):Scope:=match s with
 | .FunctionDef _ _ _ _ _ _ sc _ _ _=>sc
 |_=>{kind:= .function,names:=[],isGenerator:=OQ,isCoroutine:=OQ}
abbrev E0:St->XK:=λ_ _ _ _=>False
structure Fun (K:Pl) (x qual:PZ) (st:QH) (f:OM) (fd:Py):Prop where
 ex:∃(oc:OP) (od:a0Q) (kV doc pm:OP) (an:a0Q) (cdv ct:OP) (osl:Array (Option OP)),
  fd=TM x qual (im st) (cf st) (ah st) .none kV doc pm an cdv ct/\K.lookup f=My ⟨oc,od,.func fd,osl⟩/\UF K cdv qual=OL
 kp:U8 K (.ref f)=OL
section
variable{P:PM}{w:P0}{K:Pl}{b:a0j}{base:Qt}
theorem rP{A:P7}(a:dt k A):A.units+1<US:=P5 (UO (by decide:1<=64) _) a.units
theorem qz(h:n<=1000):n<Pk:=P5 h (by decide)
variable{X:Cx}
theorem pv(i:Nat)(b:X.N[i]?=My x:=by rfl)(c:ZQ X.env.scope x:=by first|exact RM rfl|exact Ts (RM rfl)|exact Ts (Ts rfl))(w:(x==("__debug__":PZ))=OQ:=by decide)
  (a:(x==("__classdict__":PZ))=OQ:=by decide):PE X (.Name x d) (jh i):=Ll b c w a
theorem iteT{A B:Prop}(h:A):if OL=OL then A else B:=by
 rw[OZ rfl];exact h
theorem ite2{c A B:Prop} [Decidable c](a:c->A)(b:¬c->B):if c then A else B:=by
 by_cases h:c
 .rw[OZ h]
  exact a h
 .rw[OY h]
  exact b h
def bM(H a:Hp):Prop:=∀b o,H b=My o->a b=My o
theorem bM.refl(H:Hp):bM H H:=λ_ _ h=>h
theorem bM.trans(a:bM H H1)(b:bM H1 H2):bM H H2:=λc o h=>b c o (a c o h)
theorem bM.free(e:bM H H')(h:H' l=Option.none):H l=Option.none:=by
 cases q:H l with
 |none=>rfl
 |some o=>
  rw[e l o q]at h;cases h
theorem c5:∀(b:a0M) (n:Nat) (acc:a0n),Rc n b acc=Rc n b []++acc
 |[],_,_=>rfl
 |(x,k)::r,n,acc=>by
  unfold Rc;split
  .rw[c5 r (n+1) ((x,n)::acc),c5 r (n+1) [(x,n)],O3]
   rfl
  .exact c5 r n acc
theorem gY:∀{b:a0M} {n:Nat} {x:PZ} {c:OM},(x,c)∈Rc n b []->(x,WT)∈b
 |[],_,_,_,h=>by cases h
 |(y,k)::r,n,x,c,h=>by
  unfold Rc at h;split at h
  .rename_i a
   rw[c5]at h;rcases PD.mp h with h|h
   .exact OO _ (gY h)
   .obtain⟨rfl,_⟩:x=y/\c=n:=by simpa using h
    obtain rfl:k= .cell:=by simpa using a
    exact OU
  .exact OO _ (gY h)
noncomputable def cW(cells:a0n):a0M->a0n->a0n
 |[],acc=>acc
 |(x,k)::r,acc=>if k== .free then cW cells r ((x,(cells.lookup x).getD 0)::acc)else cW cells r acc
theorem la{cells:a0n}:∀{b:a0M} {acc:a0n} {x:PZ} {c:OM},(x,c)∈cW cells b acc->(x,c)∈acc\/((x,Sa)∈b/\c=(cells.lookup x).getD 0)
 |[],_,_,_,h=> .inl h
 |(y,k)::r,acc,x,c,h=>by
  unfold cW at h;split at h
  .rename_i a
   obtain rfl:k= .free:=by simpa using a
   rcases la h with h|⟨h,e⟩
   .rcases O6.mp h with h|h
    .cases h
     exact .inr ⟨OU,rfl⟩
    .exact .inl h
   .exact .inr ⟨OO _ h,e⟩
  .rcases la h with h|⟨h,e⟩
   .exact .inl h
   .exact .inr ⟨OO _ h,e⟩
theorem nK:∀{b:a0M} {w:a0n} {p:PZ×OM},p∈w->p∈cW cells b w
 |[],_,_,h=>h
 |(y,k)::r,w,p,h=>by
  unfold cW;split
  .exact nK (OO _ h)
  .exact nK h
theorem nJ{cells:a0n}:∀{b:a0M} {acc:a0n} {x:PZ},(x,Sa)∈b->(x,(cells.lookup x).getD 0)∈cW cells b acc
 |[],_,_,h=>by cases h
 |(y,k)::r,acc,x,h=>by
  unfold cW;rcases O6.mp h with h|h
  .cases h
   rw[OZ (by decide)];exact nK OU
  .split
   .exact nJ h
   .exact nJ h
theorem kt{b:Type}:∀{l:List (PZ×b)} {x:PZ} {c:b},(x,c)∈l->∃d,l.lookup x=My d
 |[],_,_,h=>by cases h
 |(y,d)::r,x,c,h=>by
  rw[Vv];cases a:x==y with
  |true=>exact⟨d,rfl⟩
  |false=>
   rcases O6.mp h with h|h
   .cases h
    simp at a
   .exact kt h
theorem cU{w:Type}:∀{l:List (PZ×w)} {x:PZ} {c:w},(l.map (·.1)).Nodup->(x,c)∈l->l.lookup x=My c
 |[],_,_,_,h=>by cases h
 |(y,d)::r,x,c,nd,h=>by
  rw[Pc]at nd;obtain⟨a,b⟩:=Qn.mp nd;rw[Vv];rcases O6.mp h with h|h
  .cases h
   simp
  .have:x≠y:=λe=>a (e▸List.mem_map_of_mem (f:=(·.1)) h)
   rw[beq_eq_false_iff_ne.mpr this];exact cU b h
theorem qj{env:WL}(f:PZ×Tk->a0n->X0 (ForInStep a0n))
  (g:∀D E K,f (D,E) K=if E== .free then(do let a <-cellOf env D;Ry (.yield ((D,a)::K)))else Ry (.yield K)):
  ∀(w:a0M) (G:a0n),(∀y∈w,y.2= .free->∃c,env.cells.lookup y.1=My c)->X7 w G f=Ry (cW env.cells w G)
 |[],_,_=>by rw[SY];rfl
 |(x,k)::r,G,h=>by
  rw[SR,g];unfold cW;have i:∀y∈r,y.2= .free->∃c,env.cells.lookup y.1=My c:=λy M=>h y (OO _ M);by_cases b:(k==Sa)=OL
  .rw[OZ b,OZ b]
   obtain⟨c,j⟩:=h (x,k) OU (by simpa using b);have d:env.cells.lookup x=My c:=j;have e:cellOf env x=Ry c:=by unfold cellOf;rw[d]
   rw[e,d];simp only[pure_bind];exact qj f g r _ i
  .rw[OY b,OY b]
   simp only[pure_bind];exact qj f g r _ i
theorem xX{b:Scope}{env:WL}(h:∀y∈b.names,y.2= .free->∃c,env.cells.lookup y.1=My c):closureFor b env=Ry (cW env.cells b.names []):=by
 simp only[closureFor];rw[qj (env:=env) _ (λD w E=>by cases a:w==Sa<;>simp[a]) b.names [] h]
 rfl
theorem EO{M:Ww}{E:a0d}{s:OV}{w:Scope}
  (f:∀G:Qt,G.Ns s.heap.objs.size (λ_=>OI)->(∀b o,s.heap.get? b=My o->G.get? b=My o)->
   (∀n c,(n,c)∈Rc (s.heap.objs.size+1) w.names []->G.IsCell c OI/\s.heap.objs.size+1<=c)->
   ((Rc (s.heap.objs.size+1) w.names []).Pairwise λx y=>x.2≠y.2)->
   Q (newEnv w s.heap.objs.size globals (Rc (s.heap.objs.size+1) w.names cl) g OI .none (My h) X3) {s with heap:=G}):
  O8 M A (Yc w globals cl [] g OI .none (My h)) Q E s:=by
 simp only[Yc,Option.isSome_some,Qq];refine OG (wpAny_alloc ?_);refine OG (wpAny_layCells _ (λS D K=>by cases a:D==WT<;>simp[a]) _ _ _ _ ?_)
 have P:=cellsFrom_ok w.names (s.heap.push {cls:= .type "dict",data:= .dict #[]}) (s.heap.objs.size+1) [] ⟨λ_ _ V=>(nomatch V),Uv⟩ (by rw[Q1];exact OW _);rw[Q1]at P;rw[show({s with heap:=s.heap.push {cls:= .type "dict",data:= .dict #[]}}:OV).heap.objs.size=s.heap.objs.size+1 from Q1 ..];have d:=f (pushCells (s.heap.push {cls:= .type "dict",data:= .dict #[]}) w.names) ((Heap.Ns.new s.heap (.type "dict")).keeps (pushCells_keeps _ _)) (λb o e=>pushCells_keeps _ _ b o (OK _ e)) P.empty P.apart;exact OG (OJ (OJ d))
noncomputable abbrev aE(X:Cx)(a:a0i)(w:Scope)(D:a0n)(C:OM)(b:a0q)(s:OV)(H:Hp):Cx:=
 {X with N:=a,s₀:=s,H₀:=H,env:=compEnvC w D C X.env,outer:=X.stack,stack:=X.stack,ex:=b,fn:=λx=>w.names.lookup x !=My .free,pn:=[],xe:=λ_ _=>False}
theorem hW{b:Scope}{y:PZ×Tk}(h:y∈(relabel b c).names):y∈b.names\/(y.2= .cell/\(y.1,Sa)∈b.names):=by
 obtain⟨⟨n,k⟩,w,e⟩:=OR.mp h
 dsimp only at e
 split at e
 .rename_i a
  cases e;simp only[PP,Tl]at a;obtain⟨⟨a,_⟩,_⟩:=a;subst a;exact .inr ⟨rfl,w⟩
 .cases e
  exact .inl w
theorem EB{X:Cx}{R:St}{s:OV}{Nc G:a0i}{K:a0a}{w:Scope}{h':Qt}(I:b_ X a_ R H s)
  (hk:w.kind= .function) (g:(w.names.map (·.1)).Nodup) (f:∀y∈w.names,y.2= .free->X.env.kindOf y.1=My .cell\/X.env.kindOf y.1=My .free)
  (T:Nc=G++K.map (λj=>X.N.getD j Tj)) (U:∀j∈K,j<X.N.length/\w.names.lookup (X.N.getD j Tj)=My .free)
  (F:∀b∈fp,fc X a_ H b) (W:∀b∈fp,∃o,s.heap.get? b=My o) (ns:h'.Ns s.heap.objs.size λ_=>OI) (D:∀b o,s.heap.get? b=My o->h'.get? b=My o)
  (O:∀n c,(n,c)∈Rc (s.heap.objs.size+1) w.names []->h'.IsCell c OI/\s.heap.objs.size+1<=c) (ca:(Rc (s.heap.objs.size+1) w.names []).Pairwise λx y=>x.2≠y.2):
  b_ (aE X Nc w (Rc (s.heap.objs.size+1) w.names (cW X.env.cells w.names [])) s.heap.objs.size fp s H) [] (Pr G.length OI++K.map (λj=>R.getD j OI)) H {s with heap:=h'}:=by
 --the cells
 have aa:∀{x:PZ} {c:OM},(x,c)∈cW X.env.cells w.names []->X.env.cells.lookup x=My c/\(x,Sa)∈w.names:=λ{x c} h=>by
  rcases la h with h|⟨hm,e⟩
  .cases h
  .obtain⟨d,hd⟩:=I.ok.has x (f _ hm rfl)
   rw[hd]at e;exact⟨by rw[hd,e];rfl,hm⟩
 have a:∀{x:PZ} {c:OM},(Rc (s.heap.objs.size+1) w.names (cW X.env.cells w.names [])).lookup x=My c->
   (x,c)∈Rc (s.heap.objs.size+1) w.names []\/(X.env.cells.lookup x=My c/\(x,Sa)∈w.names):=λ{x c} h=>by
  have h:=QN h;rw[c5]at h;rcases PD.mp h with h|h
  .exact .inl h
  .exact .inr (aa h)
 have E:∀{x:PZ},(x,Sa)∈w.names->∃c,X.env.cells.lookup x=My c/\(Rc (s.heap.objs.size+1) w.names (cW X.env.cells w.names [])).lookup x=My c:=λ{x} hm=>by
  obtain⟨d,hd⟩:=I.ok.has x (f _ hm rfl);have e:=nJ (cells:=X.env.cells) (acc:=[]) hm;obtain⟨c,Q⟩:=kt (l:=Rc (s.heap.objs.size+1) w.names (cW X.env.cells w.names [])) (x:=x) (c:=(X.env.cells.lookup x).getD 0) (by rw[c5];exact Qe _ e);rcases a Q with z|⟨z,_⟩
  .have B:=cU g (gY z)
   rw[cU g hm]at B;cases B
  .exact⟨c,z,Q⟩
 have k:∀{x:PZ} {c:OM},X.env.cells.lookup x=My c->c<s.heap.objs.size:=λ{x c} h=>let ⟨v,q⟩:=I.cell x c h;q.lt
 have M:H s.heap.objs.size=OI:=I.hok.fresh (OW _);have Y:∀b∈f0 X.stack,b∈X.env.locals::X.fs:=I.stkSub;refine⟨⟨I.ok.mod,hk,I.ok.glob,I.ok.blt,OW _,λx y c h1 h2=>?_,λx hx=>?_,λx c hf h=>?_,I.ok.hd,I.ok.frames,.inl rfl,λb J=>⟨?_,λx c h e=>?_⟩,I.bs,Pj I.ok.bsz I.sz,λb o e J=>?_,λb J hf=>?_,I.stack,I.stkFree⟩,
  rfl,I.bare,Un.kept D,⟨_,ns,λi x v e1 A e3=>?_⟩,λx c h=>?_,M,λx c h=>?_,λp hp=>Pp hp (by simp),I.hok.kept D,?_⟩
 .rcases a h1 with B|⟨B,_⟩<;>rcases a h2 with Z|⟨Z,_⟩
  .exact name_of_addr ca B Z
  .exact Pp (Pm (k Z) (Pj (Vo _) (O _ _ B).2)) (Qg _)
  .exact Pp (Pm (k B) (Pj (Vo _) (O _ _ Z).2)) (Qg _)
  .exact I.ok.inj _ _ _ B Z
 .--has
  have hx:(relabel w X.env).names.lookup x=My .cell\/(relabel w X.env).names.lookup x=My .free:=hx;have hm:(x,WT)∈w.names\/(x,Sa)∈w.names:=by
   rcases hx with hx|hx
   .rcases hW (QN hx)with z|⟨_,z⟩
    .exact .inl z
    .exact .inr z
   .rcases hW (QN hx)with z|⟨_,z⟩
    .exact .inr z
    .exact .inr z
  rcases hm with hm|hm
  .have q:=X4 w.names (s.heap.objs.size+1) (cW X.env.cells w.names []) (x:=x) (.inl (cU g hm))
   exact Xc.mp q
  .obtain⟨c,_,Q⟩:=E hm
   exact⟨c,Q⟩
 .--cab
  rcases a h with z|⟨_,z⟩
  .exact Pj (Vo _) (O _ _ z).2
  .have z':(w.names.lookup x !=My .free)=OL:=hf
   rw[cU g z]at z';exact Pp z' (by decide)
 .obtain⟨o,e⟩:=W b J
  exact Qc (Pq e)
 .rcases a h with z|⟨z,_⟩
  .obtain⟨o,e'⟩:=W b J
   subst e;exact Pp (Pm (Pq e') (Pj (Vo _) (O _ _ z).2)) (Qg _)
  .exact(F b J).2.2.2.2.1 x c z e
 .obtain⟨_,_,_,h4,_⟩:=F b J
  rcases h4 with z|z
  .exact I.ok.noex b o e z
  .exact Pp (Pm (Pq (I.ok.bs b o e).1) z) (Qg _)
 .obtain⟨_,h2,h3,_⟩:=F b J
  rcases O6.mp (Y b hf)with z|z
  .exact h2 z
  .exact h3 z
 .--the names' values
  have hi:¬i<G.length:=λhi=>by
   rw[Rw (by simpa using hi),Sx]at A;split at A<;>cases A
  have L:(G++K.map (λj=>X.N.getD j Tj))[i]?=My x:=by rw[<-T];exact e1
  rw[Qw (Nat.not_lt.mp ‹_›)]at L;rw[Qw (by simpa using hi)]at A;rw[Rz]at A;cases q:K[i-G.length]? with
  |none=>rw[OS,q]at A;cases A
  |some j=>
   rw[OS,q]at L A;have C:X.N.getD j Tj=x:=PH L;have P:R.getD j OI=My v:=PH A;obtain⟨hj,t⟩:=U j (Pd q);rw[C]at t;obtain⟨c,Q,ab⟩:=E (QN t);have ac:X.N[j]?=My x:=by
    rw[<-C,O5,ON hj];rfl
   have S:R[j]?=My (My v):=by
    have hl:j<R.length:=by rw[I.len];exact hj
    rw[O5,ON hl]at P;rw[ON hl];exact Qb My P
   have V:=f _ (QN t) rfl;obtain⟨m,hn,hl⟩:=I.loc;obtain⟨u,r,l⟩:=hl j x v ac S (V.elim (λz=> .inr (.inl z)) λz=> .inr (.inr z));refine⟨u,r,.inr ⟨?_,c,ab,?_⟩⟩
   .rcases e3 with z|z|z
    .exfalso
     rcases hW (QN z)with y|⟨y,_⟩
     .rw[cU g y]at t;cases t
     .cases y
    .exact .inl z
    .exact .inr z
   .rcases l with⟨l,_⟩|⟨_,c',e,z⟩
    .exfalso
     rcases V with y|y
     .have y':X.env.kindOf x=My .cell:=y
      rw[l]at y';cases y'
     .have y':X.env.kindOf x=My .free:=y
      rw[l]at y';cases y'
    .rw[Q]at e
     cases e;exact z.keeps D
 .rcases a h with z|⟨z,_⟩
  .exact⟨OI,(O _ _ z).1⟩
  .obtain⟨v,q⟩:=I.cell x c z
   exact⟨v,q.keeps D⟩
 .rcases a h with z|⟨z,_⟩
  .exact I.hok.fresh (Pj (Vo _) (O _ _ z).2)
  .exact I.freeC x c z
 .show _=Nc.length
  rw[T,O1,O1,Rz,OH,OH]
abbrev TB:=St->Hp->(St->Hp->Prop)->Prop
abbrev a0Y:=OM->TB
inductive Wi where
 |L (e:Expr)|S (e:Expr)|D (k v:Expr)
instance:Coe Expr Wi:=⟨.L⟩
noncomputable def oD(c:Wi)(gens:a0P)(b:Scope)(w:Ub):Expr:=match c with
 | .L e=> .ListComp e gens b w
 | .S e=> .SetComp e gens b w
 | .D k v=> .DictComp k v gens b w
noncomputable def emC(c:Wi)(w:OP)(b:WL):X0 Unit:=match c with
 | .L e=>do let _ <-Wq (.builtin "list.append") [w,<-Qu e b]
 | .S e=>do let v <-Qu e b;Us e.pos;let _ <-Wq (.builtin "set.add") [w,v]
 | .D k v=>do
   let kv <-Qu k b
   let vv <-Vk [kv] (Qu v b)
   match w with
   | .ref d=>do
    Us {k.pos with endLine:=v.pos.endLine,endCol:=v.pos.endCol}
    Vk [kv,vv] (dictSet d kv vv)
   |_=>unsupported "internal:dictcomp"
noncomputable def gN(c:Wi)(w:a0P)(D:Scope)(K:Ub)(d:Nat)(G:OP)(b:WL)(k:X0 VV):X0 VV:=
 match w[d+1]? with
 |some E=>do
  let x <-Qu E.iter b
  Us E.iter.pos
  let x <-if E.is_async !=0 then foldedIterable E.iter x else Qh E.iter b x
  let _ <-runOwn (.compStart (oD c w D K) (d+1) (<-Vk [x] (if E.is_async !=0 then asyncIter x else VZ x)) G b) b
  k
 |none=>do
  emC c G b
  k
theorem uQ{a b:Expr}(e:f[d]?=My ⟨a,b,l,0⟩):
  compTurn (oD c f g i) d k j h=(do
   Us b.pos
   match <-S7 k with
   |none=>Ry (.done .next)
   |some v=>
    U9 a k v
    U6 a h v
    let mut ok:=OL
    for y in l do
     if ok then ok <-isTrue y h (Qu y h)
    if ok then gN c f g i d j h (Wz (.compLoop (oD c f g i) d k j h))
    else Wz (.compLoop (oD c f g i) d k j h)):=by
 cases c<;>(
  unfold compTurn gN oD emC
  dsimp only
  rw[e]
  dsimp only
  cases f[d+1]?<;>rfl)
variable{O:PM}{A:P7}{R:Result->OV->Prop}{s:OV}
theorem DJ(C:J[d]?=My ⟨bc,U,T,0⟩)(I:Nat->OV->Prop)
  (p:∀n s,I n s->O8 (Px O w) A (S7 Q) (λr a=>match r with
   |none=>R (.ok .next) a
   |some v=>O8 (Px O w) A (U9 bc Q v) (λ_ b=>O8 (Px O w) A (U6 bc F v) (λ_ j=>
    O8 (Px O w) A (X7 T OL λy r=>if r=OL then do let G <-isTrue y F (Qu y F);Ry (Uc G)else Ry (Uc r)) (λG g=>
     if G=OL then ∀(k:X0 VV) (u:VV->OV->Prop) (B:a0d),(∀i m,m<n->I m i->O8 (Px O w) A k u B i)->O8 (Px O w) A (gN c J H L d N F k) u B g
     else ∃m,m<n/\I m g) (λ_ _=>False) j) (λ_ _=>False) b) (λ_ _=>False) a) (λ_ _=>False) s)
  (n:Nat) (h:I n s):
  T3 (Px O w) A (.compLoop (oD c J H L) d Q N F) R s:=by
 refine codeAny_loop rfl I (λn s hI=>?_) n h
 suffices z:O8 (Px O w) A ((compTurn (oD c J H L) d Q N F).onRaise (λx=>do noteFrame x F;theTreesLotGoes x)) (λt K=>match t with
   |Fin.done f=>R (Ra f) K
   |Fin.again c'=>c'=Code.compLoop (oD c J H L) d Q N F/\∃m,m<n/\I m K) (λe K=>R (Except.error e) K) s by cases c<;>exact z
 refine wpAny_noted ?_;rw[uQ C];refine OG (RN (OG (Qk (p n s hI) (λr a D=>?_) λ_ _ E=>E.elim)));cases r with
 |none=>exact OJ D
 |some v=>
  refine OG (Qk D (λ_ b o=>?_) λ_ _ E=>E.elim);refine OG (Qk o (λ_ j q=>OG (Qk q (λG g l=>?_) λ_ _ E=>E.elim)) λ_ _ E=>E.elim);cases G with
  |false=>exact OJ ⟨rfl,l⟩
  |true=>exact l _ _ _ λi m M hI=>OJ ⟨rfl,m,M,hI⟩
theorem yE(j:l[d]?=My ⟨bc,o,q,0⟩)
  (i:T3 (Px O w) A (.compLoop (oD c l k m) d r p n) R s)
  (h:O8 (Px O w) A (VZ r) (λa D=>T3 (Px O w) A (.compLoop (oD c l k m) d a p n) R D) (λ_ _=>False) s):
  T3 (Px O w) A (.compStart (oD c l k m) d r p n) R s:=by
 refine codeAny_of_tree ?_
 suffices z:O8 (Px O w) A ((compStart (oD c l k m) d r p n).onRaise (λx=>do noteFrame x n;Us theWindowsPlace)) (λg D=>match g with
   |Fin.done f=>R (Ra f) D
   |Fin.again c'=>c'.quiet=OL/\T3 (Px O w) A c' R D) (λe D=>R (Except.error e) D) s by cases c<;>exact z
 refine wpAny_notedAt ?_;unfold compStart;have b:(clausesOf (oD c l k m))[d]?=My ⟨bc,o,q,0⟩:=by cases c<;>exact j
 generalize (clausesOf (oD c l k m))[d]?=og at b⊢;subst b;show O8 _ _ (ask>>=_) _ _ s;refine OG (UL (wpAny_ite ?_));split
 .first
   |exact OG (OJ (OJ (XF rfl i)))
   |exact OJ (XF rfl i)
 .first
   |exact OG (Ro (OG (RN (OG (Qk h (λa D E=>OJ (XF rfl E)) λ_ _ x=>x.elim)))))
   |(refine OG (Ro ?_);show O8 _ _ (Us o.pos>>=_) _ _ s;exact OG (RN (OG (Qk h (λa D E=>OJ (XF rfl E)) λ_ _ x=>x.elim))))
def dJ(X:Cx)(b:List Expr)(t:TT):Prop:=
 ∀(a:a0c) (s:OV) (d:St) (H:Hp) (Q:a0V),b_ X a d H s->t d H Q->
  O8 (Px X.prog X.w) X.A (X7 b OL λc r=>if r=OL then do let ok <-isTrue c X.env (Qu c X.env);Ry (Uc ok)else Ry (Uc r)) (TP X a d Q) X.xe s
noncomputable def KJ:TT:=λ_ H Q=>Q OL H
theorem tJ{X:Cx}:dJ X [] KJ:=λ_ _ _ H _ I h=>OJ ⟨H,I,h⟩
theorem CN{X:Cx}(d:PT X c t):dJ X [c] t:=λa s e H Q I h=>by
 simp only[SR,SY,Qq];exact OG (OG (Qk (d a s e H Q I h) (λb w f=>OJ (OJ f)) λ_ _ x=>x))
def PB(X:Cx)(c:Wi)(gens:a0P)(E:Scope)(G:Ub)(d:Nat)(D:OM)(t:TB):Prop:=
 ∀(a:a0c) (s:OV) (e:St) (H:Hp) (Q:a0F),b_ X a e H s->t e H Q->
  ∀(k:X0 VV) (f:VV->OV->Prop) (g:a0d),(∀K b h,b_ X a b h K->Q b h->O8 (Px X.prog X.w) X.A k f g K)->O8 (Px X.prog X.w) X.A (gN c gens E G d (.ref D) X.env k) f g s
def cV(J:It)(g:TG)(s:TT)(j:TB):TB:=λc H Q=>∃W:Nat->Nat->St->Hp->Prop,(∃m,W 0 m c H)/\∀i m c H,W i m c H->
 (J.stop i H/\Q c H)\/(J.go i H/\∃N:St->Hp->Prop,(∀d e,N d e->∃f,f<m/\W (i+1) f d e)/\∀x e,J.yld i H x e->g x c e λa k=>s a k λb h=>if b=OL then j a h N else N a h)
def x5(D:OM)(c:TE):TB:=λa H Q=>c a H λv b=>∃s,b D=My (.lst s)/\s.length<Pk/\Q a (upd b D (.lst (s++[v])))
def x4(b:TI)(lp:It->TB):TB:=λa H Q=>b a H λJ c=>lp J a c Q
variable{c:Wi}{ac bc P:Expr}{ab:List Expr}{gens:a0P}{scope:Scope}{aa:Ub}{d:Nat}{D:OM}
theorem qV(hg:gens[d]?=My ⟨bc,P,ab,0⟩)(hc:X.calm=OL)(F:X.xe=λ_ _=>False)(R:PG X bc g)(S:dJ X ab tt)(j:PB X c gens scope aa d D tb)
  {s:OV}
  (I:b_ X a_ σ H s) (T:mX X.prog X.w X.K bc J fp it tn) (st:tn 0 s.heap) (hf:∀b∈fp,fc X a_ H b) (h:cV J g tt tb σ H Q):
  T3 (Px X.prog X.w) X.A (.compStart (oD c gens scope aa) d (.ref it) (.ref D) X.env) (λr E=>r= .ok .next/\∃a f,b_ X a_ a f E/\Q a f) s:=by
 obtain⟨W,⟨m0,w0⟩,L⟩:=h;have l:∀{f:Hp},(∀b∈fp,f b=OI)->∀b∈fp,fc X a_ f b:=λhn b j=>⟨hn b j,(hf b j).2⟩;have t:T3 (Px X.prog X.w) X.A (.compLoop (oD c gens scope aa) d (.ref it) (.ref D) X.env) (λr E=>r= .ok .next/\∃a f,b_ X a_ a f E/\Q a f) s:=by
  refine DJ hg (λn E=>∃i a f,b_ X a_ a f E/\tn i E.heap/\(∀b∈fp,f b=OI)/\W i n a f) ?_ m0 ⟨0,σ,H,I,st,λb j=>(hf b j).1,w0⟩;rintro n s3 ⟨i,p,Z,I3,O,U,w3⟩;rcases L i n p Z w3 with⟨G,qn⟩|⟨go,N,hN,step⟩
  .refine d5 (T.done X rfl rfl rfl hc i a_ s3 p Z _ I3 (l U) O G) λr s4 ⟨V,I4⟩=>?_
   subst V;exact⟨rfl,p,Z,I4,qn⟩
  .refine d5 (T.item X rfl rfl rfl hc i a_ s3 p Z _ I3 (l U) O go) λr s4 ⟨u,V,h4⟩=>?_
   subst V;refine d5 h4 λ_ s5 ⟨x,H5,I5,r5,y5,v,ac⟩=>?_;have ad:=I5.pinned (l ac) (T.obj _ _ v);have Wz:∀{q:St} {y:Hp} {B:OV},b_ X (a_++kW fp s5.heap) q y B->N q y->∃m,m<n/\∃i a f,b_ X a_ a f B/\tn i B.heap/\(∀b∈fp,f b=OI)/\W i m a f:=λ{q y B} C n7=>by
    obtain⟨m',hm,w7⟩:=hN q y n7;refine⟨m',hm,i+1,q,y,C.unpinned,T.keep _ _ _ v λb j o e=>(C.pin (b,o) (Qe _ (Qe _ (hZ j e)))).1,λb j=>?_,w7⟩;obtain⟨o,e,d⟩:=T.obj _ _ v b j;exact(C.pin (b,o) (Qe _ (Qe _ (hZ j e)))).2.1
   have h6:=R _ s5 p H5 x u _ ad r5 (step x H5 y5);rw[F]at h6;refine d5 h6 λ_ s6 ⟨Y,H6,I6,q6⟩=>?_;have h7:=S _ s6 Y H6 _ I6 q6;rw[F]at h7;refine d5 h7 λb B ⟨y,C,M⟩=>?_;cases b with
   |true=>
    rw[OZ rfl]at M⊢;intro k Q' E' hk;refine j _ B Y y N C M k Q' E' λs8 ae H8 I8 n8=>?_;obtain⟨m,hm,z⟩:=Wz I8 n8;exact hk s8 m hm z
   |false=>
    rw[OY O4]at M⊢;exact Wz C M
 exact yE hg t (T.self X.A 0 s _ _ st t)
theorem aO(m:gens[d+1]?=OI)(o:PE X ac x)(b:X.xe=λ_ _=>False):PB X ac gens scope aa d D (x5 D x):=by
 intro a s g H Q I h k y B p;unfold gN;rw[m];show O8 _ _ ((do let _ <-Wq (.builtin "list.append") [.ref D,<-Qu ac X.env])>>=λ_=>k) _ _ _
 have i:=o a s g H _ I h;rw[b]at i;refine OG (OG (Qk i (λu C ⟨v,J,j,r,w,l,L,q⟩=>?_) λ_ _ f=>f.elim));obtain⟨z,c,n,t,N,e⟩:=j.lstM l;refine OG (WG F.slot_list_append ⟨_,e,rfl⟩ F.entry_list_append (Zh _ _) (Y3 D c.toArray n u (by rw[Pg];lia)) ⟨e,?_⟩);refine OJ (p _ g _ (j.lset (its':=c++[u]) l e (by simp) (t.append (.cons r .nil)) ?_) q);rw[O1,Qs];lia
theorem pT(o:gens[d+1]?=My ⟨target',iter',ifs',0⟩)(p:X.calm=OL)(a:X.xe=λ_ _=>False)(t:PI X target' iter' wi)
  (j:PG X target' g) (l:dJ X ifs' tt) (u:PB X c gens scope aa (d+1) D tb) (w:∀x,Qh iter' X.env x=Ry x:=by intro _;rfl):PB X c gens scope aa d D (x4 wi λJ=>cV J g tt tb):=by
 intro b s y H Q I h k Y Z B;unfold gN;rw[o];have i:=t b s y H _ I h;rw[a]at i;refine OG (Qk i (λv E i=>OG (RN ?_)) λ_ _ f=>f.elim);show O8 _ _ (Qh iter' X.env v>>=_) _ _ _;refine OG (SU (w v) ?_);show O8 _ _ (Vk [v] (VZ v)>>=_) _ _ _;refine OG (QG (Qk i (λC G F=>?_) λ_ _ f=>f.elim));obtain⟨K,M,P,J,R,e,L,T,m,f2,q⟩:=F;subst e;refine OG (wpAny_runOwn (Uq (qV o p a j l u L T m f2 q) λr A ⟨N,z⟩=>?_));subst N;obtain⟨n,O,U,W⟩:=z;exact B A n O U W
noncomputable def jH(b:a0i)(c:a0a)(a:St):St:=Pr b.length OI++c.map (λj=>a.getD j OI)
def Mks(X:Cx)(mk:X0 OP)(g:OM->HO):Prop:=∀(a:a0c) (s:OV) (f:St) (H:Hp) (E:a0d) (Q:a0d),b_ X a f H s->
 (∀e:OV,b_ X a f (upd H s.heap.objs.size (g s.heap.objs.size)) e->(∀b o,s.heap.get? b=My o->e.heap.get? b=My o)->Q (.ref s.heap.objs.size) e)->O8 (Px X.prog X.w) X.A mk Q E s
theorem tX{X:Cx}:Mks X (newList []) λ_=> .lst []:=λa s f H E Q I h=>Qi (h _ (I.lnew (t':=s.toks) .nil (Ql _)) λb o e=>OK _ e)
def n6(c:a0i)(d:a0a)(e:TI)(lp:OM->It->TB):TE:=λa H Q=>e a H λJ b=>∀D,b D=OI->lp D J (jH c d a) (upd b D (.lst [])) λ_ f=>Q (.ref D) f
structure cy (X:Cx) (scope:Scope) (Nc cx:a0i) (bt:a0a):Prop where
 kind:scope.kind= .function
 nd:(scope.names.map (·.1)).Nodup
 free:∀y∈scope.names,y.2= .free->X.env.kindOf y.1=My .cell\/X.env.kindOf y.1=My .free
 names:Nc=cx++bt.map (λj=>X.N.getD j Tj)
 cap:∀j∈bt,j<X.N.length/\scope.names.lookup (X.N.getD j Tj)=My .free
variable{R:a0P}{Nc cx:a0i}{bt:a0a}{g:TG}{tt:TT}{tb:a0Y}{wi:TI}
def Ny(X:Cx)(a:a0c)(H:Hp)(C:OM):Prop:=H C=OI/\C≠X.env.locals/\X.s₀.heap.objs.size<=C/\(∀x c,X.env.cells.lookup x=My c->c≠C)/\∀p∈X.pn++a,p.1≠C
theorem gM{c:Wi}{mk:X0 OP}{B:OM->HO}(O:Mks X mk B){f:a0c}{F:St}{H:Hp}{s:OV}{it:OM}{h:a0q}{Q:Nat->Qt->Prop}{J:It}{E:a0d}{QQ:OM->Hp->Prop}{RR:OP->OM->Result->OV->Prop}
  (hc:X.calm=OL) (S:cy X scope Nc cx bt)
  (L:∀(cl:a0n) (C:OM) (h:a0q) (s:OV) (H:Hp),PG (aE X Nc scope cl C h s H) bc g/\dJ (aE X Nc scope cl C h s H) ab tt/\∀D,PB (aE X Nc scope cl C h s H) c (⟨bc,P,ab,0⟩::R) scope aa 0 D (tb D))
  (I:b_ X f F H s) (T:mX X.prog X.w X.K bc J h it Q) (st:Q 0 s.heap) (U:∀b∈h,fc X f H b)
  (q:∀D,H D=OI->cV J g tt (tb D) (jH cx bt F) (upd H D (B D)) λ_ k=>QQ D k)
  (W:∀(D C:OM) (M:OV) (k:Hp) (m:a0j),b_ X f F k M->M.heap.Ns C m->Ny X f k C->QQ D k->RR (.ref D) C (.ok .next) M):
  O8 (Px X.prog X.w) X.A mk (λV t=>O8 (Px X.prog X.w) X.A (Yc scope X.env.globals (cW X.env.cells scope.names []) [] X.env.qual OI .none (My X.env)) (λj u=>
   T3 (Px X.prog X.w) X.A (.compStart (oD c (⟨bc,P,ab,0⟩::R) scope aa) 0 (.ref it) V {j with scope:=relabel scope X.env}) (RR V j.locals) u) E t) E s:=by
 refine O f s F H _ _ I λi l y=>?_;have hD:H s.heap.objs.size=OI:=I.fresh;have q3:=q s.heap.objs.size hD;have Y:∀b∈h,∃o,i.heap.get? b=My o:=λb L=>let ⟨o,e,_⟩:=T.obj _ _ st b L;⟨o,y b o e⟩
 have Z:∀b∈h,fc X f (upd H s.heap.objs.size (B s.heap.objs.size)) b:=λb a=>⟨by
  rw[bb]
  .exact(U b a).1
  .obtain⟨o,e,_⟩:=T.obj _ _ st b a
   exact Qc (Pq e),(U b a).2⟩
 generalize ac:upd H s.heap.objs.size (B s.heap.objs.size)=H3 at l q3 Z;generalize s.heap.objs.size=D at hD ac q3⊢;refine EO λh' ns G ce ca=>?_;have N:=EB l S.kind S.nd S.free S.names S.cap Z Y ns G ce ca;obtain⟨b1,b2,b3⟩:=L (Rc (i.heap.objs.size+1) scope.names (cW X.env.cells scope.names [])) i.heap.objs.size h i H3;have ad:Q 0 h':=T.keep _ _ _ st λb L o e=>G b o (y b o e);have f4:∀b∈h,fc (aE X Nc scope (Rc (i.heap.objs.size+1) scope.names (cW X.env.cells scope.names [])) i.heap.objs.size h i H3) [] H3 b:=λb a=>
  ⟨(Z b a).1,(N.ok.exf b a).1,N.ok.exfs b a,.inl a,(N.ok.exf b a).2,λp hp=>Pp hp (by simp)⟩
 refine Uq (qV (X:=aE X Nc scope (Rc (i.heap.objs.size+1) scope.names (cW X.env.cells scope.names [])) i.heap.objs.size h i H3) (gens:=⟨bc,P,ab,0⟩::R) (d:=0) rfl hc rfl b1 b2 (b3 D) N T ad f4 q3) λr M ⟨hr,ae,k,n,q'⟩=>?_;subst hr;obtain⟨m,hm,_⟩:=n.loc;have C1:X.env.locals<i.heap.objs.size:=l.lt;refine W D _ M k m (l.call' (ch:=h) n.os n.base n.hok n.bare λb a=>?_) hm ⟨n.free,RK C1,l.sz,λx c e z=>?_,λp hp z=>?_⟩ q'
 .obtain⟨_,h2,h3,h4,h5,h6⟩:=U b a
  exact⟨h4,h2,h5,h6⟩
 .obtain⟨v,e'⟩:=l.cell x c e
  exact Pp (z▸e'.lt) (Qg _)
 .have:=Pq (l.pin p hp).1
  rw[z]at this;exact Pp this (Qg _)
theorem b_.letgo{s:OV}(I:b_ X h i H s)(o:Ny X h H C)(c:PQ C s.heap j):b_ X h i H {s with heap:=j}:=
 I.turned (t':=s.toks) (λb f a e=>(c.2 b a).trans e) o.1 (Ne.symm (Ne.symm o.2.1)) (.inr o.2.2.1) o.2.2.2.1 o.2.2.2.2
theorem cy.clo(S:cy X scope Nc cx bt)(b:X.Ok):closureFor scope X.env=Ry (cW X.env.cells scope.names []):=xX λy c a=>b.has y.1 (S.free y c a)
theorem cy.loc(S:cy X scope Nc cx bt):∀x∈scope.names,x.2= .local->scope.names.lookup x.1=My .local:=λx b a=>cU S.nd (by rw[<-a];exact b)
theorem lZ(j:X.calm=OL)(S:cy X scope Nc cx bt)(k:PI X bc P wi)
  (l:∀(d:a0n) (C:OM) (b:a0q) (s:OV) (H:Hp),PG (aE X Nc scope d C b s H) bc g/\dJ (aE X Nc scope d C b s H) ab tt/\∀D,PB (aE X Nc scope d C b s H) ac (⟨bc,P,ab,0⟩::R) scope aa 0 D (tb D))
  (G:∀x,Qh P X.env x=Ry x:=by intro _;rfl):PE X (.ListComp ac (⟨bc,P,ab,0⟩::R) scope aa) (n6 cx bt wi λD J=>cV J g tt (tb D)):=by
 intro a s n H Q I h;rw[eval_ListComp];refine SE (use:=OI) rfl G (S.clo I.ok) S.kind S.loc (Qk (k a s n H _ I h) (λv N o=>Qk o (λp O r=>?_) λ_ _ x=>x) λ_ _ x=>x);obtain⟨M,b,U,J,W,e,t,T,f,f2,q⟩:=r;subst e;refine gM (c:= .L ac) tX (RR:=λE C=>X5 (Px X.prog X.w) X.A X.xe OI _ E C) j S l t T f f2 q λD C V u m y K B F=>?_;exact⟨m,K,λz i=>⟨.ref D,u,y.letgo B i,rfl,F⟩⟩
theorem vH{b f:Ub}(y:X.N.Nodup)(l:X.N[i]?=My x)(G:uY X.env.scope x)(B:X.calm=OL)(S:cy X scope Nc cx bt)(F:PI X bc P wi)
  (O:∀(d:a0n) (C:OM) (k:a0q) (s:OV) (H:Hp),PG (aE X Nc scope d C k s H) bc g/\dJ (aE X Nc scope d C k s H) ab tt/\∀D,PB (aE X Nc scope d C k s H) ac (⟨bc,P,ab,0⟩::R) scope aa 0 D (tb D))
  (n:UJ (.ListComp ac (⟨bc,P,ab,0⟩::R) scope aa) (My (.Name x b)) f.line X.env=Ry OL:=by rfl)
  (K:∀x,Qh P X.env x=Ry x:=by intro _;rfl) (U:X.fn x=OL\/X.env.scope.names.lookup x=My .local:=by first|exact .inl rfl|exact .inr rfl|assumption):
  PS X (.Assign [.Name x b] (.ListComp ac (⟨bc,P,ab,0⟩::R) scope aa) f) (fR (n6 cx bt wi λD J=>cV J g tt (tb D)) (dm i)):=by
 intro j s W H D I h;rw[exec_Assign_Name_used _ _ _ _ n];refine OG (RN (OG ?_));show O8 _ X.A (do let _ <-comprehension (.ListComp ac (⟨bc,P,ab,0⟩::R) scope aa) scope X.env _ (newList []) OQ (Qu P X.env) (My (U6 (.Name x b) X.env))) _ _ s
 refine OG (Qk (SE (use:=My (U6 (.Name x b) X.env)) (Q:=λ_ s'=>SP X j D .next s') rfl K (S.clo I.ok) S.kind S.loc
  (Qk (F j s W H _ I h) (λv s1 Y=>Qk Y (λZ M V=>?_) λ_ _ e=>e) λ_ _ e=>e)) (λ_ s' hq=>OJ (OJ hq)) λ_ _ e=>e)
 obtain⟨it,k,tn,J,H2,e,o,T,p,f2,q⟩:=V;subst e;refine gM (c:= .L ac) tX (RR:=λE C=>X5 (Px X.prog X.w) X.A X.xe (My (U6 (.Name x b) X.env)) _ E C) B S O o T p f2 q λA C s' H' m I' ns r q'=>?_;show O8 _ X.A (U6 (.Name x b) X.env (.ref A)) _ _ s';refine W5 (kG I' y l G (v:= .ref A) rfl (λM o ⟨a,sb,ha⟩=>?_) U);have t:C≠a:=by
  rcases ha with rfl|ha
  .exact r.2.1
  .exact λz=>r.2.2.2.1 x a ha z.symm
 exact⟨m,ns.sameBut sb t,λh' u=>⟨_,H',o.letgo r u,q'⟩⟩
end
end L2
namespace L2
open Sem (wp)
open Builtin Builtin.ObjectAttr
structure T_ (h:Qt) (C:OM) (bm:a0g):Prop where
 at_:∃(nm q:PZ) (N:OM) (bs:a0g) (hdct:Bool) (sn:a0i) (sub:a0g) (ab:Bool) (col:a0C) (dd:a0Q) (k0 k1 k2 k3 k5:Option OP),
  h.get? C=My (excClassObj nm q C N bs bm hdct sn sub ab col dd k0 k1 k2 k3 k5 "ValueError.__new__")
 val:bm.contains (.type "ValueError")=OL
 bas:bm.contains (.type "BaseException")=OL
 att:bm.contains (.type "AttributeError")=OQ
 nam:bm.contains (.type "NameError")=OQ
section
variable{i:PM}{w:P0}{A:P7}{E:a0d}{h:Qt}{g:Array GenState}{d:Drawn}{t:Nat}{j:VX}{C:OM}{k f:a0g}
noncomputable def wj:a0g->Bool
 |[.type a,.type b,.type c,.type d]=>a=="ValueError"&&b=="Exception"&&c=="BaseException"&&d=="object"
 | .ref _::r=>wj r
 |_=>OQ
variable{s:OV}{e:OM}{K:Pl}{b:ClassData}{a:PZ}{v:OP}
end
end L2
namespace L2
theorem bJ.there{h:Qt}(x:bJ P w H h a o):∃b,h.get? a=My b:=by
 cases o with
 |lst xs=>obtain⟨_,_,_,_,e⟩:=x;exact⟨_,e⟩
 |tup xs=>obtain⟨_,_,_,_,e,_⟩:=x;exact⟨_,e⟩
 |ins C dx fs=>obtain⟨_,_,_,e,_⟩:=x;exact⟨_,e⟩
 |own y=>exact x
 |xd fs=>obtain⟨_,⟨_,_,_,e,_⟩,_⟩:=x;exact⟨_,e⟩
 |rng lo hi=>obtain⟨_,_,_,e⟩:=x;exact⟨_,e⟩
 |frz b u=>obtain⟨e,_⟩:=x;exact⟨_,e⟩
 |tbl ps=>exact⟨_,(show h.get? a=My _ from x)⟩
 |met f y=>exact⟨_,(show h.get? a=My _ from x)⟩
 |ext φ=>obtain⟨_,e,_⟩:=x;exact e
structure Mm (P:PM) (w:P0) (outer:a0B) (H:Hp) (s:OV) (E:XK) (x C:OM) (H':Hp) (s':OV):Prop where
 os:s'.os=s.os
 bare:Vd s'.gens
 un:Un (f0 outer) [] H H' s.heap s'.heap
 hok:js P w H' s'.heap
 tr:∃(oe:PF) (vs:a0H) (T:OM) (oT:PF) (ts:a0H) (a0:OP),s'.heap.get? x=My oe/\(oe.cls= .ref C/\vs[0]?=My a0)/\oe.data= .fields vs/\vs[1]?=My (.ref T)/\T≠x/\s'.heap.get? T=My oT/\oT.data= .fields ts/\ts[3]?=My .none/\H' T=OI/\s.heap.get? T=OI
 xn:H' x=OI
 xs:s.heap.get? x=OI
 wish:E (.ref C) OI H'
def fx(P:PM)(w:P0):xl:=λD H s E e G=>∃x C a,e= .ref x/\Mm P w D H s E x C a G
theorem zR{X:Cx}{s G:OV}{E:XK}(I:b_ X a_ σ H s)(g:X.stack=X.env::X.outer)(i:X.env.frame=My X.env.locals)(Q:X.ex=[])
  (os:G.os=X.s₀.os) (M:Vd G.gens) (d:Un (f0 X.stack) [] X.H₀ H' X.s₀.heap G.heap) (S:js X.prog X.w H' G.heap) (y:∀b∈f0 X.stack,H' b=OI)
  (c:∀b∈ext,X.s₀.heap.get? b=OI/\H' b=OI) (hx:x∈ext) (V:E (.ref C) OI H')
  (L:Heap.LeftW (Zp G.heap (ext++f0 X.stack)) (X.env::X.outer) x (.ref C) a0 G.heap h'):Mm X.prog X.w X.outer X.H₀ X.s₀ E x C H' {G with heap:=h'}:=by
 obtain⟨R,L2,U,W⟩:=L;have j:∀b∈f0 X.outer,b∈f0 X.stack:=λb hb=>by
  rw[g];unfold f0;rw[Q8,i];exact OO _ hb
 have h:∀b∈f0 X.stack,b=X.env.locals\/b∈f0 X.outer:=λb hb=>by
  rw[g]at hb;unfold f0 at hb;rw[Q8,i]at hb;exact O6.mp hb
 have A:∀b o,X.s₀.heap.get? b=My o->b≠X.env.locals:=λb o e=>Qc (Pm (Pq e) I.ok.above);have D:∀b o,G.heap.get? b=My o->b∉ext->b∉f0 X.stack->h'.get? b=My o:=λb o e B Y=>
  R b o (hideAll_get _ e λhm=>(PD.mp hm).elim B Y)
 have k:∀b o,X.s₀.heap.get? b=My o->b∉ext:=λb o e hb=>by rw[(c b hb).1]at e;cases e
 have f:∀b∈f0 X.stack,∃o,h'.get? b=My o/\∀vs,o.data≠ .fields vs:=λb hb=>(L2.mem (by rw[<-g];exact hb)).2;obtain⟨Z,vs,T,oT,O,he,hc,hd,B,l,F,P,m,h3⟩:=U;have p:H' T=OI/\X.s₀.heap.get? T=OI:=by
  by_cases hm:T∈ext++f0 X.stack
  .rcases PD.mp hm with hm|hm
   .exact⟨(c T hm).2,(c T hm).1⟩
   .obtain⟨o,e,K⟩:=f T hm
    rw[P]at e;cases e;exact Pp m (K O)
  .have hs:G.heap.get? T=OI:=by
    cases q:G.heap.get? T with
    |none=>rfl
    |some o=>rw[hideAll_get _ q hm]at l;cases l
   constructor
   .cases q:H' T with
    |none=>rfl
    |some o=>obtain⟨ob,e⟩:=(S T o q).there;rw[hs]at e;cases e
   .cases q:X.s₀.heap.get? T with
    |none=>rfl
    |some o=>obtain⟨ob,e⟩:=d.there T o q (by simp);rw[hs]at e;cases e
 refine⟨os,M,⟨λb o e n hb _=>?_,λb o e n hb _=>?_,λb o e n hb=>d.free b o e n hb,λb o e _=>?_,d.tups,d.frzs,d.tbls⟩,λa o e=>?_,⟨Z,vs,T,oT,O,a0,he,hc,hd,B,F,P,m,h3,p.1,p.2⟩,(c x hx).2,(c x hx).1,V⟩
 .have K:b∉f0 X.stack:=λz=>(h b z).elim (A b o e) hb
  exact D b o (d.keep b o e n K (by simp)) (k b o e) K
 .obtain⟨sl,r⟩:=d.slot b o e n (j b hb) (by simp)
  obtain⟨_,J,v,K⟩:=I.ok.funs.mem hb;rw[e]at v;cases v;obtain⟨N,e3⟩:=W b _ r K;exact⟨N,e3⟩
 .obtain⟨J,r⟩:=d.there b o e (by simp)
  by_cases hb:b∈f0 X.stack
  .obtain⟨o2,v,_⟩:=f b hb
   exact⟨o2,v⟩
  .exact⟨J,D b J r (k b o e) hb⟩
 .refine(S a o e).stay (λb u hb r=>?_) (λ_ q=>q) λ_ _ q=>q
  have t:H' b≠OI:=by
   rcases hb with rfl|hb
   .rw[e];simp
   .rw[hb];simp
  exact D b u r (λz=>t (c b z).2) λz=>t (y b z)
theorem AJ{h base:Qt}(d:h.FunFrames base l)(c:∀b∈f0 l,b∈as):h.FunFrames (Zp h as) l:=
 PySem.W.funFrames_hide d λD e a E=>c a (by unfold f0;exact UX.mpr ⟨D,e,E⟩)
theorem JR{X:Cx}{E F:XK}(a:X.stack=X.env::X.outer)(d:X.env.frame=My X.env.locals)(f:X.ex=[])(R:∀D J H,F D J H->E D J H)
  (I:b_ X a_ σ H s) (h:fx X.prog X.w X.stack H s F e s'):
  O8 (Px X.prog X.w) X.A (leaving X.env e) (λ_ j=>fx X.prog X.w X.outer X.H₀ X.s₀ E e j) E1 s':=by
 obtain⟨x,C,N,rfl,os,G,S,V,⟨U,vs,T,W,Y,a0,Z,hc,hd,h1,k,hT,m,h3,n,p⟩,xn,xs,K⟩:=h;have M:∀b∈X.fs,b∈f0 X.stack:=λb hb=>by
  rw[a];unfold f0;rw[Q8,d];exact OO _ hb
 have O:Un (f0 X.stack) [] X.H₀ H X.s₀.heap s.heap:=by
  have b:=I.base;rw[f]at b;exact b.mono M λ_ z=>z
 have U0:=O.trans S;have g:∀b,s.heap.get? b=OI->X.s₀.heap.get? b=OI:=λb e=>by
  cases q:X.s₀.heap.get? b with
  |none=>rfl
  |some o=>obtain⟨o',P⟩:=O.there b o q (by simp);rw[e]at P;cases P
 have c:=I.stack;have i:s'.heap.FunFrames X.base X.stack:=by
  have aa:∀(l:a0B),(∀b∈f0 l,b∈f0 X.stack)->s.heap.FunFrames X.base l->s'.heap.FunFrames X.base l:=by
   intro l
   induction l with
   |nil=>intro _ _;trivial
   |cons ab r ih=>
    intro hs hl;obtain⟨hk,⟨L,o,t,hn,u,v⟩,hr⟩:=hl;have Q:L∈f0 X.stack:=hs L (by unfold f0;rw[Q8,t];exact OU);obtain⟨sl,e⟩:=S.slot L o u (I.stkFree L Q) Q (by simp);exact⟨hk,⟨L,_,t,hn,e,v⟩,ih (λb hb=>hs b (by unfold f0;rw[Q8,t];exact OO _ hb)) hr⟩
  exact aa X.stack (λ_ hb=>hb) c
 have y:∀b∈f0 X.stack,N b=OI:=λb hb=>by
  obtain⟨_,o,u,_⟩:=c.mem hb;exact S.free b o u (I.stkFree b hb) (by simp)
 have B:∀b∈f0 X.stack,b∈[x,T]++f0 X.stack:=λb hb=>Qe _ hb;have hF:s'.heap.FunFrames (Zp s'.heap ([x,T]++f0 X.stack)) (X.env::X.outer):=by
  have z:=AJ i B;rw[a]at z⊢;exact z
 refine wpAny_leaving_nextW (base:=Zp s'.heap ([x,T]++f0 X.stack)) (by rw[<-a];exact I.ok.frames) hF d ⟨U,vs,T,W,Y,Z,hc,hd,h1,Zq _ (by simp),k,hT,m,h3⟩ (λb o q=>XZ _ q) (Zq _ (by simp)) λh' L=>?_;refine⟨x,C,N,rfl,zR I a d f (os.trans I.os) G U0 V y (λb hb=>?_) (by simp) (R _ _ _ K) L⟩;rcases O6.mp hb with rfl|hb
 .exact⟨g _ xs,xn⟩
 .obtain rfl:b=T:=by simpa using hb
  exact⟨g _ p,n⟩
section
variable{X:Cx}{c:a0c}{a:St}{H d:Hp}{s b:OV}{E:XK}{x C:OM}
structure XC (K:Pl) (C:OM):Prop where
 sh:∃bm,∀h:Qt,K.In h->T_ h C bm
 sa:T9 K (.ref C) "__setattr__"=My (My (.builtin "object.__setattr__"))
 cd:∃cd,PySem.W.clsIn K C=My cd/\cd.hasDict=OL/\wj cd.mro=OL
structure XMk (K:Pl) (C f:OM):Prop where
 xc:XC K C
 init:T9 K (.ref C) "__init__"=My (My (.ref f))
 fn:isFn K (.ref f)=OL
 kp:U8 K (.ref C)=OL
end
section
variable{X:Cx}{n:xl}{k:Nat}{f C:OM}{i:Py}{h:a0i}{g:Sp}{c:a0k}{l:a0g}{E:a0s}{x m:PZ}{p b a:Ub}{e o:Expr}{j:List Expr}{d:TE}{t:TA}
structure ZW (K:Pl) (D:OM) (m:PZ) (f:OM):Prop where
 ga:specialIn K (.ref D) "__getattribute__"=My (My (.builtin "type.__getattribute__"))
 rd:PySem.W.readsIn K D (.type "type")=OL
 fnd:PySem.W.findCls K (.ref D) (.type "type") m=My (.val (.ref f))
 kp:U8 K (.ref f)=OL
end
section
variable{P:PM}{w:P0}{K:Pl}{y:a0j}{base:Qt}{N:a0i}{u:PZ}{i:Scope}{f:OM}{j:OP}{A:P7}{v:a0B}{s:OV}{H:Hp}{E:XK}
theorem i5:cM (fx P w) (eW (fx P w) P w K y base N u i f j A v s H E) (λ_=>E):=λa b c d e D I h=>JR (X:=eW (fx P w) P w K y base N u i f j A v s H E) rfl rfl rfl (λ_ _ _ z=>z) I h
theorem w6:cM (fx P w) X E0:=λ_ _ _ _ _ _ _ h=>by
 obtain⟨_,_,_,_,F⟩:=h;exact F.wish.elim
theorem bV:PassesOwn (Px P w) (A.deeper (T8 u i s.heap.objs.size f j)) (T8 u i s.heap.objs.size f j) (eW (fx P w) P w K y base N u i f j A v s H E).xe:=PassesOwn.leaving
structure c_ (K:Pl) (x u:PZ) (st:QH) (f:OM) (fd:Py):Prop where
 ex:∃(oc:OP) (od:a0Q) (dV kV doc pm:OP) (an:a0Q) (cdv ct:OP) (osl:Array (Option OP)),
  fd=TM x u (im st) (cf st) (ah st) dV kV doc pm an cdv ct/\K.lookup f=My ⟨oc,od,.func fd,osl⟩/\UF K cdv u=OL
 kp:U8 K (.ref f)=OL
theorem Kf{K:Pl}{x u:PZ}{i:QH}{f:OM}(l:K.lookup f=My ⟨oc,od,.func (TM x u (im i) (cf i) (ah i) dV kV doc pm an a ct),b⟩)
  (c:UF K a u=OL) (k:U8 K (.ref f)=OL):c_ K x u i f (TM x u (im i) (cf i) (ah i) dV kV doc pm an a ct):=⟨⟨oc,od,dV,kV,doc,pm,an,a,ct,b,rfl,l,c⟩,k⟩
theorem c_.okE{x u:PZ}{G:QH}{f:OM}{N M:a0i}(F:c_ K x u G f r)(S:br N M (ah G))(V:∀D H Q E,q D H Q E->D.length=M.length)
  (b:∀(a:OP) (A:P7) (v:a0B) (s:OV) (H:Hp) (D:a0k) (Q:VK) (E:XK),dt k (A.deeper (T8 u (ah G) s.heap.objs.size f a))->q D H Q E->
   ∃t,PSs (eW (fx P w) P w K y base N u (ah G) f a A v s H E) (cf G) t/\t {nx:=λ_ e=>Q .non e,rt:=Q} (fq N D) H):ee P w K y base (fx P w) (k+1) f r M q:=by
 obtain⟨l,m,n,o,g,z,p,a,B,h,rfl,i,c⟩:=F.ex;exact IX i c S V λA v s H D Q E j d=>b a A v s H D Q E j d
theorem c_.ok{x u:PZ}{D:QH}{f:OM}{N G:a0i}(F:c_ K x u D f z)(S:br N G (ah D))(M:∀vs H Q E,sp vs H Q E->vs.length=G.length)
  (b:∀(a:OP) (A:P7) (v:a0B) (s:OV) (H:Hp) (vs:a0k) (Q:VK) (E:XK),dt k (A.deeper (T8 u (ah D) s.heap.objs.size f a))->sp vs H Q E->
   ∃t,PSs (eW (fx P w) P w K y base N u (ah D) f a A v s H E).nox (cf D) t/\t {nx:=λ_ e=>Q .non e,rt:=Q} (fq N vs) H):ee P w K y base (fx P w) (k+1) f z G sp:=by
 obtain⟨m,n,o,p,g,V,r,a,B,i,rfl,j,c⟩:=F.ex;refine IX j c S M λA v s H vs Q E l d=>?_;obtain⟨t,h,q⟩:=b a A v s H vs Q E l d;exact⟨t,h.nox,q⟩
abbrev TJ:=St->Hp->Nat->(Nat->Hp->Prop)->Prop
variable{X:Cx}{es:List Expr}{t:TJ}{b:Ub}
theorem qY(i:X.calm=OL):cD X (.builtin "sum") (λf H Q=>∃(a:OM) (t:a0e),f=[.ref a]/\en X.K H a (t.map V.int)/\Q (.int t.sum) H):=by
 intro b s o H f D Q I r h;obtain⟨a,t,rfl,j,q⟩:=h;cases r with
 |cons A k=>
  cases A;cases k;obtain⟨w,l,p,u⟩:=I.list j;have c:=o7 l;obtain⟨f,y⟩:=c.allInts.items;have d:=p.isList;rw[y]at d;refine sum_intListG (I.ok.hd i) d λE v G m=>?_;have e:preSum (numAt f) f.size=t.sum:=by
   have g:=c.numsOf;have n:w=(X8 f).toList:=by rw[<-y]
   rw[n,nums_intItems]at g;rw[preSum_eq,QJ (by simp),g]
  rw[e];exact⟨.int t.sum,H,I.kept m,⟨_,rfl⟩,q⟩
def so(i j:Int):Prop:=0<j/\j.natAbs.log2<9000
theorem CV:fw X (Se .FloorDiv) (rI so λi j=> .int (i/j)):=nl λi j _ _ _ _ _ a q=>by
 have b:(0:Int)<j:=a.1;refine floordiv_int (by lia) ?_ (.inl (WZ a.2));rw[U3 _ (by lia)];exact q
def ZL(C:a0W)(f:a0L):TIp:=λx y H Q=>∃i j,x= .int i/\y= .int j/\C i j/\Q (.int (f i j)) H
theorem Kc:PIp X .FloorDiv (ZL so λi j=>i/j):=by
 intro a s d H x y v u Q I f b h;obtain⟨i,j,rfl,rfl,c,q⟩:=h;obtain⟨t,rfl⟩:=f;obtain⟨w,rfl⟩:=b;have e:(0:Int)<j:=c.1;refine ifloordiv_int (by lia) ?_ (.inl (WZ c.2));rw[U3 _ (by lia)];exact⟨.int _,H,I.tok _,⟨_,rfl⟩,q⟩
theorem yn:∀{b:List String} {f:a0g},aw (b.map V.ty) f->f=b.map Sm
 |[],_,r=>by cases r;rfl
 |c::b,_,r=>by
  cases r with
  |cons i a=>
   cases i;rw[yn a];rfl
theorem xY{K:Pl}{xs:a0k}{H:Hp}(Pv:Nat->St->Hp->Prop)(u:Pv 0 c H)(k:∀i c H,i<=xs.length->Pv i c H->en K H a xs)
  (h:∀i x c H,xs[i]?=My x->Pv i c H->g x c H λd v=>z d v λb r=>if b=OL then B d r (Pv (i+1))else Pv (i+1) d r) (l:∀c H,Pv xs.length c H->Q c H):cV (ZV K a) g z B c H Q:=by
 refine⟨λi m c H=>i<=xs.length/\m+i=xs.length/\Pv i c H,⟨xs.length,Ql _,rfl,u⟩,λi m c H ⟨n,s,j⟩=>?_⟩;by_cases o:i<xs.length
 .refine .inr ⟨⟨xs,xs[i],k i c H n j,ON o⟩,Pv (i+1),λy p q=>⟨m-1,by lia,by lia,by lia,q⟩,λx p ⟨e,f⟩=>?_⟩
  subst e;exact h i x c p (f xs (k i c p n j)) j
 .obtain rfl:i=xs.length:=by lia
  exact .inl ⟨⟨xs,k _ c H n j,OW _⟩,l c H j⟩
theorem cy.plain{X:Cx}{i:Scope}(k:i.kind= .function)(b:(i.names.map (·.1)).Nodup)(f:∀y∈i.names,y.2≠ .free):cy X i cx cx []:=
 ⟨k,b,λy s e=>Pp e (f y s),by simp,λj a=>Pp a (by simp)⟩
def sk(i j:Int):Prop:=i.natAbs<2^1000/\j.natAbs<2^1000
theorem jd{k:Int}(h:k.natAbs<2^1000):W7 k<=2^20:=by
 unfold W7;split
 .exact Ql _
 .rename_i a
  have b:k.natAbs≠0:=by
   intro z;have:k=0:=Int.natAbs_eq_zero.mp z;subst this;simp at a
  have:=(Nat.log2_lt b).mpr h;have e:(2:Nat)^20=1048576:=by decide
  lia
theorem l7{X:Cx}:fw X (Se .Mult) (rI sk λi j=> .int (i*j)):=nl λ_ _ _ _ _ _ _ a q=>mul_int q (Yn (jd a.1) (jd a.2))
theorem bM.upd{H:Hp}(h:H a=OI):bM H (upd H a o):=λb u e=>by rw[bb (aB e h)];exact e
abbrev d_:=Int×a0e
abbrev a0o:=List (d_×OM×V)
abbrev a0A:=List (d_×OM×OP)
abbrev a0G:=List d_
noncomputable def hI(k:a0e):Int:=reduceHash (Ui (k.map hashInt))
def hB:Bool->d_->Int
 |true,k=>reduceHash (Ui [hashInt k.1,hI k.2])
 |false,k=>hI k.2
def x9(a:OM)(b:Bool)(i:Nat)(j:a0o)(h:Qt):Prop:=
 ∃o es,∃f:a0A,h.get? a=My o/\o.ExactDict/\o.data= .dict es i/\es.toList=f.map (λy=>⟨hB b y.1,.ref y.2.1,y.2.2⟩)/\(f.map (·.1)).Nodup/\(a==UK)=OQ/\f.length<=Pk/\
  U4 (λ(x:d_×OM×V) (y:d_×OM×OP)=>x.1=y.1/\x.2.1=y.2.1/\aJ x.2.2 y.2.2) j f
noncomputable def cg(a:OM)(b:Bool)(f:Nat)(i:a0o):HO:= .ext (x9 a b f i)
theorem qh{P:PM}{w:P0}{b:Bool}{H:Hp}(S:x9 a b g l h):bJ P w H h a (cg a b g l):=by
 refine⟨S,?_,λc d z k=>?_⟩
 .obtain⟨o,_,_,e,_⟩:=S
  exact⟨o,e⟩
 .obtain⟨o,es,ys,e,r⟩:=z
  exact⟨o,es,ys,k _ e,r⟩
end
end L2
namespace L2.Pu
theorem i_{D d e:Sort _}{P Q R:D->d->e->Prop}{C:Prop}(h:∃a b c,P a b c/\Q a b c/\R a b c)(k:∀a b c,P a b c->Q a b c->R a b c->C):C:=by
 obtain⟨a,b,c,x,y,z⟩:=h;exact k a b c x y z
theorem lv{D c:Sort _}{P Q R:D->c->Prop}{C:Prop}(h:∃a b,P a b/\Q a b/\R a b)(k:∀a b,P a b->Q a b->R a b->C):C:=by
 obtain⟨a,b,x,y,z⟩:=h;exact k a b x y z
inductive D where
 |non|bl (b:Bool)|int (i:Int)|str (x:PZ)|ty (n:String)|txt
 |lst (xs:List D)|tup (xs:List D)|scr (xs:a0e)|obj (C:OM) (ns:a0i) (xs:List D)|bag|adr (a:OM)|dct (b:Bool) (ks:a0G) (vs:List D)
abbrev a0b:=List D
abbrev a0l:=Option D
abbrev a0t:=List a0b
abbrev a0D:=Option a0b
abbrev a0Z:=D->D->a0l
structure Bg where
 cells:a0e
 i:Int
 j:Int
structure Fx where
 A:OM->Prop
 bg:a0m
def KL(K:Pl)(a:OM)(E:a0k):Prop:=
 ∃(o:PF) (D:a0H) (n:Nat),K.lookup a=My o/\o.cls= .type "list"/\o.dict=OI/\o.data= .seq D n/\D.size<=Pk/\aw E D.toList
def KT(K:Pl)(a:OM)(E:a0k):Prop:=
 ∃(o:PF) (D:a0H) (n:Nat),K.lookup a=My o/\o.cls= .type "tuple"/\o.data= .seq D n/\D.size<=Pk/\aw E D.toList
def TQ(K:Pl)(F:Fx)(H:Hp)(c:OM)(D:a0k):Prop:=(¬F.A c/\Rd H c (.tup D))\/KT K c D
def e8(K:Pl)(F:Fx)(H:Hp):Bool->d_->OM->Prop
 |true,k,c=>∃e,TQ K F H c [.int k.1,.ref e]/\TQ K F H e (k.2.map V.int)
 |false,k,c=>k.1=0/\TQ K F H c (k.2.map V.int)
mutual
noncomputable def bw(K:Pl)(F:Fx)(H:Hp):D->V->Prop
 | .non,v=>v= .non
 | .bl b,v=>v= .bl b
 | .int i,v=>v= .int i
 | .str x,v=>v= .str x
 | .ty n,v=>v= .ty n
 | .txt,v=>∃z,v= .str z
 | .lst ds,v=>∃a E,v= .ref a/\(¬F.A a/\Rd H a (.lst E))/\ba K F H ds E
 | .scr ns,v=>∃a,v= .ref a/\((¬F.A a/\Rd H a (.lst (ns.map V.int)))\/KL K a (ns.map V.int))
 | .tup ds,v=>∃a E,v= .ref a/\((¬F.A a/\Rd H a (.tup E))\/KT K a E)/\ba K F H ds E
 | .obj C ns ds,v=>∃a c E,v= .ref a/\¬F.A a/\H a=My (.ins C c (ns.zip E))/\ns.length=E.length/\ba K F H ds E
 | .bag,v=>∃b l,F.bg=My (b,l)/\v= .ref b
 | .adr a,v=>v= .ref a
 | .dct b ks vs,v=>∃a G E,v= .ref a/\(¬F.A a/\H a=My (cg a b G E))/\ks=E.map (·.1)/\(∀x∈E,e8 K F H b x.1 x.2.1)/\ba K F H vs (E.map (·.2.2))
noncomputable def ba(K:Pl)(F:Fx)(H:Hp):a0b->a0k->Prop
 |[],xs=>xs=[]
 |d::ds,xs=>∃x r,xs=x::r/\bw K F H d x/\ba K F H ds r
end
structure Tr (F:Fx) (H:Hp) (F2:Fx) (H2:Hp):Prop where
 av:∀a,¬F.A a->H a≠OI->¬F2.A a
 kp:∀a o,¬F.A a->H a=My o->H2 a=My o
 bg:F2.bg=F.bg
theorem Tr.refl(F:Fx)(H:Hp):Tr F H F H:=⟨λ_ h _=>h,λ_ _ _ h=>h,rfl⟩
theorem Tr.trans(a:Tr F H F1 H1)(b:Tr F1 H1 F2 H2):Tr F H F2 H2:=
 ⟨λx c d=>b.av x (a.av x c d) (by
   cases q:H x with
   |none=>exact Pp q d
   |some o=>rw[a.kp x o c q];simp),
  λx o c d=>b.kp x o (a.av x c (by rw[d];simp)) (a.kp x o c d),b.bg.trans a.bg⟩
theorem Rd.tr{F b:Fx}(t:Tr F H b H2)(h:¬F.A a)(r:Rd H a u):¬b.A a/\Rd H2 a u:=by
 rcases r with r|⟨o,r⟩
 .exact⟨t.av a h (by rw[r];simp),.inl (t.kp a _ h r)⟩
 .exact⟨t.av a h (by rw[r];simp),.inr ⟨o,t.kp a _ h r⟩⟩
theorem TQ.tr{K:Pl}(t:Tr F H F2 H2)(h:TQ K F H c xs):TQ K F2 H2 c xs:=h.imp (λh=>Rd.tr t h.1 h.2) id
theorem e8.tr{K:Pl}{b:Bool}(t:Tr F H F2 H2)(h:e8 K F H b k c):e8 K F2 H2 b k c:=by
 cases b with
 |true=>
  obtain⟨e,a,d⟩:=h;exact⟨e,a.tr t,d.tr t⟩
 |false=>exact⟨h.1,h.2.tr t⟩
mutual
theorem bw.tr{K:Pl}(t:Tr F H F2 H2):∀(d:D) (v:V),bw K F H d v->bw K F2 H2 d v
 | .non,v,h=>h
 | .bl b,v,h=>h
 | .int i,v,h=>h
 | .str x,v,h=>h
 | .ty n,v,h=>h
 | .txt,v,h=>h
 | .lst ds,v,h=>by
  unfold bw at h⊢;obtain⟨a,E,e,c,f⟩:=h;exact⟨a,E,e,Rd.tr t c.1 c.2,ba.tr t ds E f⟩
 | .scr ns,v,h=>by
  unfold bw at h⊢;obtain⟨a,e,c⟩:=h;exact⟨a,e,c.imp (λ⟨p,q⟩=>Rd.tr t p q) id⟩
 | .tup ds,v,h=>by
  unfold bw at h⊢;obtain⟨a,E,e,c,f⟩:=h;exact⟨a,E,e,c.imp (λ⟨p,q⟩=>Rd.tr t p q) id,ba.tr t ds E f⟩
 | .obj C ns ds,v,h=>by
  unfold bw at h⊢;obtain⟨a,k,E,e,c,f,g,j⟩:=h;exact⟨a,k,E,e,t.av a c (by rw[f];simp),t.kp a _ c f,g,ba.tr t ds E j⟩
 | .bag,v,h=>by
  unfold bw at h⊢;rw[t.bg];exact h
 | .adr a,v,h=>by
  unfold bw at h⊢;exact h
 | .dct b ks vs,v,h=>by
  unfold bw at h⊢;obtain⟨a,G,E,e,c,f,g,j⟩:=h;exact⟨a,G,E,e,⟨t.av a c.1 (by rw[c.2];simp),t.kp a _ c.1 c.2⟩,f,λx M=>(g x M).tr t,ba.tr t vs _ j⟩
theorem ba.tr{K:Pl}(t:Tr F H F2 H2):∀(ds:a0b) (xs:a0k),ba K F H ds xs->ba K F2 H2 ds xs
 |[],xs,h=>h
 |d::ds,xs,h=>by
  unfold ba at h⊢;obtain⟨x,r,e,a,b⟩:=h;exact⟨x,r,e,bw.tr t d x a,ba.tr t ds r b⟩
end
section
variable{K:Pl}{F:Fx}{H:Hp}
theorem ba.nil:ba K F H [] []:=rfl
theorem ba.cons(h:bw K F H d x)(t:ba K F H ds xs):ba K F H (d::ds) (x::xs):=⟨x,xs,rfl,h,t⟩
theorem ba.length:∀{ds:a0b} {xs:a0k},ba K F H ds xs->ds.length=xs.length
 |[],xs,h=>by have e:xs=[]:=h;subst e;rfl
 |d::ds,xs,h=>by
  obtain⟨x,r,e,_,a⟩:=h;subst e;rw[Pb,Pb,ba.length a]
theorem ba.get:∀{E:a0b} {xs:a0k} {i:Nat} {d:D},ba K F H E xs->E[i]?=My d->∃x,xs[i]?=My x/\bw K F H d x
 |[],_,_,_,_,e=>by simp at e
 |c::E,xs,0,d,h,e=>by
  obtain⟨x,r,q,a,b⟩:=h;subst q;simp at e;subst e;exact⟨x,rfl,a⟩
 |c::E,xs,i+1,d,h,e=>by
  obtain⟨x,r,q,a,b⟩:=h;subst q;obtain⟨y,f,g⟩:=ba.get (i:=i) (d:=d) b (by simpa using e);exact⟨y,by simpa using f,g⟩
theorem ba.getV:∀{E:a0b} {D:a0k} {i:Nat} {x:V},ba K F H E D->D[i]?=My x->∃d,E[i]?=My d/\bw K F H d x
 |[],D,_,_,h,e=>by have q:D=[]:=h;subst q;simp at e
 |c::E,D,0,d,h,e=>by
  obtain⟨x,r,q,a,b⟩:=h;subst q;simp at e;subst e;exact⟨c,rfl,a⟩
 |c::E,D,i+1,d,h,e=>by
  obtain⟨x,r,q,a,b⟩:=h;subst q;obtain⟨y,f,g⟩:=ba.getV (i:=i) (x:=d) b (by simpa using e);exact⟨y,by simpa using f,g⟩
theorem ba.append:∀{ds E:a0b} {xs D:a0k},ba K F H ds xs->ba K F H E D->ba K F H (ds++E) (xs++D)
 |[],_,xs,_,h,h'=>by have q:xs=[]:=h;subst q;exact h'
 |c::ds,E,xs,D,h,h'=>by
  obtain⟨x,r,q,a,b⟩:=h;subst q;exact⟨x,r++D,rfl,a,ba.append b h'⟩
theorem ba.take:∀{ds:a0b} {xs:a0k} (n:Nat),ba K F H ds xs->ba K F H (ds.take n) (xs.take n)
 |[],xs,n,h=>by have q:xs=[]:=h;subst q;simp;rfl
 |c::ds,xs,0,h=>by simp;rfl
 |c::ds,xs,n+1,h=>by
  obtain⟨x,r,q,a,b⟩:=h;subst q;exact⟨x,r.take n,rfl,a,ba.take n b⟩
theorem ba.drop:∀{ds:a0b} {xs:a0k} (n:Nat),ba K F H ds xs->ba K F H (ds.drop n) (xs.drop n)
 |[],xs,n,h=>by have q:xs=[]:=h;subst q;simp;rfl
 |c::ds,xs,0,h=>h
 |c::ds,xs,n+1,h=>by
  obtain⟨x,r,q,b,a⟩:=h;subst q;exact ba.drop n a
theorem ba.set:∀{ds:a0b} {xs:a0k} (i:Nat) {d:D} {x:V},ba K F H ds xs->bw K F H d x->ba K F H (ds.set i d) (xs.set i x)
 |[],xs,i,_,_,h,_=>by have q:xs=[]:=h;subst q;simp;rfl
 |c::ds,xs,0,d,x,h,hd=>by
  obtain⟨y,r,q,b,a⟩:=h;subst q;exact⟨x,r,rfl,hd,a⟩
 |c::ds,xs,i+1,d,x,h,hd=>by
  obtain⟨y,r,q,b,a⟩:=h;subst q;exact⟨y,r.set i x,rfl,b,ba.set i a hd⟩
theorem bw.sqL(h:bw K F H (.lst d) v):∃a D,v= .ref a/\en K H a D/\ba K F H d D:=by
 unfold bw at h;obtain⟨a,D,e,b,c⟩:=h;exact⟨a,D,e,.inl b.2,c⟩
theorem bw.rdL(h:bw K F H (.lst d) v):∃a D,v= .ref a/\Rd H a (.lst D)/\ba K F H d D:=by
 unfold bw at h;obtain⟨a,D,e,b,c⟩:=h;exact⟨a,D,e,b.2,c⟩
theorem bw.scr{D:a0e}(h:bw K F H (.scr D) v):∃a,v= .ref a/\en K H a (D.map V.int):=by
 unfold bw at h;obtain⟨a,e,b⟩:=h;exact⟨a,e,b.imp (λp=>p.2) id⟩
theorem bw.sqT(h:bw K F H (.tup d) v):∃a D,v= .ref a/\g_ K H a D/\ba K F H d D:=by
 unfold bw at h;obtain⟨a,D,e,b,c⟩:=h;exact⟨a,D,e,b.imp (λp=>p.2) id,c⟩
theorem bw.int(h:bw K F H (.int i) v):v= .int i:=h
theorem bw.bl{i:Bool}(h:bw K F H (.bl i) v):v= .bl i:=h
theorem bw.str(h:bw K F H (.str i) v):v= .str i:=h
theorem bw.non(h:bw K F H .non v):v= .non:=h
theorem bw.ty(h:bw K F H (.ty n) v):v= .ty n:=h
theorem ba.ints:∀(E:a0e) {G:a0k},ba K F H (E.map D.int) G->G=E.map V.int
 |[],G,h=>h
 |n::E,G,h=>by
  obtain⟨x,r,e,a,b⟩:=h;rw[e,ba.ints E b];have q:x= .int n:=a;rw[q];rfl
theorem ba.ofInts:∀(E:a0e),ba K F H (E.map D.int) (E.map V.int)
 |[]=>rfl
 |n::E=>⟨.int n,E.map V.int,rfl,rfl,ba.ofInts E⟩
structure Fr (F:Fx) (H:Hp) (β:Bg):Prop where
 occ:∀a,F.A a->H a≠OI
 bgA:∀b l,F.bg=My (b,l)->F.A b/\F.A l/\b≠l
 bag:∀b l,F.bg=My (b,l)->H b=My (.lst [.ref l,.int β.i,.int β.j])/\H l=My (.lst (β.cells.map V.int))
structure To (F:Fx) (H H':Hp) (β':Bg):Prop where
 kp:∀a o,H a=My o->(∀b l,F.bg=My (b,l)->a≠b/\a≠l)->H' a=My o
 fr:Fr F H' β'
theorem To.refl{F:Fx}{H:Hp}(fr:Fr F H a):To F H H a:=⟨λ_ _ h _=>h,fr⟩
theorem To.trans{F:Fx}{H c d:Hp}(a:To F H c β1)(b:To F c d e):To F H d e:=⟨λx o h n=>b.kp x o (a.kp x o h n) n,b.fr⟩
theorem Fr.same{F:Fx}{H c:Hp}(fr:Fr F H d)(s:bM H c):To F H c d:=
 ⟨λa o h _=>s a o h,⟨λa h q=>(by
  cases e:H a with
  |none=>exact fr.occ a h e
  |some o=>exact Pp ((s a o e).symm.trans q) (by simp)),fr.bgA,λb l e=>⟨s _ _ (fr.bag b l e).1,s _ _ (fr.bag b l e).2⟩⟩⟩
theorem Fr.upd{F:Fx}{H:Hp}(fr:Fr F H a)(o:HO)(h:H p=OI):To F H (upd H p o) a:=fr.same (bM.upd h)
theorem Fr.fresh{F:Fx}{H:Hp}(fr:Fr F H a)(h:H p=OI):¬F.A p:=λq=>fr.occ p q h
theorem To.tr{F:Fx}{H c:Hp}(fr:Fr F H f)(t:To F H c d):Tr F H F c:=
 ⟨λ_ h _=>h,λa o h e=>t.kp a o e λb l q=>⟨λz=>h (z▸(fr.bgA b l q).1),λz=>h (z▸(fr.bgA b l q).2.1)⟩,rfl⟩
abbrev Dn:=List a0l
structure hO (K:Pl) (F:Fx) (H:Hp) (δ:Dn) (σ:St):Prop where
 len:δ.length=σ.length
 tell:∀(i:Nat) (d:D),δ[i]?=My (My d)->∃v,σ[i]?=My (My v)/\bw K F H d v
theorem hO.tr{K:Pl}{F a:Fx}{H b:Hp}(t:Tr F H a b)(h:hO K F H c f):hO K a b c f:=⟨h.len,λi d e=>let ⟨v,h1,h2⟩:=h.tell i d e;⟨v,h1,bw.tr t d v h2⟩⟩
theorem hO.set{K:Pl}{F:Fx}{H:Hp}{D:Dn}{a:St}(h:hO K F H D a)(E:bw K F H d v):hO K F H (D.set i (My d)) (a.set i (My v)):=by
 refine⟨by rw[QC,QC,h.len],λj c e=>?_⟩;rw[QX]at e;rw[QX];by_cases q:i=j
 .subst q
  rw[OZ rfl]at e⊢;split at e
  .rename_i b
   cases e;rw[OZ (by rw[<-h.len];exact b)];exact⟨v,rfl,E⟩
  .cases e
 .rw[OY q]at e⊢
  exact h.tell j c e
def Sub(F E:Dn):Prop:=∀(i:Nat) (d:D),F[i]?=My (My d)->E[i]?=My (My d)
theorem hO.sub{K:Pl}{F:Fx}{H:Hp}{E D:Dn}(h:hO K F H D a)(s:Sub E D)(l:E.length=D.length):hO K F H E a:=⟨l.trans h.len,λi d e=>h.tell i d (s i d e)⟩
abbrev M(D:Type):=Bg->Option (Except OM D×Bg)
abbrev a0r:=Dn->M Bool
noncomputable def M.ret{D:Type}(a:D):M D:=λE=>My (.ok a,E)
noncomputable def M.bind{D b:Type}(m:M D)(k:D->M b):M b:=λE=>match m E with
 |none=>OI
 |some (.error C,β1)=>My (.error C,β1)
 |some (.ok a,β1)=>k a β1
noncomputable def M.ofO{D:Type}(o:Option D):M D:=λE=>match o with
 |some a=>My (.ok a,E)
 |none=>OI
noncomputable def M.fail{D:Type}:M D:=λ_=>OI
theorem M.bind_some{D b:Type}(a:D)(k:D->M b):M.bind (M.ofO (My a)) k=k a:=rfl
theorem M.bind_ok{D b:Type}{m:M D}{k:D->M b}{β β1:Bg}{a:D}(h:m β=My (.ok a,β1)):M.bind m k β=k a β1:=by unfold M.bind;rw[h]
theorem M.bind_err{E a:Type}{m:M E}{k:E->M a}{F D:Bg}{C:OM}(h:m F=My (.error C,D)):M.bind m k F=My (.error C,D):=by unfold M.bind;rw[h]
def run{D c:Type}(R:Hp->D->c->Prop)(F:Fx)(E:a0s)(e:St)(m:M D)(H:Hp)(Q:c->Hp->Prop)(G:Bg):Prop:=
 ∃r a,m G=My (r,a)/\match r with
  | .ok d=>∀v b,To F H b a->R b d v->Q v b
  | .error C=>∀b,To F H b a->E e (.ref C) OI b
theorem run.mono{D c:Type}{R:Hp->D->c->Prop}{F:Fx}{E:a0s}{g:St}{m:M D}{H:Hp}{Q i:c->Hp->Prop}{β:Bg}(h:run R F E g m H Q β)(f:∀v a,Q v a->i v a):run R F E g m H i β:=by
 obtain⟨r,b,e,h⟩:=h;refine⟨r,b,e,?_⟩;cases r with
 |ok d=>exact λv a t q=>f v a (h v a t q)
 |error C=>exact h
theorem run.bind{D j g i:Type}{R:Hp->D->j->Prop}{R2:Hp->g->i->Prop}{F:Fx}{E:a0s}{b:St}{m:M D}{k:D->M g}{H:Hp}{Q:i->Hp->Prop}{G:Bg}(h:run R2 F E b (M.bind m k) H Q G):
  run R F E b m H (λv a=>∃d β1,To F H a β1/\R a d v/\run R2 F E b (k d) a Q β1) G:=by
 obtain⟨r,c,e,h⟩:=h;cases q:m G with
 |none=>unfold M.bind at e;rw[q]at e;cases e
 |some z=>
  obtain⟨K,β1⟩:=z;refine⟨K,β1,q,?_⟩;cases K with
  |error C=>
   rw[M.bind_err q]at e;cases e;exact h
  |ok d=>
   rw[M.bind_ok q]at e;intro v a t S;refine⟨d,β1,t,S,r,c,e,?_⟩;cases r with
   |ok V=>exact λl f t2 n=>h l f (t.trans t2) n
   |error C=>exact λf t2=>h f (t.trans t2)
theorem run.ret{D b:Type}{R:Hp->D->b->Prop}{F:Fx}{E:a0s}{c:St}{a:D}{v:b}{H:Hp}{Q:b->Hp->Prop}{β:Bg}(fr:Fr F H β)(h:run R F E c (M.ret a) H Q β)(r:R H a v):Q v H:=by
 obtain⟨_,_,e,h⟩:=h;cases e;exact h v H (To.refl fr) r
theorem run.ofO{D c:Type}{R:Hp->D->c->Prop}{F:Fx}{E:a0s}{d:St}{o:Option D}{H:Hp}{Q:c->Hp->Prop}{G:Bg}(h:run R F E d (M.ofO o) H Q G):∃a,o=My a/\∀v b,To F H b G->R b a v->Q v b:=by
 obtain⟨_,_,e,h⟩:=h;cases o with
 |none=>cases e
 |some a=>cases e;exact⟨a,rfl,h⟩
abbrev FD:=Dn->M D
abbrev FL:=Dn->M a0b
def tV(K:Pl)(f:FD)(E:a0s):TE:=λa H Q=>∃F D G,Fr F H G/\hO K F H D a/\run (bw K F) F E a (f D) H Q G
def hU(K:Pl)(f:FL)(E:a0s):TA:=λa H Q=>∃F D G,Fr F H G/\hO K F H D a/\run (ba K F) F E a (f D) H Q G
def g8(K:Pl)(f:a0r)(E:a0s):TT:=λc H Q=>∃F D G,Fr F H G/\hO K F H D c/\run (λ_ (a b:Bool)=>b=a) F E c (f D) H Q G
theorem _root_.L2.PE.imp(h:PE X e t)(f:∀a H Q,c a H Q->t a H Q):PE X e c:=λb s a H Q I q=>h b s a H Q I (f a H Q q)
theorem _root_.L2.PT.imp(h:PT X e t)(f:∀a H Q,c a H Q->t a H Q):PT X e c:=λb s a H Q I q=>h b s a H Q I (f a H Q q)
theorem _root_.L2.PW.imp(h:PW X e t)(f:∀a H Q,d a H Q->t a H Q):PW X e d:=λc b s a H Q I q=>h c b s a H Q I (f a H Q q)
theorem _root_.L2.PA.imp(h:PA X e t)(f:∀a H Q,c a H Q->t a H Q):PA X e c:=λD b s a H Q I q=>h D b s a H Q I (f a H Q q)
def ag(i:Nat):FD:=λD=>M.ofO (D.getD i OI)
def fC(d:D):FD:=λ_=>M.ret d
def f1(E:D->a0l)(f:FD):FD:=λF=>M.bind (f F) λa=>M.ofO (E a)
def f2(E:a0Z)(f g:FD):FD:=λD=>M.bind (f D) λa=>M.bind (g D) λb=>M.ofO (E a b)
noncomputable def ax:FL:=λ_=>M.ret []
def aa(f:FD)(g:FL):FL:=λD=>M.bind (f D) λa=>M.bind (g D) λE=>M.ret (a::E)
def aL(D:a0b->a0l)(g:FL):FD:=λE=>M.bind (g E) λF=>M.ofO (D F)
def bz(m:a0b->M D)(g:FL):FD:=λE=>M.bind (g E) λF=>m F
variable{X:Cx}{E:a0s}{e a b:Expr}{U:List Expr}{ab:Ub}
theorem NG(i:Nat)(h:PE X (.Name x ab) (jh i)):PE X (.Name x ab) (tV X.K (ag i) E):=h.imp λl H Q c=>by
 obtain⟨F,a,b,fr,f,r⟩:=c;obtain⟨d,e,r⟩:=run.ofO r;have g:a[i]?=My (My d):=by
  rw[O5]at e;cases q:a[i]? with
  |none=>rw[q]at e;cases e
  |some z=>rw[q]at e;simp at e;rw[e]
 obtain⟨v,j,k⟩:=f.tell i d g;exact⟨v,j,r v H (To.refl fr) k⟩
theorem p0(h:PE X e (tC v))(a:∀F H,bw X.K F H d v):PE X e (tV X.K (fC d) E):=h.imp λf H Q c=>by obtain⟨F,b,D,fr,g,r⟩:=c;exact run.ret fr r (a F H)
theorem ai{i j ab}:PE X (.Constant (.int i) j ab) (tV X.K (fC (.int i)) E):=p0 bQ λ_ _=>rfl
theorem pJ{i j ab}:PE X (.Constant (.bool i) j ab) (tV X.K (fC (.bl i)) E):=p0 NY λ_ _=>rfl
theorem wG{j ab}:PE X (.Constant .none j ab) (tV X.K (fC .non) E):=p0 Lp λ_ _=>rfl
theorem gA:PA X [] (hU X.K ax E):=gF.imp λd H Q c=>by obtain⟨F,a,b,fr,f,r⟩:=c;exact run.ret fr r ba.nil
theorem dU(D:PE X e (tV X.K f E))(j:PA X U (hU X.K g E))(G:Pe (e::U) X.env=(OQ,Qu e X.env)::Pe U X.env:=by rfl):PA X (e::U) (hU X.K (aa f g) E):=
 (dX D j G).imp λl H Q c=>i_ c λF b M fr i r=>⟨F,b,M,fr,i,(run.bind (R:=bw X.K F) r).mono λv m ⟨d,a,t,S,V⟩=>
  ⟨F,b,a,t.fr,i.tr (t.tr fr),(run.bind (R:=ba X.K F) V).mono λp n c=>lv c λq o t2 h k=>run.ret t2.fr k (ba.cons (bw.tr (t2.tr t.fr) _ _ S) h)⟩⟩
def bi(K:Pl)(r:R2)(E:a0Z):Prop:=∀(F:Fx) (H:Hp) (a:Bg) (Q:VK) (b e d:D) (f g:V),Fr F H a->bw K F H b f->bw K F H e g->E b e=My d->
 (∀v c,To F H c a->bw K F c d v->Q v c)->r f g H Q
def Jb(K:Pl)(r:V->Hp->VK->Prop)(e:D->a0l):Prop:=∀(F:Fx) (H:Hp) (a:Bg) (Q:VK) (b d:D) (f:V),Fr F H a->bw K F H b f->e b=My d->
 (∀v c,To F H c a->bw K F c d v->Q v c)->r f H Q
def db(K:Pl)(r:a0O)(E:a0b->a0l):Prop:=∀(F:Fx) (H:Hp) (a:Bg) (Q:VK) (b:a0b) (d:D) (e:a0k),Fr F H a->ba K F H b e->E b=My d->
 (∀v c,To F H c a->bw K F c d v->Q v c)->r e H Q
theorem n5{K:Pl}(l:bi K r op){H:Hp}(h:tV K (f2 op f g) E s H Q):N_ r (tV K f E) (tV K g E) s H Q:=by
 obtain⟨F,e,D,fr,j,h⟩:=h;refine⟨F,e,D,fr,j,(run.bind (R:=bw K F) h).mono λv q c=>lv c λd a t G M=>⟨F,e,a,t.fr,j.tr (t.tr fr),(run.bind (R:=bw K F) M).mono λm n c=>lv c λS b t2 i o=>?_⟩⟩;obtain⟨U,p,k⟩:=run.ofO o;exact l F n b Q d S U v m t2.fr (bw.tr (t2.tr t.fr) _ _ G) i p k
theorem aV(c:fw X (Se op) r)(l:bi X.K r o)(e:PE X a (tV X.K f E))(d:PE X b (tV X.K g E)):PE X (.BinOp a op b ab) (tV X.K (f2 o f g) E):=
 (dO c e d).imp λ_ _ _=>n5 l
theorem jO(c:fw X (Qy op) r)(l:bi X.K r o)(e:PE X a (tV X.K f E))(d:PE X b (tV X.K g E))(D:UP op b=OQ:=by first|exact tR _|rfl):PE X (.Compare a [op] [b] ab) (tV X.K (f2 o f g) E):=
 (JQ c e d D).imp λ_ _ _=>n5 l
theorem Ky(g:UnR X (unaryOp op) r)(l:Jb X.K r o)(e:PE X a (tV X.K f E)):PE X (.UnaryOp op a ab) (tV X.K (f1 o f) E):=
 (NX g e).imp λm H Q c=>i_ c λF D G fr i h=>⟨F,D,G,fr,i,(run.bind (R:=bw X.K F) h).mono λv j c=>lv c λd b t M S=>let ⟨d3,e3,k⟩:=run.ofO S;l F j b Q d d3 v t.fr M e3 k⟩
theorem bN(c:A_ X r)(l:bi X.K r o)(e:PE X a (tV X.K f E))(d:PE X b (tV X.K g E))(D:qq b:=by exact λ_ _=>rfl):PE X (.Subscript a b ab) (tV X.K (f2 o f g) E):=
 (fX c e d D).imp λ_ _ _=>n5 l
theorem yB{K:Pl}(l:db K r op){H:Hp}(h:tV K (aL op g) E m H Q):tCB r (hU K g E) m H Q:=by
 obtain⟨F,b,e,fr,c,h⟩:=h;refine⟨F,b,e,fr,c,(run.bind (R:=ba K F) h).mono λv f i=>lv i λd a t D G=>?_⟩;obtain⟨M,j,k⟩:=run.ofO G;exact l F f a Q d M v t.fr D j k
theorem bK{f:String}(h:cD X (.builtin f) r)(l:db X.K r op)(i:Gl X x)(a:X.mg x=OI)(j:Tx x=My (.builtin f))(b:PA X (e::U) (hU X.K g E))(D:x≠"__name__":=by decide)(c:(x==("__debug__":PZ))=OQ:=by decide)
  (k:Pe (e::U) X.env=(OQ,Qu e X.env)::Pe U X.env:=by rfl) (d:(SL ab (Pe U X.env)).any (·.1)=OQ:=by rfl):PE X (.Call (.Name x p) (e::U) [] ab) (tV X.K (aL op g) E):=
 (iE h i a j b D c k d).imp λ_ _ _=>yB l
theorem dL(f:cD X (.type T) r)(l:db X.K r op)(h:Gl X x)(a:X.mg x=OI)(i:Tx x=My (.type T))(b:PA X (e::U) (hU X.K g E))(D:x≠"__name__":=by decide)(c:(x==("__debug__":PZ))=OQ:=by decide)
  (j:Pe (e::U) X.env=(OQ,Qu e X.env)::Pe U X.env:=by rfl) (d:(SL ab (Pe U X.env)).any (·.1)=OQ:=by rfl):PE X (.Call (.Name x p) (e::U) [] ab) (tV X.K (aL op g) E):=
 (zj f h a i b D c j d).imp λ_ _ _=>yB l
noncomputable def fE(a:a0b):a0l:=if a.length<=Pk then My (.tup a)else OI
noncomputable def dQ(ds:a0b):a0l:=if ds.length<=Pk then My (.lst ds)else OI
theorem bw.newT{K:Pl}{F:Fx}{H:Hp}(fr:Fr F H f)(h:H p=OI)(a:ba K F H d c):bw K F (upd H p (.tup c)) (.tup d) (.ref p):=
 ⟨p,c,rfl,.inl ⟨fr.fresh h,.inl ao⟩,ba.tr ((fr.upd _ h).tr fr) _ _ a⟩
theorem bw.newL{K:Pl}{F:Fx}{H:Hp}(fr:Fr F H f)(h:H p=OI)(a:ba K F H d c):bw K F (upd H p (.lst c)) (.lst d) (.ref p):=
 ⟨p,c,rfl,⟨fr.fresh h,.inl ao⟩,ba.tr ((fr.upd _ h).tr fr) _ _ a⟩
theorem cm{m}(h:PA X U (hU X.K g E)):PE X (.Tuple U m ab) (tV X.K (aL fE g) E):=
 (Lm h).imp λj H Q d=>i_ d λF b e fr i r=>⟨F,b,e,fr,i,(run.bind (R:=ba X.K F) r).mono λM l d=>by
  obtain⟨S,D,t,a,G⟩:=d;obtain⟨V,c,k⟩:=run.ofO G;unfold fE at c;split at c
  .cases c
   exact⟨by rw[<-a.length];assumption,λp f=>k _ _ (t.fr.upd _ f) (bw.newT t.fr f a)⟩
  .cases c⟩
theorem c7(h:PA X U (hU X.K g E)):PE X (.List U ab) (tV X.K (aL dQ g) E):=
 (fW h).imp λj H Q d=>i_ d λF b e fr i r=>⟨F,b,e,fr,i,(run.bind (R:=ba X.K F) r).mono λM l d=>by
  obtain⟨S,D,t,a,G⟩:=d;obtain⟨V,c,k⟩:=run.ofO G;unfold dQ at c;split at c
  .cases c
   exact⟨by rw[<-a.length];assumption,λp f=>k _ _ (t.fr.upd _ f) (bw.newL t.fr f a)⟩
  .cases c⟩
def y2(K:Pl)(n:Nat)(m:a0b->M D):Sp:=λa H Q E=>a.length=n/\∃F b e,Fr F H e/\ba K F H b a/\run (bw K F) F (λ_=>E) [] (m b) H Q e
variable{p:Ub}{x:PZ}{k n:Nat}{f:OM}{fd:Py}{ps:a0i}
theorem run.toE{a c:Type}{R:Hp->a->c->Prop}{F:Fx}{E:a0s}{d:St}{m:M a}{H:Hp}{Q:c->Hp->Prop}{b:Bg}(h:run R F E d m H Q b):run R F (λ_=>E d) [] m H Q b:=h
theorem yk(G:ee X.prog X.w X.K X.mg X.base (fx X.prog X.w) k f fd ps (y2 X.K n m))(q:dt k X.A)(u:Gl X x)(V:X.mg x=My (.ref f))(v:U8 X.K (.ref f)=OL)(y:aC X.K fd ps [])(s:cM (fx X.prog X.w) X E)
  (z:PA X (e::U) (hU X.K g E)) (P:∀a b r h,g a b=My (.ok r,h)->r.length=n) (c:(x==("__debug__":PZ))=OQ:=by decide) (B:Pe (e::U) X.env=(OQ,Qu e X.env)::Pe U X.env:=by rfl) (d:(SL ab (Pe U X.env)).any (·.1)=OQ:=by rfl):
  PE X (.Call (.Name x p) (e::U) [] ab) (tV X.K (bz m g) E):=
 (jB G q u V v y .nil s z c B d).imp λO H Q I=>i_ I λF a b fr J r=>⟨F,a,b,fr,J,by
  obtain⟨M,i,l,o⟩:=run.bind (R:=ba X.K F) r;refine⟨M,i,l,?_⟩;cases M with
  |error C=>exact o
  |ok Z=>
   intro T L t S;obtain⟨W,D,t1,j,Y⟩:=o T L t S;have N:=P _ _ _ _ l;refine⟨by rw[PN,<-S.length,N],F,W,D,t1.fr,by rw[PN];exact j,run.toE Y⟩⟩
theorem u3{r:a0b}(h:ax d g=My (.ok r,c)):r.length=0:=by cases h;rfl
theorem cj{f:FD}{n:Nat}(d:∀a b r c,g a b=My (.ok r,c)->r.length=n):∀a b r c,aa f g a b=My (.ok r,c)->r.length=n+1:=by
 intro a b r c h;unfold aa M.bind at h;split at h
 .cases h
 .cases h
 .dsimp only at h
  split at h
  .cases h
  .cases h
  .rename_i as _ i
   cases h;rw[Pb,d _ _ _ _ i]
noncomputable def nl(g:Int->Int->a0l):D->D->a0l
 | .int i,.int j=>g i j
 |_,_=>OI
theorem iF{a b d:D}(h:nl g a b=My d):∃i j,a= .int i/\b= .int j/\g i j=My d:=by
 cases a<;>cases b<;>first|(exact⟨_,_,rfl,rfl,h⟩)|(cases h)
theorem zN{g:a0L}:bi K (p3 λi j=> .int (g i j)) (nl λi j=>My (.int (g i j))):=λF H a Q b f d l m fr c h e k=>by
 obtain⟨i,j,rfl,rfl,e⟩:=iF e;cases e;exact⟨i,j,c,h,k _ H (To.refl fr) rfl⟩
theorem j3{g:Int->Int->Bool}:bi K (p3 λi j=> .bl (g i j)) (nl λi j=>My (.bl (g i j))):=λF H a Q b f d l m fr c h e k=>by
 obtain⟨i,j,rfl,rfl,e⟩:=iF e;cases e;exact⟨i,j,c,h,k _ H (To.refl fr) rfl⟩
theorem qN{C:a0W}{c:Int->Int->Bool}{g:a0L}(l:∀i j,c i j=OL->C i j):bi K (rI C λi j=> .int (g i j)) (nl λi j=>if c i j=OL then My (.int (g i j))else OI):=λF H a Q b f d q r fr m o e k=>by
 obtain⟨i,j,rfl,rfl,h⟩:=iF e;split at h
 .cases h
  exact⟨i,j,m,o,l _ _ (by assumption),k _ H (To.refl fr) rfl⟩
 .cases h
noncomputable def gB(i:Int):Bool:=decide (i.natAbs<2^1000)
def KQ:D->D->a0l:=nl λi j=>My (.int (i-j))
def xQ:D->D->a0l:=nl λi j=>if(decide (0<j)&&decide (j.natAbs.log2<9000))=OL then My (.int (i/j))else OI
def Z9:D->D->a0l:=nl λi j=>My (.bl (decide (i<j)))
def PC:D->D->a0l:=nl λi j=>My (.bl (decide (i<=j)))
def gtD:D->D->a0l:=nl λi j=>My (.bl (decide (j<i)))
theorem f6:bi K (p3 λi j=> .int (i-j)) KQ:=zN
theorem xx:bi K (p3 λi j=> .bl (decide (i<j))) Z9:=j3
theorem nz:bi K (p3 λi j=> .bl (decide (i<=j))) PC:=j3
theorem DU:bi K (p3 λi j=> .bl (decide (j<i))) gtD:=j3
theorem LW:bi K (rI so λi j=> .int (i/j)) xQ:=qN λi j h=>by
 simp only[PP,PX]at h;exact h
noncomputable def wZ:R2:=λx y H Q=>∃l b a c,x= .ref l/\y= .ref b/\Rd H l (.lst a)/\Rd H b (.lst c)/\a.length+c.length<=Pk/\∀p,H p=OI->Q (.ref p) (upd H p (.lst (a++c)))
theorem JU:fw X (Se .Add) wZ:=by
 intro d s t H x y v u Q I i j h;obtain⟨l,b,f,w,rfl,rfl,m,hB,A,q⟩:=h;cases i;cases j;obtain⟨z,a,n,r,e⟩:=m.ok I.hok;obtain⟨B,c,C,g,o⟩:=hB.ok I.hok;have J:=r.length;have L:=g.length;refine YI e o ?_ (by simp only[Pg];lia);rw[show a.toArray++c.toArray=(a++c).toArray by simp];exact⟨.ref _,_,I.lnew (t':=s.toks) (r.append g) (by rw[O1];lia),rfl,q _ I.fresh⟩
def w4(K:Pl):R2:=λx y H Q=>∃a b e,x= .ref a/\y= .ref b/\g_ K H a []/\g_ K H b e/\Q (.ref b) H
theorem JV:fw X (Se .Add) (w4 X.K):=by
 intro l s N H x y v u Q I t w h;obtain⟨a,b,F,rfl,rfl,f,A,q⟩:=h;cases t;cases w;obtain⟨k,p,B,_⟩:=I.tuple f;obtain⟨m,O,p2,_⟩:=I.tuple A;cases p;obtain⟨⟨G,D,C,i⟩,o,r,n,e⟩:=B;obtain⟨⟨M,E,J,j⟩,c,d,L,g⟩:=p2;simp only at r e d g;subst r e d g;exact PySem.concat_meets ⟨_,o,rfl⟩ ⟨_,c,rfl⟩ Xo YQ Vr Vi (U5 _ _) (tuple_addW0 a b _ _ n L D E i j (by simp)) ⟨o,c,⟨.ref b,H,I,rfl,q⟩⟩
noncomputable def eZ:D->D->a0l
 | .int i,.int j=>My (.int (i+j))
 | .tup [],.tup b=>My (.tup b)
 | .lst a,.lst b=>if a.length+b.length<=Pk then My (.lst (a++b))else OI
 | .tup (c::a),.tup b=>if(c::a).length+b.length<=Pk then My (.tup (c::a++b))else OI
 |_,_=>OI
theorem bH:bi K (λx y H Q=>(p3 λi j=> .int (i+j)) x y H Q\/wZ x y H Q\/wY K x y H Q\/w4 K x y H Q) eZ:=λF H E Q G M d v w fr h l e k=>by
 unfold eZ at e;split at e
 .cases e
  exact .inl ⟨_,_,h,l,k _ H (To.refl fr) rfl⟩
 .cases e
  obtain⟨a,f,rfl,n,c⟩:=bw.sqT h;obtain⟨b,D,rfl,m,g⟩:=bw.sqT l;have q:f=[]:=c;subst q;exact .inr (.inr (.inr ⟨a,b,D,rfl,rfl,n,m,k _ H (To.refl fr) l⟩))
 .split at e
  .cases e
   obtain⟨a,f,rfl,n,c⟩:=bw.rdL h;obtain⟨b,D,rfl,m,g⟩:=bw.rdL l;exact .inr (.inl ⟨a,b,f,D,rfl,rfl,n,m,by rw[<-c.length,<-g.length];assumption,λp o=>k _ _ (fr.upd _ o) (bw.newL fr o (c.append g))⟩)
  .cases e
 .split at e
  .cases e
   obtain⟨a,f,rfl,n,c⟩:=bw.sqT h;obtain⟨b,D,rfl,m,g⟩:=bw.sqT l;have r:=c.length;have t:=g.length;refine .inr (.inr (.inl ⟨a,b,f,D,rfl,rfl,n,m,(λz=>by subst z;cases r),by rw[<-r,<-t];assumption,λz=>?_,λ_ p o=>k _ _ (fr.upd _ o) (bw.newT fr o (c.append g))⟩));subst z;have u:=Rm.mp t;subst u;rw[PN]at k;exact k _ H (To.refl fr) h
  .cases e
 .cases e
theorem aM:fw X (Se .Add) (λx y H Q=>(p3 λi j=> .int (i+j)) x y H Q\/wZ x y H Q\/wY X.K x y H Q\/w4 X.K x y H Q):=oN.or (JU.or (JT.or JV))
def DB:D->D->a0l:=nl λi j=>if(gB i&&gB j)=OL then My (.int (i*j))else OI
theorem rJ:bi K (rI sk λi j=> .int (i*j)) DB:=qN λi j h=>by
 simp only[PP,gB,PX]at h;exact h
noncomputable def Zx:D->D->a0C
 | .non,.non=>My OL
 | .int i,.int j=>My (decide (i=j))
 | .bl i,.bl j=>My (decide (i=j))
 | .str i,.str j=>My (decide (i=j))
 | .int _,.str _=>My OQ
 | .str _,.int _=>My OQ
 | .bl _,.str _=>My OQ
 | .str _,.bl _=>My OQ
 | .non,.int _=>My OQ
 | .int _,.non=>My OQ
 | .non,.str _=>My OQ
 | .str _,.non=>My OQ
 |_,_=>OI
theorem AT{F:Fx}{H:Hp}{a b:D}{c:Bool}(h:Zx a b=My c)(d:bw K F H a v)(g:bw K F H b w):CF v w=OL/\decide (v=w)=c:=by
 unfold Zx at h;split at h<;>first
  |(cases h;cases d.int;cases g.int;exact⟨rfl,by simp⟩)
  |(cases h;cases d.bl;cases g.bl;exact⟨rfl,by simp⟩)
  |(cases h;cases d.str;cases g.str;exact⟨rfl,by simp⟩)
  |(cases h;cases d.non;cases g.non;exact⟨rfl,by simp⟩)
  |(cases h;cases d.int;cases g.str;exact⟨rfl,rfl⟩)
  |(cases h;cases d.str;cases g.int;exact⟨rfl,rfl⟩)
  |(cases h;cases d.bl;cases g.str;exact⟨rfl,rfl⟩)
  |(cases h;cases d.str;cases g.bl;exact⟨rfl,rfl⟩)
  |(cases h;cases d.non;cases g.int;exact⟨rfl,rfl⟩)
  |(cases h;cases d.int;cases g.non;exact⟨rfl,rfl⟩)
  |(cases h;cases d.non;cases g.str;exact⟨rfl,rfl⟩)
  |(cases h;cases d.str;cases g.non;exact⟨rfl,rfl⟩)
  |cases h
noncomputable def isN:D->Bool
 | .non=>OL
 |_=>OQ
theorem LY{F:Fx}{H:Hp}(h:bw K F H d v):decide (v= .non)=isN d:=by
 cases d with
 |non=>cases h.non;rfl
 |bl b=>cases h.bl;rfl
 |int b=>cases h.int;rfl
 |str b=>cases h.str;rfl
 |ty b=>cases h.ty;rfl
 |txt=>unfold bw at h;obtain⟨z,rfl⟩:=h;rfl
 |lst ds=>obtain⟨a,e,rfl,_⟩:=bw.sqL h;rfl
 |tup ds=>obtain⟨a,e,rfl,_⟩:=bw.sqT h;rfl
 |scr ds=>obtain⟨a,rfl,_⟩:=bw.scr h;rfl
 |obj C ns ds=>
  unfold bw at h;obtain⟨a,_,_,rfl,_⟩:=h;rfl
 |bag=>
  unfold bw at h;obtain⟨a,_,_,rfl⟩:=h;rfl
 |adr a=>
  unfold bw at h;obtain rfl:=h;rfl
 |dct b ks vs=>
  unfold bw at h;obtain⟨a,_,e,rfl,_⟩:=h;rfl
noncomputable def xI:D->D->a0l
 |a,.non=>My (.bl (isN a))
 |_,_=>OI
theorem xy:bi K (λx y H Q=>y= .non/\Q (.bl (decide (x= .non))) H) xI:=λF H a Q b f d h i fr c g e k=>by
 unfold xI at e;split at e
 .cases e
  exact⟨g,by rw[LY c];exact k _ H (To.refl fr) rfl⟩
 .cases e
noncomputable def eQ:D->Bool
 | .int _=>OL| .bl _=>OL| .str _=>OL| .non=>OL|_=>OQ
noncomputable def eqF:D->D->Bool
 | .non,.non=>OL
 | .bl a,.bl b=>a==b
 | .bl a,.int b=>(if a then 1 else 0)==b
 | .int a,.bl b=>a==(if b then 1 else 0)
 | .int a,.int b=>a==b
 | .str a,.str b=>a==b
 |_,_=>OQ
noncomputable def c9:D->a0D
 | .lst a=>My a
 | .tup a=>My a
 |_=>OI
def PJ(x:D)(a:a0b):Bool:=a.any λy=>eqF y x
def F0(a:Bool)(x y:D):a0l:=(c9 y).bind λb=>if(eQ x&&b.all eQ)=OL then My (.bl (if a then !PJ x b else PJ x b))else OI
theorem qb{F:Fx}{H:Hp}(f:eQ d=OL)(h:bw K F H d v):gz v=OL:=by
 cases d<;>first|(cases h.int;rfl)|(cases h.bl;rfl)|(cases h.str;rfl)|(cases h.non;rfl)|cases f
theorem Mp{F:Fx}{H:Hp}{a b:D}(g:eQ a=OL)(h:eQ b=OL)(c:bw K F H a v)(d:bw K F H b w):F3 v w=eqF a b:=by
 cases a<;>first
  |(exfalso;exact O4 g)
  |(cases b<;>first
   |(exfalso;exact O4 h)
   |(cases c.int;cases d.int;rfl)|(cases c.int;cases d.bl;rfl)|(cases c.int;cases d.str;rfl)|(cases c.int;cases d.non;rfl)
   |(cases c.bl;cases d.int;rfl)|(cases c.bl;cases d.bl;rfl)|(cases c.bl;cases d.str;rfl)|(cases c.bl;cases d.non;rfl)
   |(cases c.str;cases d.int;rfl)|(cases c.str;cases d.bl;rfl)|(cases c.str;cases d.str;rfl)|(cases c.str;cases d.non;rfl)
   |(cases c.non;cases d.int;rfl)|(cases c.non;cases d.bl;rfl)|(cases c.non;cases d.str;rfl)|(cases c.non;cases d.non;rfl))
theorem uv{F:Fx}{H:Hp}{x:D}(c:eQ x=OL)(e:bw K F H x v):∀{b:a0b} {a:a0k},b.all eQ=OL->ba K F H b a->a.all gz=OL/\Z_ v a=PJ x b
 |[],a,_,h=>by have q:a=[]:=h;subst q;exact⟨rfl,rfl⟩
 |d::b,a,f,h=>by
  obtain⟨y,r,q,g,i⟩:=h;subst q;rw[Vn,PP]at f;obtain⟨j,i2⟩:=uv c e f.2 i;refine⟨by rw[Vn,qb f.1 g,j];rfl,?_⟩;unfold Z_ PJ at i2⊢;rw[Uk,Uk,i2,Mp f.1 c g e]
theorem DT{neg:Bool}:bi K (rIn K neg) (F0 neg):=λF H p Q x n d l m fr g j e k=>by
 unfold F0 at e;cases q:c9 n with
 |none=>rw[q]at e;cases e
 |some D=>
  rw[q]at e;simp only[RZ]at e;split at e
  .rename_i c
   rw[PP]at c;cases e;cases n<;>first|(cases q;obtain⟨a,b,rfl,f,h⟩:=bw.sqL j;obtain⟨i,i2⟩:=uv c.1 g c.2 h;exact⟨a,b,rfl,.inl f,qb c.1 g,i,by rw[i2];exact k _ H (To.refl fr) rfl⟩)|(cases q;obtain⟨a,b,rfl,f,h⟩:=bw.sqT j;obtain⟨i,i2⟩:=uv c.1 g c.2 h;exact⟨a,b,rfl,.inr f,qb c.1 g,i,by rw[i2];exact k _ H (To.refl fr) rfl⟩)|cases q
  .cases e
def hY:D->D->a0l
 | .lst xs,.int i=>nj xs i
 | .tup xs,.int i=>nj xs i
 |_,_=>OI
theorem uW{F:Fx}{H:Hp}(h:ba K F H c g)(e:nj c i=My d):∃v,nj g i=My v/\bw K F H d v:=by
 unfold nj at e⊢;rw[<-h.length];cases q:o0 c.length i with
 |none=>rw[q]at e;cases e
 |some j=>
  rw[q]at e;exact h.get e
theorem bW:bi K (λx y H Q=>tE K x y H Q\/CJ K x y H Q) hY:=λF H f Q n p d j l fr h i e k=>by
 unfold hY at e;split at e
 .obtain⟨a,xs,rfl,r1,c⟩:=bw.sqL h
  obtain⟨v,g,b⟩:=uW c e;exact .inl ⟨a,xs,_,v,rfl,i,r1,g,k _ H (To.refl fr) b⟩
 .obtain⟨a,xs,rfl,r1,c⟩:=bw.sqT h
  obtain⟨v,g,b⟩:=uW c e;exact .inr ⟨a,xs,_,v,rfl,i,r1,g,k _ H (To.refl fr) b⟩
 .cases e
theorem aY:A_ X (λx y H Q=>tE X.K x y H Q\/CJ X.K x y H Q):=dG.or LX
noncomputable def fZ:a0b->a0l
 |[.lst xs]=>My (.int xs.length)
 |[.tup xs]=>My (.int xs.length)
 |_=>OI
theorem ba.one{F:Fx}{H:Hp}(h:ba K F H [d] i):∃v,i=[v]/\bw K F H d v:=by
 obtain⟨x,r,e,c,g⟩:=h;have q:r=[]:=g;subst q;exact⟨x,e,c⟩
theorem ba.two{F:Fx}{H:Hp}(h:ba K F H [d,c] l):∃v w,l=[v,w]/\bw K F H d v/\bw K F H c w:=by
 obtain⟨x,r,e,g,i⟩:=h;obtain⟨y,rfl,j⟩:=ba.one i;exact⟨x,y,e,g,j⟩
theorem Og:db K (λb H Q=>∃p f,b=[.ref p]/\(en K H p f\/g_ K H p f)/\Q (.int f.length) H) fZ:=λF H n Q x d D fr h e k=>by
 unfold fZ at e;split at e
 .cases e
  obtain⟨v,rfl,g⟩:=ba.one h;obtain⟨a,b,rfl,r,c⟩:=bw.sqL g;exact⟨a,b,rfl,.inl r,by rw[<-c.length];exact k _ H (To.refl fr) rfl⟩
 .cases e
  obtain⟨v,rfl,g⟩:=ba.one h;obtain⟨a,b,rfl,r,c⟩:=bw.sqT g;exact⟨a,b,rfl,.inr r,by rw[<-c.length];exact k _ H (To.refl fr) rfl⟩
 .cases e
noncomputable def tY:a0b->a0l
 |[.int i,.int j]=>My (.int (if j<i then j else i))
 |_=>OI
noncomputable def xo:a0b->a0l
 |[.int i,.int j]=>My (.int (if j>i then j else i))
 |_=>OI
theorem rK:db K (λa H Q=>∃i j,a=[.int i,.int j]/\Q (.int (if j<i then j else i)) H) tY:=λF H f Q n d p fr h e k=>by
 unfold tY at e;split at e
 .cases e
  obtain⟨v,w,rfl,g,b⟩:=ba.two h;cases g.int;cases b.int;exact⟨_,_,rfl,k _ H (To.refl fr) rfl⟩
 .cases e
theorem IO:db K (λa H Q=>∃i j,a=[.int i,.int j]/\Q (.int (if j>i then j else i)) H) xo:=λF H f Q n d p fr h e k=>by
 unfold xo at e;split at e
 .cases e
  obtain⟨v,w,rfl,g,b⟩:=ba.two h;cases g.int;cases b.int;exact⟨_,_,rfl,k _ H (To.refl fr) rfl⟩
 .cases e
noncomputable def eD:a0b->Option a0e
 |[]=>My []
 | .int i::r=>(eD r).map (i::·)
 |_=>OI
theorem h8:∀{a:a0b} {b:a0e},eD a=My b->a=b.map D.int
 |[],b,h=>by cases h;rfl
 |d::a,b,h=>by
  cases d with
  |int i=>
   unfold eD at h;cases q:eD a with
   |none=>rw[q]at h;cases h
   |some c=>rw[q]at h;cases h;rw[h8 q];rfl
  |_=>cases h
def BZ:a0b->a0l
 |[.lst xs]=>(eD xs).map λa=> .int a.sum
 |_=>OI
theorem Of:db K (λf H Q=>∃(a:OM) (b:a0e),f=[.ref a]/\en K H a (b.map V.int)/\Q (.int b.sum) H) BZ:=λF H n Q p d x fr h e k=>by
 unfold BZ at e;split at e
 .rename_i f
  cases q:eD f with
  |none=>rw[q]at e;cases e
  |some b=>
   rw[q]at e;cases e;obtain⟨v,rfl,g⟩:=ba.one h;obtain⟨a,D,rfl,r,c⟩:=bw.sqL g;rw[h8 q]at c;have i:=ba.ints b c;subst i;exact⟨a,b,rfl,r,k _ H (To.refl fr) rfl⟩
 .cases e
noncomputable def rH:a0b->a0l
 |[.lst xs]=>My (.lst xs)
 |[.tup xs]=>My (.lst xs)
 |_=>OI
theorem oW:db K (λb H Q=>∃p f,b=[.ref p]/\(en K H p f\/g_ K H p f)/\∀l,H l=OI->Q (.ref l) (upd H l (.lst f))) rH:=λF H n Q x d D fr h e k=>by
 unfold rH at e;split at e
 .cases e
  obtain⟨v,rfl,g⟩:=ba.one h;obtain⟨a,b,rfl,r,i⟩:=bw.sqL g;exact⟨a,b,rfl,.inl r,λl c=>k _ _ (fr.upd _ c) (bw.newL fr c i)⟩
 .cases e
  obtain⟨v,rfl,g⟩:=ba.one h;obtain⟨a,b,rfl,r,i⟩:=bw.sqT g;exact⟨a,b,rfl,.inr r,λl c=>k _ _ (fr.upd _ c) (bw.newL fr c i)⟩
 .cases e
noncomputable def sF:a0b->a0l
 |[.lst xs]=>My (.tup xs)
 |[.tup xs]=>My (.tup xs)
 |_=>OI
theorem jE:db K (λb H Q=>∃p f,b=[.ref p]/\((en K H p f/\∀l,H l=OI->Q (.ref l) (upd H l (.tup f)))\/(g_ K H p f/\Q (.ref p) H))) sF:=λF H n Q x d D fr h e k=>by
 unfold sF at e;split at e
 .cases e
  obtain⟨v,rfl,g⟩:=ba.one h;obtain⟨a,b,rfl,r,c⟩:=bw.sqL g;exact⟨a,b,rfl,.inl ⟨r,λl i=>k _ _ (fr.upd _ i) (bw.newT fr i c)⟩⟩
 .cases e
  obtain⟨v,rfl,g⟩:=ba.one h;obtain⟨a,b,rfl,r,c⟩:=bw.sqT g;exact⟨a,b,rfl,.inr ⟨r,k _ H (To.refl fr) g⟩⟩
 .cases e
noncomputable def asB:D->a0C
 | .bl b=>My b
 |_=>OI
theorem iO{b:Bool}(h:asB d=My b):d= .bl b:=by cases d<;>first|(cases h;rfl)|cases h
noncomputable def BV:D->a0C
 | .non=>My OQ
 | .bl b=>My b
 | .int i=>My (i !=0)
 | .lst xs=>My (!xs.isEmpty)
 | .tup xs=>My (!xs.isEmpty)
 |_=>OI
def fB(f:FD):Dn->M Bool:=λa=>M.bind (f a) λd=>M.ofO (asB d)
def uF(f:FD):Dn->M Bool:=λa=>M.bind (f a) λd=>M.ofO (BV d)
def qc(f g:a0r):Dn->M Bool:=λa=>M.bind (f a) λc=>if c=OL then M.ret OL else g a
def xS(f:a0r):Dn->M Bool:=λa=>M.bind (f a) λc=>M.ret (!c)
def xT(f g:FD):FD:=λa=>M.bind (f a) λd=>M.bind (M.ofO (asB d)) λc=>if c=OL then g a else M.ret (.bl OQ)
def Zw(t:a0r)(f g:FD):FD:=λa=>M.bind (t a) λc=>if c=OL then f a else g a
def ph(o d:a0Z)(f g h:FD):FD:=λe=>M.bind (f e) λa=>M.bind (g e) λb=>M.bind (M.ofO (o a b)) λz=>M.bind (M.ofO (asB z)) λc=>if c=OL then M.bind (h e) (λw=>M.ofO (d b w))else M.ret (.bl OQ)
variable{c:Expr}{n:List Expr}
theorem M.ofO_bind{b d:Type}{o:Option b}{k:b->M d}{c:Bg}{z:Except OM d×Bg}(h:M.bind (M.ofO o) k c=My z):∃a,o=My a/\k a c=My z:=by
 cases o with
 |none=>cases h
 |some a=>exact⟨a,rfl,h⟩
theorem run.ofO_bind{b g i:Type}{R:Hp->g->i->Prop}{F:Fx}{j:St}{o:Option b}{k:b->M g}{H:Hp}{Q:i->Hp->Prop}{c:Bg}(h:run R F E j (M.bind (M.ofO o) k) H Q c):∃a,o=My a/\run R F E j (k a) H Q c:=by
 obtain⟨r,d,e,h⟩:=h;obtain⟨a,q,e⟩:=M.ofO_bind e;exact⟨a,q,r,d,e,h⟩
theorem run.bOk{F:Fx}{H:Hp}(fr:Fr F H g)(c:bw K F H d v)(h:run (λ_ (a b:Bool)=>b=a) F E i (M.ofO (asB d)) H Q g):∃k,v= .bl k/\Q k H:=by
 obtain⟨b,e,k⟩:=run.ofO h;rw[iO e]at c;exact⟨b,c,k b H (To.refl fr) rfl⟩
theorem mU{f:FD}{H:Hp}(h:g8 K (fB f) E m H Q):tV K f E m H λx g=>∃k,x= .bl k/\Q k g:=by
 obtain⟨F,a,b,fr,i,h⟩:=h;exact⟨F,a,b,fr,i,(run.bind (R:=bw K F) h).mono λv l j=>lv j λd c t e n=>run.bOk t.fr e n⟩
theorem bC{f g:FD}(d:fw X (Qy op) r)(l:bi X.K r o)(c:PE X a (tV X.K f E))(i:PE X b (tV X.K g E))(e:UP op b=OQ:=by first|exact tR _|rfl):PT X (.Compare a [op] [b] ab) (g8 X.K (fB (f2 o f g)) E):=
 (vG d c i e).imp λj H Q h=>n5 l (mU h)
theorem yz{f g h:FD}(l:bi K r o)(T:bi K r' s){H:Hp}(y:tV K (ph o s f g h) E σ H Q):yA r r' (tV K f E) (tV K g E) (tV K h E) σ H Q:=by
 obtain⟨F,b,D,fr,A,y⟩:=y;refine⟨F,b,D,fr,A,(run.bind (R:=bw K F) y).mono λv H1 i=>lv i λd n t G S=>⟨F,b,n,t.fr,A.tr (t.tr fr),(run.bind (R:=bw K F) S).mono λN U i=>lv i λp a t2 j W=>?_⟩⟩;obtain⟨z,O,Y⟩:=run.ofO_bind W;obtain⟨c,Z,u⟩:=run.ofO_bind Y;rw[iO Z]at O;refine l F U a _ d p _ v N t2.fr (bw.tr (t2.tr t.fr) _ _ G) j O λvz P t3 V=>⟨c,V,?_⟩;cases c with
 |true=>
  rw[OZ rfl]at u;refine⟨F,b,a,t3.fr,A.tr ((t.tr fr).trans ((t2.tr t.fr).trans (t3.tr t2.fr))),?_⟩;have X:run (bw K F) F E σ (M.bind (h b) λw=>M.ofO (s p w)) P Q a:=by
   obtain⟨B,m,e,q⟩:=u;refine⟨B,m,e,?_⟩;cases B with
   |ok d=>exact λv I x=>q v I (t3.trans x)
   |error C=>exact λI x=>q I (t3.trans x)
  refine(run.bind (R:=bw K F) X).mono λw H4 i=>lv i λdw J t4 L r6=>?_;obtain⟨d3,e3,k⟩:=run.ofO r6;exact T F H4 J Q p dw d3 N w t4.fr (bw.tr ((t3.tr t2.fr).trans (t4.tr t3.fr)) _ _ j) L e3 k
 |false=>
  rw[OY O4]at u;obtain⟨B,m,e,q⟩:=u;cases e;exact q _ P t3 rfl
theorem vi{f g h:FD}(i:fw X (Qy op) r)(d:fw X (Qy s) v)(l:bi X.K r o)(j:bi X.K v w)(e:PE X a (tV X.K f E))(m:PE X b (tV X.K g E))(t:PE X c (tV X.K h E))(k:Zb [op,s] [b,c]=OQ:=by with_unfolding_all rfl):
  PT X (.Compare a [op,s] [b,c] ab) (g8 X.K (fB (ph o w f g h)) E):=(CL i d e m t k).imp λu H Q q=>yz l j (mU q)
theorem Jm{F:Fx}{H:Hp}{k:Bool}(h:BV d=My k)(c:bw K F H d v):GY K v H k:=by
 cases d with
 |non=>cases h;cases c.non;rfl
 |bl b=>cases h;cases c.bl;rfl
 |int i=>cases h;cases c.int;rfl
 |lst xs=>
  cases h;obtain⟨a,e,rfl,r,g⟩:=bw.sqL c;refine .inl ⟨e,r,?_⟩;have:=g.length;cases xs<;>cases e<;>first|rfl|(simp at this)
 |tup xs=>
  cases h;obtain⟨a,e,rfl,r,g⟩:=bw.sqT c;refine .inr ⟨e,r,?_⟩;have:=g.length;cases xs<;>cases e<;>first|rfl|(simp at this)
 |_=>cases h
theorem lS{f:FD}(b:PE X a (tV X.K f E))(j:∀g,isTrue a X.env g=(do let v <-g;Us a.pos;Vk [v] (truthy v)):=by intro _;rfl):PT X a (g8 X.K (uF f) E):=
 (CK b j).imp λo H Q i=>i_ i λF c n fr l h=>⟨F,c,n,fr,l,(run.bind (R:=bw X.K F) h).mono λv m i=>by
  obtain⟨d,p,t,x,D⟩:=i;obtain⟨k,e,q⟩:=run.ofO D;exact⟨k,Jm e x,q k m (To.refl t.fr) rfl⟩⟩
theorem nZ{f:a0r}(c:PT X a (g8 X.K f E)):PT X (.UnaryOp .Not a ab) (g8 X.K (xS f) E):=
 (Lh c).imp λj H Q g=>i_ g λF e k fr i h=>⟨F,e,k,fr,i,(run.bind (R:=λ_ (a b:Bool)=>b=a) h).mono λv l g=>by
  obtain⟨d,n,t,p,x⟩:=g;subst p;exact run.ret t.fr x rfl⟩
theorem KF{f g:a0r}{H:Hp}(h:g8 K (qc f g) E m H Q):tOr (g8 K f E) (g8 K g E) m H Q:=by
 obtain⟨F,k,n,fr,i,h⟩:=h;refine⟨F,k,n,fr,i,(run.bind (R:=λ_ (a b:Bool)=>b=a) h).mono λv l j=>lv j λd e t p c=>?_⟩;subst p;cases v with
 |false=>rw[OY O4]at c⊢;exact⟨F,k,e,t.fr,i.tr (t.tr fr),c⟩
 |true=>rw[OZ rfl]at c⊢;exact run.ret t.fr c rfl
theorem nV{f:a0r}(b:PT X a (g8 X.K f E)):PW X (.BoolOp .Or [a] ab) (g8 X.K f E):=Lf b
theorem sE{f g:a0r}(c:PT X a (g8 X.K f E))(d:PW X (.BoolOp .Or (b::n) ab) (g8 X.K g E)):PW X (.BoolOp .Or (a::b::n) ab) (g8 X.K (qc f g) E):=(NV c d).imp λ_ _ _=>KF
theorem kD{e:Expr}{f:a0r}(h:PW X e (g8 X.K f E)):PT X e (g8 X.K f E):=PW.pt h
theorem HM{op}{f:FD}(h:PE X a (tV X.K f E)):PE X (.BoolOp op [a] ab) (tV X.K f E):=Lo h
theorem run.asB{F:Fx}{k:Bool->M D}{H:Hp}(a:bw K F H d v)(h:run (bw K F) F E g (M.bind (M.ofO (asB d)) k) H Q i):∃c,v= .bl c/\run (bw K F) F E g (k c) H Q i:=by
 obtain⟨c,e,h⟩:=run.ofO_bind h;rw[iO e]at a;exact⟨c,a,h⟩
theorem HP{f g:FD}(x:PE X a (tV X.K f E))(m:PE X (.BoolOp .And (b::n) ab) (tV X.K g E)):PE X (.BoolOp .And (a::b::n) ab) (tV X.K (xT f g) E):=
 (Ls x m).imp λo H Q j=>i_ j λF p D fr l h=>⟨F,p,D,fr,l,(run.bind (R:=bw X.K F) h).mono λv q j=>by
  obtain⟨d,k,t,G,M⟩:=j;obtain⟨c,e,i⟩:=run.asB G M;refine⟨c,e,?_⟩;cases c with
  |true=>rw[OZ rfl]at i⊢;exact⟨F,p,k,t.fr,l.tr (t.tr fr),i⟩
  |false=>rw[OY O4]at i⊢;exact run.ret t.fr i rfl⟩
theorem v_if{f g:FD}(l:PT X c (g8 X.K t E))(p:PE X a (tV X.K f E))(m:PE X b (tV X.K g E)):PE X (.IfExp c a b ab) (tV X.K (Zw t f g) E):=
 (CT l p m).imp λo H Q i=>i_ i λF n x fr j h=>⟨F,n,x,fr,j,(run.bind (R:=λ_ (a b:Bool)=>b=a) h).mono λv q i=>by
  obtain⟨d,e,t,D,k⟩:=i;subst D;cases v with
  |true=>rw[OZ rfl]at k⊢;exact⟨F,n,e,t.fr,j.tr (t.tr fr),k⟩
  |false=>rw[OY O4]at k⊢;exact⟨F,n,e,t.fr,j.tr (t.tr fr),k⟩⟩
noncomputable def ZF:D->Option String
 | .non=>My "NoneType"| .bl _=>My "bool"| .int _=>My "int"| .str _=>My "str"| .lst _=>My "list"| .tup _=>My "tuple"|_=>OI
def ZE:List String:=["int","bool","str","NoneType","list","tuple"]
noncomputable def xD(a b:String):a0C:=if ZE.contains a&&ZE.contains b&&b !="NoneType"&&(b !="int"||a==b)then My (a==b)else OI
noncomputable def xC(a b c:String):a0C:=if ZE.contains a&&(b=="list"&&c=="tuple"||b=="int"&&c=="str")then My (a==b||a==c||a=="bool"&&b=="int")else OI
theorem q_{a:String}(h:ZE.contains a=OL):a="int"\/a="bool"\/a="str"\/a="NoneType"\/a="list"\/a="tuple":=by
 simpa[ZE]using h
theorem J9{a b:String}{c:Bool}(h:xD a b=My c):kitOne K (.type a) (.type b)=My c:=by
 unfold xD at h;split at h
 case isFalse=>cases h
 rename_i q;simp only[PP]at q;cases h;rcases q_ q.1.1.1 with rfl|rfl|rfl|rfl|rfl|rfl<;>rcases q_ q.1.1.2 with rfl|rfl|rfl|rfl|rfl|rfl<;>first|exact Pp q.1.2 (by decide)|exact Pp q.2 (by decide)|kernel_rfl
theorem J8{a b d:String}{c:Bool}(h:xC a b d=My c):Zl K (.type a) ([b,d].map Sm)=My c:=by
 unfold xC at h;split at h
 case isFalse=>cases h
 rename_i q;simp only[PP,WK,Tl]at q;cases h;rcases q.2 with⟨rfl,rfl⟩|⟨rfl,rfl⟩<;>rcases q_ q.1 with rfl|rfl|rfl|rfl|rfl|rfl<;>kernel_rfl
def TyG(K:Pl)(H:Hp)(x:V)(t:OP):Prop:=my K H x t\/(∃a b,x= .ref a/\en K H a b/\t= .type "list")\/(∃a b,x= .ref a/\g_ K H a b/\t= .type "tuple")
def IG(K:Pl):a0k->Hp->VK->Prop:=λa H Q=>∃x c t b,a=[x,.ty c]/\TyG K H x t/\kitOne K t (.type c)=My b/\Q (.bl b) H
theorem BB:cD X (.builtin "isinstance") (IG X.K):=by
 intro j s u H F G Q I r h;obtain⟨x,c,t,b,rfl,f,e,q⟩:=h;cases r with
 |cons k d=>
  cases d with
  |cons d m=>
   cases m;cases d;rcases f with f|⟨a,E,rfl,n,rfl⟩|⟨a,E,rfl,n,rfl⟩
   .exact z7 I k f e λl=>⟨.bl b,H,I.tok _,rfl,q⟩
   .cases k
    obtain⟨p,_,D,_⟩:=I.list n;obtain⟨o,g,i,_⟩:=D.isList;exact VD Wn I.kIn ⟨o,g,i⟩ e (λz=>nomatch z) λl=>⟨.bl b,H,I.tok _,rfl,q⟩
   .cases k
    obtain⟨p,_,D,_⟩:=I.tuple n;obtain⟨o,g,i,_⟩:=D;exact VD X9 I.kIn ⟨o,g,i⟩ e (λz=>nomatch z) λl=>⟨.bl b,H,I.tok _,rfl,q⟩
theorem yq{F:Fx}{H:Hp}(h:ZF d=My t)(c:bw K F H d v):TyG K H v (.type t):=by
 cases d with
 |non=>cases h;cases c.non;exact .inl .non
 |bl b=>cases h;cases c.bl;exact .inl (.bl b)
 |int b=>cases h;cases c.int;exact .inl (.int b)
 |str b=>cases h;cases c.str;exact .inl (.str b)
 |lst ds=>cases h;obtain⟨a,e,rfl,f,_⟩:=bw.sqL c;exact .inr (.inl ⟨a,e,rfl,f,rfl⟩)
 |tup ds=>cases h;obtain⟨a,e,rfl,f,_⟩:=bw.sqT c;exact .inr (.inr ⟨a,e,rfl,f,rfl⟩)
 |_=>cases h
def iK:a0b->a0l
 |[x,.ty c]=>(ZF x).bind λt=>(xD t c).map D.bl
 |_=>OI
theorem Oh:db K (IG K) iK:=λF H f Q n d p fr h e k=>by
 unfold iK at e;split at e
 .rename_i x c
  cases q:ZF x with
  |none=>rw[q]at e;cases e
  |some t=>
   rw[q]at e;simp only[RZ]at e;cases a:xD t c with
   |none=>rw[a]at e;cases e
   |some b=>
    rw[a]at e;cases e;obtain⟨v,w,rfl,g,i⟩:=ba.two h;cases i.ty;exact⟨v,c,_,b,rfl,yq q g,J9 a,k _ H (To.refl fr) rfl⟩
 .cases e
def y8(K:Pl):a0k->Hp->VK->Prop:=λc H Q=>∃(x:V) (tp:OM) (a:List String) (t:OP) (b:Bool),c=[x,.ref tp]/\g_ K H tp (a.map V.ty)/\TyG K H x t/\Zl K t (a.map Sm)=My b/\Q (.bl b) H
theorem pz:cD X (.builtin "isinstance") (y8 X.K):=by
 intro m s P H f M Q I r h;obtain⟨x,tp,S,t,b,rfl,A,D,e,q⟩:=h;cases r with
 |cons c B=>
  cases B with
  |cons B R=>
   cases R;cases B;obtain⟨k,T,⟨⟨V,U,W,Y⟩,g,u,n,j⟩,_⟩:=I.tuple A;rw[yn T]at j
   dsimp only at u j
   subst u j;have d:∀N,EP X m P Q (.bool b) {s with toks:=N}:=λN=>⟨.bl b,H,I.tok _,rfl,q⟩;rcases D with D|⟨a,G,rfl,E,rfl⟩|⟨a,G,rfl,E,rfl⟩
   .cases D with
    |non=>cases c;exact VE Yt I.kIn S4 g e (λz=>nomatch z) d
    |bl y=>cases c;exact VE Ys I.kIn S4 g e (λz=>nomatch z) d
    |int i=>obtain⟨t,rfl⟩:=c;exact VE YK I.kIn S4 g e (λz=>nomatch z) d
    |str y=>obtain⟨t,rfl⟩:=c;exact VE YM I.kIn S4 g e (λz=>nomatch z) d
    |@lst a f ea=>
     cases c;obtain⟨_,_,n,_,v⟩:=(show bJ X.prog X.w H s.heap a (.lst f)from I.hok a _ ea);exact VE Wn I.kIn ⟨_,v,rfl⟩ g e (λz=>nomatch z) d
    |@frz a ob f ea=>
     cases c;obtain⟨_,_,_,n,_,v⟩:=(show bJ X.prog X.w H s.heap a (.frz ob (.lst f))from I.hok a _ ea);exact VE Wn I.kIn ⟨_,v,rfl⟩ g e (λz=>nomatch z) d
    |@tup a f ea=>
     cases c;obtain⟨_,_,_,p⟩:=(show bJ X.prog X.w H s.heap a (.tup f)from I.hok a _ ea);obtain⟨o,v,Z,_⟩:=p;exact VE X9 I.kIn ⟨o,v,Z⟩ g e (λz=>nomatch z) d
    |@ins a C dx fs ea cl ha hn htk hm=>
     cases c;obtain⟨mA,O,_⟩:=il I.hok ea;obtain⟨U,J,_⟩:=O.look;exact VE (YL (cl.get _) cl.hd ha hn htk hm) I.kIn J g e (λz=>nomatch z) d
   .cases c
    obtain⟨k,_,F,_⟩:=I.list E;obtain⟨o,l,L,_⟩:=F.isList;exact VE Wn I.kIn ⟨o,l,L⟩ g e (λz=>nomatch z) d
   .cases c
    obtain⟨k,_,F,_⟩:=I.tuple E;obtain⟨o,l,L,_⟩:=F;exact VE X9 I.kIn ⟨o,l,L⟩ g e (λz=>nomatch z) d
def rN:a0b->a0l
 |[x,.tup [.ty a,.ty b]]=>(ZF x).bind λt=>(xC t a b).map D.bl
 |_=>OI
theorem zV:db K (y8 K) rN:=λF H D Q E d G fr h e k=>by
 unfold rN at e;split at e
 .rename_i x a b
  cases q:ZF x with
  |none=>rw[q]at e;cases e
  |some t=>
   rw[q]at e;simp only[RZ]at e;cases f:xC t a b with
   |none=>rw[f]at e;cases e
   |some c=>
    rw[f]at e;cases e;obtain⟨v,w,rfl,g,i⟩:=ba.two h;obtain⟨p,M,rfl,n,j⟩:=bw.sqT i;obtain⟨y,z,rfl,l,m⟩:=ba.two j;cases l.ty;cases m.ty;exact⟨v,p,[a,b],_,c,rfl,n,yq q g,J8 f,k _ H (To.refl fr) rfl⟩
 .cases e
def s_(K:Pl)(J:It)(F:Fx)(H:Hp)(b:a0b):Prop:=∀(h:Fx) (g:Hp) (a:Bg),Tr F H h g->Fr h g a->∀i,(∀d,b[i]?=My d->J.go i g/\∀x j,J.yld i g x j->bM g j/\bw K h j d x)/\(i=b.length->J.stop i g)
theorem s_.tr{K:Pl}{F d:Fx}{H g:Hp}(t:Tr F H d g)(h:s_ K J F H ds):s_ K J d g ds:=λi j a t3 fr=>h i j a (t.trans t3) fr
def iV(K:Pl)(f:FL)(E:a0s):TI:=λd H R=>∃F a b,Fr F H b/\hO K F H a d/\run (λg (c:a0b) (J:It)=>s_ K J F g c) F E d (f a) H R b
theorem _root_.L2.PI.imp{X:Cx}{a e:Expr}(h:PI X a e t)(f:∀d H Q,i d H Q->t d H Q):PI X a e i:=λg s d H Q I q=>h g s d H Q I (f d H Q q)
variable{tg:Expr}
def L0(K:Pl)(c:TE):TI:=λg H R=>c g H λx d=>(∃a,x= .ref a/\(∃b,en K d a b)/\R (ZV K a) d)\/(∃a,x= .ref a/\(∃b,g_ K d a b)/\R (Itt K a) d)
theorem ze(t:PE X l tl):PI X tg l (L0 X.K tl):=by
 intro g s u H R I h;refine d5 (t g s u H _ I h) λv d ⟨x,m,i,f,k⟩=>?_;have j:∀b∈[d.heap.objs.size],fc X g m b:=λb w=>by
  obtain rfl:b=d.heap.objs.size:=by simpa using w
  exact i.fpOk (OW _) (i.hok.fresh (OW _))
 rcases k with⟨a,e,⟨n,r⟩,q⟩|⟨a,e,⟨n,r⟩,q⟩
 .subst e
  cases f;obtain⟨c,y,p,A⟩:=i.list r;exact VF p.isList ⟨d.heap.objs.size,[d.heap.objs.size],_,_,m,rfl,i.kept (t':=d.toks) λb o e=>OK _ e,qt a _,⟨_,O7 _ rfl,rfl,rfl⟩,j,q⟩
 .subst e
  cases f;obtain⟨c,y,p,A⟩:=i.tuple r;exact WI (show d.heap.IsTuple a c.toArray from p) ⟨d.heap.objs.size,[d.heap.objs.size],_,_,m,rfl,i.kept (t':=d.toks) λb o e=>OK _ e,wH a _,⟨_,O7 _ rfl,rfl,rfl⟩,j,q⟩
theorem uq{F:Fx}{H:Hp}{a:OM}(h:bw K F H (.lst s) (.ref a)):s_ K (ZV K a) F H s:=λq r n t fr i=>by
 have m:=bw.tr t _ _ h;obtain⟨u,b,e,c,g⟩:=bw.sqL m;cases e;refine⟨λd k=>?_,λo=>⟨b,c,by rw[<-g.length,o];exact OW _⟩⟩;obtain⟨x,p,_⟩:=g.get k;refine⟨⟨b,x,c,p⟩,λy v f=>?_⟩;obtain⟨rfl,f⟩:=f;obtain⟨D,l,j⟩:=g.getV (f b c);rw[k]at l;cases l;exact⟨bM.refl _,j⟩
theorem vY{F:Fx}{H:Hp}{a:OM}(h:bw K F H (.tup s) (.ref a)):s_ K (Itt K a) F H s:=λq r n t fr i=>by
 have m:=bw.tr t _ _ h;obtain⟨u,b,e,c,g⟩:=bw.sqT m;cases e;refine⟨λd k=>?_,λo=>⟨b,c,by rw[<-g.length,o];exact OW _⟩⟩;obtain⟨x,p,_⟩:=g.get k;refine⟨⟨b,x,c,p⟩,λy v f=>?_⟩;obtain⟨rfl,f⟩:=f;obtain⟨D,l,j⟩:=g.getV (f b c);rw[k]at l;cases l;exact⟨bM.refl _,j⟩
def dE(f:FD):FL:=λa=>M.bind (f a) λd=>M.ofO (c9 d)
theorem bh{f:FD}(j:PE X l (tV X.K f E)):PI X tg l (iV X.K (dE f) E):=
 (ze j).imp λq H R g=>i_ g λF p x fr m h=>⟨F,p,x,fr,m,(run.bind (R:=bw X.K F) h).mono λv i g=>by
  obtain⟨d,D,t,b,G⟩:=g;obtain⟨M,e,k⟩:=run.ofO G;cases d<;>first
   |(cases e;obtain⟨a,c,rfl,n,o⟩:=bw.sqL b;exact .inl ⟨a,rfl,⟨c,n⟩,k _ i (To.refl t.fr) (uq b)⟩)
   |(cases e;obtain⟨a,c,rfl,n,o⟩:=bw.sqT b;exact .inr ⟨a,rfl,⟨c,n⟩,k _ i (To.refl t.fr) (vY b)⟩)
   |cases e⟩
noncomputable def aZ(a:Int)(n:Nat):a0b:=(OX n).map λ(i:Nat)=> .int (a+(i:Int))
theorem qO{F:Fx}{H:Hp}{b:Int}{n:Nat}:s_ K (ZU b n) F H (aZ b n):=λl m c t fr i=>by
 refine⟨λd a=>?_,λg=>?_⟩
 .unfold aZ at a
  have g:i<n:=by
   have:=(OT.mp a).1;simpa using this
  rw[OS,P9 g]at a;cases a;exact⟨g,λx o ⟨h,j⟩=>by subst h j;exact⟨bM.refl _,rfl⟩⟩
 .show n<=i
  rw[g];simp[aZ]
def fG:a0b->a0D
 |[.int j]=>if(decide (-(2^62)<=j)&&decide (j<2^62))=OL then My (aZ 0 j.toNat)else OI
 |_=>OI
def m6:a0b->a0D
 |[.int i,.int j]=>if(decide (-(2^62)<=i)&&decide (i<2^62)&&decide (-(2^62)<=j)&&decide (j<2^62))=OL then My (aZ i (j-i).toNat)else OI
 |_=>OI
def cu(a:a0b->a0D)(g:FL):FL:=λb=>M.bind (g b) λc=>M.ofO (a c)
theorem cJ{a:Expr}{p ab:Ub}(j:Gl X "range")(b:X.mg "range"=OI)(c:PA X [a] (hU X.K g E))(f:Pe [a] X.env=[(OQ,Qu a X.env)]:=by rfl):PI X tg (.Call (.Name "range" p) [a] [] ab) (iV X.K (cu fG g) E):=
 (zi j b c f).imp λr H R d=>i_ d λF n x fr m h=>⟨F,n,x,fr,m,(run.bind (R:=ba X.K F) h).mono λS o d=>by
  obtain⟨U,D,t,G,M⟩:=d;obtain⟨l,e,k⟩:=run.ofO M;unfold fG at e;split at e
  .split at e
   .rename_i i
    cases e;simp only[PP,PX]at i;obtain⟨v,rfl,q⟩:=ba.one G;cases q.int;exact⟨_,rfl,i.1,i.2,k _ o (To.refl t.fr) qO⟩
   .cases e
  .cases e⟩
theorem j5{a b:Expr}{p ab:Ub}(m:Gl X "range")(c:X.mg "range"=OI)(f:PA X [a,b] (hU X.K g E))(n:Pe [a,b] X.env=[(OQ,Qu a X.env),(OQ,Qu b X.env)]:=by rfl)(i:Pe [b] X.env=[(OQ,Qu b X.env)]:=by rfl):PI X tg (.Call (.Name "range" p) [a,b] [] ab) (iV X.K (cu m6 g) E):=
 (zh m c f n i).imp λy H R j=>i_ j λF x D fr o h=>⟨F,x,D,fr,o,(run.bind (R:=ba X.K F) h).mono λU q j=>by
  obtain⟨V,G,t,M,S⟩:=j;obtain⟨l,e,k⟩:=run.ofO S;unfold m6 at e;split at e
  .split at e
   .rename_i d
    cases e;simp only[PP,PX]at d;obtain⟨v,w,rfl,r,u⟩:=ba.two M;cases r.int;cases u.int;exact⟨_,_,rfl,⟨d.1.1.1,d.1.1.2,d.1.2,d.2⟩,k _ q (To.refl t.fr) qO⟩
   .cases e
  .cases e⟩
abbrev lk:=D->Dn->Option Dn
abbrev iP:=a0b->Dn->Option Dn
def cB(K:Pl)(g:TG)(tg:lk):Prop:=∀(F:Fx) (H:Hp) (b a:Dn) (i:St) (d:D) (v:V) (Q:a0F),hO K F H b i->bw K F H d v->tg d b=My a->(∀h,hO K F H a h->Q h H)->g v i H Q
def pF(K:Pl)(g:H_)(tg:iP):Prop:=∀(F:Fx) (H:Hp) (b a:Dn) (h:St) (c:a0b) (e:a0k) (Q:a0F),hO K F H b h->ba K F H c e->tg c b=My a->(∀d,hO K F H a d->Q d H)->g e h H Q
noncomputable def gs(i:Nat):lk:=λd a=>if(a.getD i (My .non)).isNone then My (a.set i (My d))else OI
noncomputable def jP:iP:=λa b=>match a with
 |[]=>My b
 |_=>OI
noncomputable def fF(t:lk)(u:iP):iP:=λb c=>match b with
 |[]=>OI
 |d::r=>(t d c).bind λa=>u r a
noncomputable def J_(t:iP):lk:=λd a=>match d with
 | .tup ds=>t ds a
 |_=>OI
theorem sJ{b a:Dn}(h:gs i d b=My a):b[i]?=My OI/\a=b.set i (My d):=by
 unfold gs at h;split at h
 .rename_i q
  cases h;refine⟨?_,rfl⟩;rw[O5]at q;cases e:b[i]? with
  |none=>rw[e]at q;cases q
  |some z=>
   rw[e]at q;cases z with
   |none=>rfl
   |some w=>cases q
 .cases h
theorem aq:cB K (dm i) (gs i):=λF H c a h d v Q g b e k=>by
 obtain⟨_,rfl⟩:=sJ e;exact k _ (g.set b)
theorem cz:pF K gNil jP:=λF H f a g b n Q d c e k=>by
 cases b with
 |nil=>cases e;exact⟨c,k _ d⟩
 |cons _ _=>cases e
theorem aR(m:cB K t s)(o:pF K u uf):pF K (xL t u) (fF s uf):=λF H b a v c p Q w f e k=>by
 cases c with
 |nil=>cases e
 |cons d r=>
  obtain⟨x,l,rfl,n,y⟩:=f;have h:(s d b).bind (λa=>uf r a)=My a:=e;cases q:s d b with
  |none=>rw[q]at h;cases h
  |some g=>
   rw[q]at h;exact⟨x,l,rfl,m F H b g v d x _ w n q λi j=>o F H g a i r l Q j y h k⟩
theorem da{n:Nat}(h:pF K t l)(x:∀f c b,l f c=My b->f.length=n):cB K (EI K n t) (J_ l):=λF H c b i d v Q j D e k=>by
 cases d<;>first
  |(obtain⟨a,p,rfl,E,g⟩:=bw.sqT D;exact⟨a,p,rfl,E,by rw[<-g.length];exact x _ _ _ e,h F H c b i _ p Q j g e k⟩)
  |cases e
theorem bS:∀b c a,jP b c=My a->b.length=0:=λb c a h=>by
 cases b with
 |nil=>rfl
 |cons _ _=>cases h
theorem aP{n:Nat}(h:∀b c a,u b c=My a->b.length=n):∀b c a,fF t u b c=My a->b.length=n+1:=λb c a e=>by
 cases b with
 |nil=>cases e
 |cons d r=>
  have g:(t d c).bind (λa=>u r a)=My a:=e;cases q:t d c with
  |none=>rw[q]at g;cases g
  |some i=>rw[q]at g;rw[Pb,h _ _ _ g]
def dH(tg:lk):Prop:=∀d b a,tg d b=My a->Sub b a/\b.length=a.length
def sf(tg:iP):Prop:=∀d b a,tg d b=My a->Sub b a/\b.length=a.length
theorem ay:dH (gs i):=λd b a e=>by
 obtain⟨q,rfl⟩:=sJ e;refine⟨λj c g=>?_,by rw[QC]⟩;rw[QX];by_cases z:i=j
 .subst z;rw[q]at g;cases g
 .rw[OY z];exact g
theorem cr:sf jP:=λa c b e=>by
 cases a with
 |nil=>cases e;exact⟨λ_ _ h=>h,rfl⟩
 |cons _ _=>cases e
theorem aQ(j:dH t)(l:sf u):sf (fF t u):=λf b a e=>by
 cases f with
 |nil=>cases e
 |cons d r=>
  have g:(t d b).bind (λa=>u r a)=My a:=e;cases q:t d b with
  |none=>rw[q]at g;cases g
  |some m=>
   rw[q]at g;obtain⟨k,n⟩:=j _ _ _ q;obtain⟨b1,b2⟩:=l _ _ _ g;exact⟨λi c h=>b1 i c (k i c h),n.trans b2⟩
theorem c8(h:sf t):dH (J_ t):=λd b a e=>by
 cases d<;>first|exact h _ _ _ e|cases e
structure lm (F:Fx) (D:OM) (H H':Hp) (β':Bg):Prop where
 kp:∀a o,H a=My o->a≠D->(∀b l,F.bg=My (b,l)->a≠b/\a≠l)->H' a=My o
 fr:Fr F H' β'
theorem lm.trans{F:Fx}{D:OM}{H d g:Hp}(a:lm F D H d β1)(b:lm F D d g i):lm F D H g i:=⟨λx o h n m=>b.kp x o (a.kp x o h n m) n m,b.fr⟩
theorem To.toD{F:Fx}{H d:Hp}(t:To F H d g)(D:OM):lm F D H d g:=⟨λa o h _ m=>t.kp a o h m,t.fr⟩
theorem lm.tr{F:Fx}{D:OM}{H d:Hp}(fr:Fr F H j)(g:F.A D)(t:lm F D H d i):Tr F H F d:=
 ⟨λ_ h _=>h,λa o h e=>t.kp a o e (λz=>h (z▸g)) λb l q=>⟨λz=>h (z▸(fr.bgA b l q).1),λz=>h (z▸(fr.bgA b l q).2.1)⟩,rfl⟩
structure AR where
 R:Fx->Hp->OM->List Pu.D->Prop
 Z:List Pu.D->Prop
 tr:∀{F F2:Fx} {H H':Hp} {D:OM} {as:List Pu.D},R F H D as->(∀o,H D=My o->H' D=My o)->Tr F H F2 H'->R F2 H' D as
 zp:∀{as os:List Pu.D},Z (as++os)->Z as
noncomputable def RL(K:Pl):AR where
 R:=λF H D b=>∃a,H D=My (.lst a)/\ba K F H b a
 Z:=λl=>l.length<=Pk
 tr:=λh k t=>by
  obtain⟨a,d,g⟩:=h;exact⟨a,k _ d,ba.tr t _ _ g⟩
 zp:=λh=>by rw[O1]at h;lia
def eE(K:Pl)(R:AR)(D:OM)(j:TB)(f:Dn->M (List Pu.D)):Prop:=∀(F:Fx) (H:Hp) (a:Dn) (k d:Bg) (i:St) (c e:List Pu.D) (Q:a0F),Fr F H k->F.A D->(∀b l,F.bg=My (b,l)->D≠b/\D≠l)->hO K F H a i->R.R F H D c->
 f a k=My (.ok e,d)->R.Z (c++e)->(∀g h,lm F D H h d->hO K F h a g->R.R F h D (c++e)->Q g h)->j i H Q
abbrev jf(K:Pl):=eE K (RL K)
def j2(f:Dn->M Pu.D):Dn->M (List Pu.D):=λa=>M.bind (f a) λd=>M.ret [d]
theorem M.bind_inv{c g:Type}{m:M c}{k:c->M g}{f d:Bg}{r:g}(h:M.bind m k f=My (.ok r,d)):∃a b,m f=My (.ok a,b)/\k a b=My (.ok r,d):=by
 unfold M.bind at h;split at h
 .cases h
 .cases h
 .rename_i a b e
  exact⟨a,b,e,h⟩
theorem E0.run{b i:Type}{R:Hp->b->i->Prop}{F:Fx}{j:St}{m:M b}{H:Hp}{Q:i->Hp->Prop}{c d:Bg}{a:b}(e:m c=My (.ok a,d))(h:∀v g,To F H g d->R g a v->Q v g):run R F E0 j m H Q c:=⟨.ok a,d,e,h⟩
theorem aS{D:OM}{f:Dn->M Pu.D}:jf K D (x5 D (tV K f E0)) (j2 f):=λF H E G g w S V Q fr y i m A e B k=>by
 obtain⟨c,C,x⟩:=A;obtain⟨d,U,I,J⟩:=M.bind_inv e;cases J;refine⟨F,E,G,fr,m,E0.run I λv r t L=>?_⟩;have j:=t.kp D _ C i;have N:=ba.tr (t.tr fr) _ _ x;refine⟨c,j,by rw[<-x.length];have:=(show(S++[d]).length<=Pk from B);simp at this;exact ‹_›,?_⟩;have u:lm F D r (upd r D (.lst (c++[v]))) g:=by
  refine⟨λa o h n _=>by rw[bb n];exact h,λa h q=>?_,fr.bgA,λb l q=>?_⟩
  .by_cases z:a=D
   .subst z;rw[ao]at q;cases q
   .rw[bb z]at q;exact t.fr.occ a h q
  .rw[bb (i b l q).1.symm,bb (i b l q).2.symm]
   exact t.fr.bag b l q
 have p:=u.tr t.fr y;exact k w _ ((t.toD D).trans u) (m.tr ((t.tr fr).trans p)) ⟨_,ao,ba.append (ba.tr p _ _ N) ⟨v,[],rfl,bw.tr p _ _ L,rfl⟩⟩
def mx(tg:lk)(e:a0r)(b:Dn->M (List Pu.D)):List Pu.D->Dn->M (List Pu.D)
 |[],_=>M.ret []
 |d::ds,δ=>match tg d δ with
  |none=>M.fail
  |some a=>M.bind (e a) λc=>M.bind (if c=OL then b a else M.ret []) λo=>M.bind (mx tg e b ds δ) λf=>M.ret (o++f)
theorem md{R:AR}{D:OM}{tg:lk}{b:Dn->M (List Pu.D)}(hg:cB K g tg)(sg:dH tg)(hb:eE K R D tb b){F:Fx}{H:Hp}{as os f:List Pu.D}(fr:Fr F H β)(hA:F.A D)(hn:∀b l,F.bg=My (b,l)->D≠b/\D≠l)(vk:hO K F H s σ)(hR:R.R F H D as)
  (it:s_ K J F H f) (e:mx tg tt b f s β=My (.ok os,β')) (hz:R.Z (as++os)) (k:∀j t,lm F D H t β'->hO K F t s j->R.R F t D (as++os)->Q j t):cV J g (g8 K tt E0) tb σ H Q:=by
 refine⟨λi m j t=>m+i=f.length/\∃a r v,lm F D H t a/\hO K F t s j/\R.R F t D r/\mx tg tt b (f.drop i) s a=My (.ok v,β')/\r++v=as++os,
  ⟨f.length,rfl,β,as,os,⟨λ_ _ h _ _=>h,fr⟩,vk,hR,e,rfl⟩,?_⟩
 rintro i m j t ⟨hm,a,r,v,t1,B,C,u,Y⟩;have G:=t1.tr fr hA;obtain⟨iy,is⟩:=it F t a G t1.fr i;cases P:f[i]? with
 |none=>
  have T:f.length<=i:=Vb.mp P;rw[SG T]at u;cases u;refine .inl ⟨is (by lia),k j t t1 B ?_⟩;rw[<-Y,PN];exact C
 |some d=>
  have T:i<f.length:=(OT.mp P).1;obtain⟨go,yl⟩:=iy d P;have ed:f.drop i=d::f.drop (i+1):=by
   rw[Qa T];congr 1;exact PH ((ON T).symm.trans P)
  rw[ed]at u;unfold mx at u;cases q:tg d s with
  |none=>rw[q]at u;cases u
  |some n=>
   rw[q]at u;obtain⟨c,E,e2,e3⟩:=M.bind_inv u;obtain⟨o,p,U,e5⟩:=M.bind_inv e3;obtain⟨S,ad,e6,e7⟩:=M.bind_inv e5;cases e7;obtain⟨s1,s2⟩:=sg _ _ _ q;refine .inr ⟨go,λI W=>lm F D H W p/\hO K F W s I/\R.R F W D (r++o),?_,λx V hy=>?_⟩
   .rintro I W ⟨t9,vk9,hR9⟩
    exact⟨m-1,by lia,by lia,p,r++o,S,t9,vk9,hR9,e6,by rw[O3];exact Y⟩
   .obtain⟨sm,dx⟩:=yl x V hy
    have t2:To F t V a:=t1.fr.same sm;have L:=t2.tr t1.fr;refine hg F V s n j d x _ (B.tr L) dx q λX w=>⟨F,n,a,t2.fr,w,E0.run e2 λc' H3 t3 ec=>?_⟩;subst ec;have y:=t3.tr t2.fr;have N:=R.tr C (λo z=>t3.kp D o (sm _ _ z) hn) (L.trans y);have O:lm F D H H3 E:=t1.trans ((t2.trans t3).toD D);have aa:R.Z (r++o):=by
     rw[<-Y,<-O3]at hz;exact R.zp hz
    cases c' with
    |true=>
     rw[OZ rfl]at U⊢;refine hb F H3 n E p X r o _ t3.fr hA hn (w.tr y) N U aa λae H4 t4 ab ac=>?_;exact⟨O.trans t4,ab.sub s1 s2,ac⟩
    |false=>
     rw[OY O4]at U⊢;cases U;exact⟨O,(w.tr y).sub s1 s2,by rw[PN];exact N⟩
def Zy(c:Dn->M (List Pu.D))(tg:lk)(e:a0r)(b:Dn->M (List Pu.D)):Dn->M (List Pu.D):=λa=>M.bind (c a) λf=>mx tg e b f a
theorem nu{D:OM}{tg:lk}{b:Dn->M (List Pu.D)}(j:cB K g tg)(l:dH tg)(m:eE K R D s b):eE K R D (x4 (iV K C E0) λJ=>cV J g (g8 K I E0) s) (Zy C tg I b):=λF H c f q B p x Q fr r a h u e v k=>by
 obtain⟨E,n,w,y⟩:=M.bind_inv e;refine⟨F,c,f,fr,h,E0.run w λJ i t A=>?_⟩;exact md j l m t.fr r a (h.tr (t.tr fr)) (R.tr u (λo z=>t.kp D o z a) (t.tr fr)) A y v λd i t1=>k d i ((t.toD D).trans t1)
theorem J7{D:OM}{tg:lk}{b:Dn->M (List Pu.D)}(d:cB K g tg)(h:dH tg)(i:jf K D j b):jf K D (x4 (iV K l E0) λJ=>cV J g (g8 K m E0) j) (Zy l tg m b):=nu d h i
noncomputable def jm(nv:Nat)(bt:a0a)(δ:Dn):Dn:=Pr nv OI++bt.map λj=>δ.getD j OI
def cN(nv:Nat)(bt:a0a)(it:Dn->M (List Pu.D))(tg:lk)(c:a0r)(b:Dn->M (List Pu.D)):Dn->M Pu.D:=λa e=>match it a e with
 |none=>OI
 |some (.error C,β1)=>My (.error C,β1)
 |some (.ok ds,β1)=>match mx tg c b ds (jm nv bt a) β1 with
  |some (.ok os,β2)=>if os.length<=Pk then My (.ok (.lst os),β2)else OI
  |_=>OI
theorem pA{F:Fx}{H:Hp}{a:a0i}(h:hO K F H r t):hO K F H (jm a.length s r) (jH a s t):=by
 refine⟨by simp[jm,jH],λi d e=>?_⟩;unfold jm at e;unfold jH;rw[SZ]at e⊢;rw[Rz]at e⊢;by_cases g:i<a.length
 .rw[OZ g,Sx,OZ g]at e
  cases e
 .rw[OY g,OS]at e⊢
  cases q:s[i-a.length]? with
  |none=>rw[q]at e;cases e
  |some j=>
   rw[q]at e;simp only[Rt,Xu]at e⊢;rw[O5]at e;cases z:r[j]? with
   |none=>rw[z]at e;cases e
   |some w=>
    rw[z]at e;have l:w=My d:=e;subst l;obtain⟨v,m,o⟩:=h.tell j d z;exact⟨v,by rw[O5,m];rfl,o⟩
theorem sM{c:a0i}{f:a0a}{k:Dn->M (List Pu.D)}{g:TG}{tg:lk}{p:a0r}{O:a0Y}{b:Dn->M (List Pu.D)}(W:cB K g tg)(Y:dH tg)(Z:∀D,jf K D (O D) b){P:St}{H:Hp}{Q:VK}(h:tV K (cN c.length f k tg p b) E P H Q):
  n6 c f (iV K k E) (λD J=>cV J g (g8 K p E0) (O D)) P H Q:=by
 obtain⟨F,G,S,fr,T,r,v,e,h⟩:=h;unfold cN at e;refine⟨F,G,S,fr,T,?_⟩;split at e
 .cases e
 .rename_i C β1 q
  cases e;exact⟨.error C,_,q,h⟩
 .rename_i ds β1 q
  split at e
  .rename_i os β2 q2
   split at e
   .rename_i hz
    cases e;refine⟨.ok ds,β1,q,λJ u t V D i=>?_⟩;have d:¬F.A D:=t.fr.fresh i;have X:∀b l,F.bg=My (b,l)->D≠b/\D≠l:=λb l z=>⟨λw=>d (w▸(fr.bgA b l z).1),λw=>d (w▸(fr.bgA b l z).2.1)⟩;have t2:=t.fr.upd (.lst []) i;have B:Fr ⟨λa=>F.A a\/a=D,F.bg⟩ (upd u D (.lst [])) β1:=by
     refine⟨λa ha z=>?_,λb l z=>let ⟨x,y,w⟩:=fr.bgA b l z;⟨.inl x,.inl y,w⟩,t2.fr.bag⟩
     rcases ha with ha|ha
     .exact t2.fr.occ a ha z
     .subst ha;rw[ao]at z;cases z
    have j:Tr F u ⟨λa=>F.A a\/a=D,F.bg⟩ (upd u D (.lst [])):=⟨λa ha s z=>by
     rcases z with z|z
     .exact ha z
     .subst z;exact s i,λa o ha z=>by rw[bb (aB z i)];exact z,rfl⟩
    refine md (R:=RL K) (D:=D) (as:=[]) (os:=os) W Y (Z D) B (.inr rfl) X (pA (T.tr ((t.tr fr).trans j))) ⟨[],ao,rfl⟩ (V.tr j) q2 (show os.length<=Pk from hz) λaa U t3 ab I=>?_;obtain⟨m,L,N⟩:=I;have tf:To F u U v:=by
     refine⟨λa o z n=>t3.kp a o (by rw[bb (aB z i)];exact z) (aB z i) n,λa ha z=>t3.fr.occ a (RM ha) z,fr.bgA,t3.fr.bag⟩
    refine h _ U (t.trans tf) ⟨D,m,rfl,⟨d,.inl L⟩,ba.tr (F:=⟨λa=>F.A a\/a=D,F.bg⟩) ⟨λa ha _ z=>ha (RM z),λa o _ z=>z,rfl⟩ _ _ N⟩
   .cases e
  .cases e
inductive Sl where
 |sh (d:D)|own (ds:a0b)|grd (ac:a0t)|odc (b:Bool) (ks:a0G) (vs:a0b)
abbrev a0T:=Option Sl
abbrev Ds:=List a0T
inductive o1 where
 |nx (δ:Ds)|rt (d:D)|bk (δ:Ds)|ct (δ:Ds)|ex (C:OM) (δ:Ds)|rg (ac:a0t)
abbrev a0y:=o1->Bg->Prop
abbrev G:=Ds->Bg->Option (o1×Bg)
abbrev Ow:=OM->a0I
noncomputable def d4(B:Ow)(b:a0m):Fx:=⟨λa=>B a≠OI,b⟩
noncomputable def ot(B:Ow)(b:a0m):Fx:=⟨λa=>B a=My 0\/B a=My 1,b⟩
def bj(K:Pl)(F:Fx)(H:Hp)(P:OM->Prop):a0t->a0q->Prop
 |[],[]=>True
 |ds::ac,r::rs=>P r/\(∃a,H r=My (.lst a)/\ba K F H ds a)/\bj K F H P ac rs
 |_,_=>False
theorem bj.tr{K:Pl}{F i:Fx}{H d:Hp}(t:Tr F H i d):∀{b:a0t} {a:a0q},bj K F H P b a->(∀r xs,r∈a->P r->H r=My (.lst xs)->P2 r/\d r=My (.lst xs))->bj K i d P2 b a
 |[],[],_,_=>trivial
 |ds::b,r::a,h,f=>by
  obtain⟨j,⟨xs,l,m⟩,o⟩:=h;obtain⟨p,q⟩:=f r xs OU j l;exact⟨p,⟨xs,q,ba.tr t _ _ m⟩,bj.tr t o λu g v=>f u g (OO _ v)⟩
 |[],_::_,h,_=>h.elim
 |_::_,[],h,_=>h.elim
theorem bj.all{K:Pl}{F:Fx}{H:Hp}:∀{c:a0t} {a:a0q},bj K F H P c a->∀r∈a,P r/\∃b,H r=My (.lst b)
 |[],[],_,r,hr=>by cases hr
 |ds::c,r0::a,h,r,hr=>by
  obtain⟨d,⟨b,g,j⟩,i⟩:=h;rcases O6.mp hr with rfl|hr
  .exact⟨d,b,g⟩
  .exact bj.all i r hr
 |[],_::_,h,_,_=>h.elim
 |_::_,[],h,_,_=>h.elim
theorem bj.den{K:Pl}{F d:Fx}{H:Hp}(t:Tr F H d H):∀{b:a0t} {a:a0q},bj K F H P b a->(∀r,r∈a->P r->¬d.A r)->ba K d H (b.map D.lst) (a.map V.ref)
 |[],[],_,_=>rfl
 |ds::b,r::a,h,f=>by
  obtain⟨g,⟨c,i,j⟩,l⟩:=h;exact ba.cons ⟨r,c,rfl,⟨f r OU g,.inl i⟩,ba.tr t _ _ j⟩ (bj.den t l λm o=>f m (OO _ o))
 |[],_::_,h,_=>h.elim
 |_::_,[],h,_=>h.elim
theorem bj.len{K:Pl}{F:Fx}{H:Hp}:∀{a:a0t} {b:a0q},bj K F H P a b->a.length=b.length
 |[],[],_=>rfl
 |ds::a,r::b,h=>by simp[bj.len h.2.2]
 |[],_::_,h=>h.elim
 |_::_,[],h=>h.elim
def gO(K:Pl)(F:Fx)(c H:Hp)(e:a0t)(v:V):Prop:=∃a b,v= .ref a/\c a=OI/\H a=My (.lst (b.map V.ref))/\(a::b).Nodup/\bj K F H (λr=>c r=OI) e b
def ZC(K:Pl)(F:Fx)(H:Hp)(a:OM)(b:Bool)(d:a0G)(e:a0b):Prop:=∃f c,H a=My (cg a b f c)/\d=c.map (·.1)/\(∀x∈c,e8 K F H b x.1 x.2.1)/\ba K F H e (c.map (·.2.2))
theorem ZC.tr{K:Pl}{F g:Fx}{H d:Hp}{a:OM}{b:Bool}(t:Tr F H g d)(h:ZC K F H a b q r)(k:∀o,H a=My o->d a=My o):ZC K g d a b q r:=by
 obtain⟨c,e,i,j,l,m⟩:=h;exact⟨c,e,k _ i,j,λx f=>(l x f).tr t,ba.tr t _ _ m⟩
theorem ZC.ne{K:Pl}{F:Fx}{H:Hp}{a:OM}{b:Bool}(h:ZC K F H a b g i):H a≠OI:=by
 obtain⟨c,e,d,_⟩:=h;rw[d];simp
def uX(H:Hp)(a:OM):Prop:=(∃b,H a=My (.lst b))\/∃d,H a=My (.ext d)
theorem uX.imp{H d:Hp}{a:OM}(h:uX H a)(k:∀o,H a=My o->d a=My o):uX d a:=Or.imp (λ⟨b,z⟩=>⟨b,k _ z⟩) (λ⟨g,z⟩=>⟨g,k _ z⟩) h
def lN(K:Pl)(B:Ow)(c:a0m)(H:Hp)(i:Nat):Sl->V->Prop
 | .sh d,v=>bw K (d4 B c) H d v
 | .own ds,v=>∃a f,v= .ref a/\B a=My (i+2)/\H a=My (.lst f)/\ba K (d4 B c) H ds f
 | .grd ac,v=>∃a e,v= .ref a/\B a=My (i+2)/\H a=My (.lst (e.map V.ref))/\(a::e).Nodup/\bj K (d4 B c) H (λr=>B r=My (i+2)) ac e
 | .odc b ks vs,v=>∃a,v= .ref a/\B a=My (i+2)/\ZC K (d4 B c) H a b ks vs
theorem lN.tr{K:Pl}{H g:Hp}(h:lN K B u H j s v)(t:Tr (d4 B u) H (d4 B2 u) g)(k:∀c,B c=My (j+2)->B2 c=My (j+2)/\∀o,H c=My o->g c=My o):lN K B2 u g j s v:=by
 cases s with
 |sh d=>exact bw.tr t _ _ h
 |own cs=>
  obtain⟨c,l,e,a,f,i⟩:=h;exact⟨c,l,e,(k c a).1,(k c a).2 _ f,ba.tr t _ _ i⟩
 |grd ac=>
  obtain⟨c,n,e,a,f,i,m⟩:=h;exact⟨c,n,e,(k c a).1,(k c a).2 _ f,i,bj.tr t m λr _ _ p q=>⟨(k r p).1,(k r p).2 _ q⟩⟩
 |odc b ks vs=>
  obtain⟨c,e,a,f⟩:=h;exact⟨c,e,(k c a).1,f.tr t (k c a).2⟩
structure ej (K:Pl) (H₀:Hp) (B:Ow) (bg:a0m) (H:Hp) (δ:Ds) (β:Bg) (σ:St):Prop where
 fr:Fr (d4 B bg) H β
 bgt:∀b l,bg=My (b,l)->B b=My 1/\B l=My 1
 len:δ.length=σ.length
 cov:∀a,H₀ a≠OI->H a≠OI
 new:∀a k,B a=My (k+2)->H₀ a=OI
 lst:∀a k,B a=My (k+2)->uX H a
 tell:∀(i:Nat) (s:Sl),δ[i]?=My (My s)->∃v,σ[i]?=My (My v)/\lN K B bg H i s v
structure f_ (B:Ow) (H:Hp) (B':Ow) (H':Hp):Prop where
 kp:∀a o,H a=My o->(B a=OI\/B a=My 0)->H' a=My o
 tg:∀a,B a=My 0\/B a=My 1->B' a=B a
 nn:∀a o,H a=My o->B a=OI->B' a=OI
 al:∀a,H a≠OI->H' a≠OI
theorem f_.refl(B:Ow)(H:Hp):f_ B H B H:=⟨λ_ _ h _=>h,λ_ _=>rfl,λ_ _ _ h=>h,λ_ h=>h⟩
theorem f_.trans{H d g:Hp}(a:f_ B H B1 d)(b:f_ B1 d B2 g):f_ B H B2 g:=by
 refine⟨λx o h n=>b.kp x o (a.kp x o h n) ?_,λx h=>?_,λx o h n=>b.nn x o (a.kp x o h (.inl n)) (a.nn x o h n),λx h=>b.al x (a.al x h)⟩
 .rcases n with n|n
  .exact .inl (a.nn x o h n)
  .exact .inr ((a.tg x (.inl n)).trans n)
 .have e:=a.tg x h
  rw[<-e]at h;exact(b.tg x h).trans e
def ib(K:Pl)(a:Hp)(b:a0m)(E:a0s)(Dn:nS)(B:Ow)(H:Hp)(o:o1)(j:Bg):Prop:=match o with
 | .nx δ'=>∀h i g,f_ B H i g->ej K a i b g δ' j h->Dn.nx h g
 | .bk δ'=>∀h i g,f_ B H i g->ej K a i b g δ' j h->Dn.bk h g
 | .ct δ'=>∀h i g,f_ B H i g->ej K a i b g δ' j h->Dn.ct h g
 | .rt d=>∀v i g,f_ B H i g->Fr (d4 i b) g j->bw K (d4 i b) g d v->Dn.rt v g
 | .rg ac=>∀v i g,f_ B H i g->Fr (d4 i b) g j->gO K (d4 i b) a g ac v->Dn.rt v g
 | .ex C δ'=>∀h i g,f_ B H i g->ej K a i b g δ' j h->E h (.ref C) OI g
theorem ib.pre{K:Pl}{E:a0s}{Dn:nS}{H l:Hp}(s:f_ B H B1 l)(h:ib K H₀ q E Dn B H o m):ib K H₀ q E Dn B1 l o m:=by
 cases o with
 |nx δ=>exact λg i j t=>h g i j (s.trans t)
 |bk δ=>exact λg i j t=>h g i j (s.trans t)
 |ct δ=>exact λg i j t=>h g i j (s.trans t)
 |rt d=>exact λv i j t=>h v i j (s.trans t)
 |rg d=>exact λv i j t=>h v i j (s.trans t)
 |ex C δ=>exact λg i j t=>h g i j (s.trans t)
def tG(K:Pl)(a:Hp)(g:G)(E:a0s):TS:=λDn h H=>∃B b c e o d,ej K a B b H c e h/\g c e=My (o,d)/\ib K a b E Dn B H o d
theorem _root_.L2.PS.imp{X:Cx}{e:QH}(h:PS X e t)(f:∀D d H,i D d H->t D d H):PS X e i:=λg s d H D I q=>h g s d H D I (f D d H q)
theorem _root_.L2.PSs.imp{X:Cx}{e:a0R}(h:PSs X e t)(f:∀D d H,i D d H->t D d H):PSs X e i:=λg s d H D I q=>h g s d H D I (f D d H q)
noncomputable def vw(δ:Ds):Dn:=δ.map λs=>match s with
 |some (.sh d)=>My d
 |_=>OI
noncomputable def hE(δ:Ds):Dn:=δ.map λs=>match s with
 |some (.sh d)=>My d
 |some (.own ds)=>My (.lst ds)
 |some (.grd ac)=>My (.lst (ac.map D.lst))
 |some (.odc b ks vs)=>My (.dct b ks vs)
 |none=>OI
variable{f:Hp}{B:Ow}{bg:a0m}{H':Hp}{δ:Ds}{β aa:Bg}{σ:St}
theorem NF{i:Nat}{d:D}(e:(vw δ)[i]?=My (My d)):δ[i]?=My (My (.sh d)):=by
 unfold vw at e;rw[OS]at e;cases q:δ[i]? with
 |none=>rw[q]at e;cases e
 |some z=>
  rw[q]at e;cases z with
  |none=>cases e
  |some s=>
   cases s with
   |sh c=>cases e;rfl
   |own ds=>cases e
   |grd ac=>cases e
   |odc b ks vs=>cases e
theorem ej.view(h:ej K f B bg H δ β σ):hO K (d4 B bg) H (vw δ) σ:=⟨by unfold vw;rw[OH,h.len],λi d e=>h.tell i _ (NF e)⟩
theorem ZG:Tr (d4 B bg) H (ot B bg) H:=⟨λa h _ z=>by
 have b:¬(B a≠OI):=h;rcases z with z|z
 .exact b (by rw[z];simp)
 .exact b (by rw[z];simp),λ_ _ _ h=>h,rfl⟩
theorem ej.frA(h:ej K f B bg H δ β σ):Fr (ot B bg) H β:=⟨λa c=>h.fr.occ a (by
 show B a≠OI;rcases c with z|z<;>rw[z]<;>simp),λb l e=>⟨.inr (h.bgt b l e).1,.inr (h.bgt b l e).2,(h.fr.bgA b l e).2.2⟩,h.fr.bag⟩
theorem ej.viewA(h:ej K f B bg H δ β σ):hO K (ot B bg) H (hE δ) σ:=by
 refine⟨by unfold hE;rw[OH,h.len],λi d e=>?_⟩;unfold hE at e;rw[OS]at e;cases q:δ[i]? with
 |none=>rw[q]at e;cases e
 |some z=>
  rw[q]at e;cases z with
  |none=>cases e
  |some s=>
   obtain⟨v,m,o⟩:=h.tell i s q;cases s with
   |sh c=>cases e;exact⟨v,m,bw.tr ZG _ _ o⟩
   |own ds=>
    cases e;obtain⟨a,k,g,j,l,t⟩:=o;refine⟨v,m,a,k,g,⟨λz=>?_,.inl l⟩,ba.tr ZG _ _ t⟩;have z':B a=My 0\/B a=My 1:=z;rw[j]at z';rcases z' with z'|z'<;>cases z'
   |grd ac=>
    cases e;obtain⟨a,D,g,j,l,t,u⟩:=o;have w:∀c,B c=My (i+2)->¬(ot B bg).A c:=λc y z=>by
     have z':B c=My 0\/B c=My 1:=z;rw[y]at z';rcases z' with z'|z'<;>cases z'
    exact⟨v,m,a,_,g,⟨w a j,.inl l⟩,bj.den ZG u λr _ C=>w r C⟩
   |odc b ks vs=>
    cases e;obtain⟨a,g,j,n,k,l,t,u,I⟩:=o;refine⟨v,m,?_⟩;unfold bw;refine⟨a,n,k,g,⟨λz=>?_,l⟩,t,λx p=>(u x p).tr ZG,ba.tr ZG _ _ I⟩;have z':B a=My 0\/B a=My 1:=z;rw[j]at z';rcases z' with z'|z'<;>cases z'
theorem ej.to{F:Fx}(h:ej K f B bg H δ β σ)(hF:F.bg=bg)(t:To F H H' aa):ej K f B bg H' δ aa σ/\f_ B H B H':=by
 have u:∀a,B a≠My 1->∀b l,F.bg=My (b,l)->a≠b/\a≠l:=λa p b l e=>by
  rw[hF]at e;exact⟨λz=>p (z▸(h.bgt b l e).1),λz=>p (z▸(h.bgt b l e).2)⟩
 have x:∀a o,H a=My o->B a≠My 1->H' a=My o:=λa o e n=>t.kp a o e (u a n);have fr:Fr (d4 B bg) H' aa:=⟨λa p z=>(by
  by_cases y:B a=My 1
  .by_cases g:∃b l,bg=My (b,l)/\(a=b\/a=l)
   .obtain⟨b,l,e,q⟩:=g
    obtain⟨j,m⟩:=t.fr.bag b l (hF.trans e);rcases q with rfl|rfl
    .rw[j]at z;cases z
    .rw[m]at z;cases z
   .cases q:H a with
    |none=>exact h.fr.occ a p q
    |some o=>
     rw[t.kp a o q λb l e=>⟨λw=>g ⟨b,l,hF.symm.trans e,.inl w⟩,λw=>g ⟨b,l,hF.symm.trans e,.inr w⟩⟩]at z;cases z
  .cases q:H a with
   |none=>exact h.fr.occ a p q
   |some o=>rw[x a o q y]at z;cases z),h.fr.bgA,λb l e=>t.fr.bag b l (hF.trans e)⟩
 have E:Tr (d4 B bg) H (d4 B bg) H':=⟨λ_ n _=>n,λa o n e=>x a o e (λz=>n (by show B a≠OI;rw[z];simp)),rfl⟩;have D:∀a,H a≠OI->H' a≠OI:=λa p z=>by
  by_cases g:∃b l,bg=My (b,l)/\(a=b\/a=l)
  .obtain⟨b,l,e,q⟩:=g
   obtain⟨j,m⟩:=t.fr.bag b l (hF.trans e);rcases q with rfl|rfl
   .rw[j]at z;cases z
   .rw[m]at z;cases z
  .cases q:H a with
   |none=>exact p q
   |some o=>
    rw[t.kp a o q λb l e=>⟨λw=>g ⟨b,l,hF.symm.trans e,.inl w⟩,λw=>g ⟨b,l,hF.symm.trans e,.inr w⟩⟩]at z;cases z
 refine⟨⟨fr,h.bgt,h.len,λa p=>D a (h.cov a p),h.new,λc k r=>(h.lst c k r).imp λo z=>x c o z (by rw[r];intro z;cases z),λi s e=>?_⟩,λa o e n=>x a o e (by rcases n with n|n<;>rw[n]<;>simp),λ_ _=>rfl,λ_ _ _ n=>n,D⟩
 obtain⟨v,A,C⟩:=h.tell i s e;exact⟨v,A,C.tr E λc d=>⟨d,λo q=>x c o q (by rw[d];intro z;cases z)⟩⟩
theorem ej.set(h:ej K f B bg H δ β σ)(a:bw K (d4 B bg) H d v):ej K f B bg H (δ.set i (My (.sh d))) β (σ.set i (My v)):=by
 refine⟨h.fr,h.bgt,by rw[QC,QC,h.len],h.cov,h.new,h.lst,λj c e=>?_⟩;rw[QX]at e;rw[QX];by_cases q:i=j
 .subst q
  rw[OZ rfl]at e⊢;split at e
  .rename_i g
   cases e;rw[OZ (by rw[<-h.len];exact g)];exact⟨v,rfl,a⟩
  .cases e
 .rw[OY q]at e⊢
  exact h.tell j c e
noncomputable def gNil:G:=λδ β=>My (.nx δ,β)
noncomputable def aD(g h:G):G:=λδ β=>match g δ β with
 |some (.nx δ1,β1)=>h δ1 β1
 |r=>r
def f9(i:Nat)(f:FD):G:=λδ β=>match f (vw δ) β with
 |some (.ok d,β1)=>My (.nx (δ.set i (My (.sh d))),β1)
 |some (.error C,β1)=>My (.ex C δ,β1)
 |none=>OI
noncomputable def o9(f:FD):G:=λδ β=>match f (hE δ) β with
 |some (.ok _,β1)=>My (.nx δ,β1)
 |some (.error C,β1)=>My (.ex C δ,β1)
 |none=>OI
noncomputable def eV(f:FD):G:=λδ β=>match f (hE δ) β with
 |some (.ok d,β1)=>My (.rt d,β1)
 |some (.error C,β1)=>My (.ex C δ,β1)
 |none=>OI
noncomputable def ri(t:a0r)(g h:G):G:=λδ β=>match t (hE δ) β with
 |some (.ok OL,β1)=>g δ β1
 |some (.ok OQ,β1)=>h δ β1
 |some (.error C,β1)=>My (.ex C δ,β1)
 |none=>OI
variable{st:QH}{f:a0R}
theorem bF:PSs X [] (tG X.K X.H₀ gNil E):=pS.imp λD σ H d=>by
 obtain⟨B,bg,δ,β,o,aa,ok,e,h⟩:=d;cases e;exact h σ B H (f_.refl B H) ok
theorem af(i:PS X st (tG X.K X.H₀ g E))(j:PSs X f (tG X.K X.H₀ h E)):PSs X (st::f) (tG X.K X.H₀ (aD g h) E):=(cS i j).imp λD σ H l=>by
 obtain⟨B,bg,δ,β,o,aa,ok,e,q⟩:=l;unfold aD at e;split at e
 .rename_i δ1 β1 m
  refine⟨B,bg,δ,β,.nx δ1,β1,ok,m,λt u H' s d=>⟨u,bg,δ1,β1,o,aa,d,e,ib.pre s ?_⟩⟩;exact q
 .rename_i r v
  refine⟨B,bg,δ,β,o,aa,ok,e,?_⟩;cases o with
  |nx δ1=>exact Pp e (v δ1 aa)
  |_=>exact q
theorem am(d:PS X st (tG X.K X.H₀ g E)):PSs X [st] (tG X.K X.H₀ g E):=ig d
theorem aN{x:PZ}{f:FD}(h:PS X (.Assign [.Name x pos'] e ab) (fR (tV X.K f E) (dm i))):PS X (.Assign [.Name x pos'] e ab) (tG X.K X.H₀ (f9 i f) E):=h.imp λD σ H m=>by
 obtain⟨B,bg,δ,β,o,aa,ok,e,q⟩:=m;refine⟨d4 B bg,vw δ,β,ok.fr,ok.view,?_⟩;unfold f9 at e;split at e
 .rename_i d β1 j
  cases e;refine⟨.ok d,_,j,λv H' t a=>?_⟩;obtain⟨g,l⟩:=ok.to rfl t;exact q _ B H' l (g.set a)
 .rename_i C β1 j
  cases e;refine⟨.error C,_,j,λH' t=>?_⟩;obtain⟨g,l⟩:=ok.to rfl t;exact q _ B H' l g
 .cases e
theorem oB{f:FD}(h:PS X (.Expr e ab) (rq (tV X.K f E))):PS X (.Expr e ab) (tG X.K X.H₀ (o9 f) E):=h.imp λD σ H l=>by
 obtain⟨B,bg,δ,β,o,aa,ok,e,q⟩:=l;refine⟨ot B bg,hE δ,β,ok.frA,ok.viewA,?_⟩;unfold o9 at e;split at e
 .rename_i d β1 i
  cases e;refine⟨.ok d,_,i,λv H' t a=>?_⟩;obtain⟨g,j⟩:=ok.to rfl t;exact q _ B H' j g
 .rename_i C β1 i
  cases e;refine⟨.error C,_,i,λH' t=>?_⟩;obtain⟨g,j⟩:=ok.to rfl t;exact q _ B H' j g
 .cases e
noncomputable def gr(B:Ow):Ow:=λa=>if B a=My 0\/B a=My 1 then B a else OI
theorem LQ{B:Ow}{bg:a0m}{H:Hp}:Tr (ot B bg) H (d4 (gr B) bg) H:=⟨λa h _ z=>by
 have d:gr B a≠OI:=z;unfold gr at d;split at d
 .rename_i q;exact h q
 .exact d rfl,λ_ _ _ h=>h,rfl⟩
theorem DM{B:Ow}{H:Hp}:f_ B H (gr B) H:=⟨λ_ _ h _=>h,λa h=>by unfold gr;rw[OZ h],λa o h n=>by unfold gr;rw[n];simp,λ_ h=>h⟩
theorem aK{f:FD}(h:PS X (.Return (My e) ab) (wL (tV X.K f E))):PS X (.Return (My e) ab) (tG X.K X.H₀ (eV f) E):=h.imp λD σ H r=>by
 obtain⟨B,bg,δ,β,o,aa,ok,e,q⟩:=r;refine⟨ot B bg,hE δ,β,ok.frA,ok.viewA,?_⟩;unfold eV at e;split at e
 .rename_i d β1 j
  cases e;refine⟨.ok d,_,j,λv H' t c=>?_⟩;obtain⟨g,m⟩:=ok.to rfl t;refine q _ (gr B) H' (m.trans DM) ⟨λa k=>g.fr.occ a ?_,λb l e=>?_,g.fr.bag⟩ (bw.tr LQ _ _ c)
  .have i:gr B a≠OI:=k
   show B a≠OI;unfold gr at i;split at i
   .exact i
   .exact Pp rfl i
  .refine⟨?_,?_,(g.fr.bgA b l e).2.2⟩
   .show gr B b≠OI
    unfold gr;rw[OZ (.inr (ok.bgt b l e).1),(ok.bgt b l e).1];simp
   .show gr B l≠OI
    unfold gr;rw[OZ (.inr (ok.bgt b l e).2),(ok.bgt b l e).2];simp
 .rename_i C β1 j
  cases e;refine⟨.error C,_,j,λH' t=>?_⟩;obtain⟨g,m⟩:=ok.to rfl t;exact q _ B H' m g
 .cases e
theorem bZ{c:Expr}{a b:a0R}(l:PT X c (g8 X.K t E))(k:PSs X a (tG X.K X.H₀ g E))(m:PSs X b (tG X.K X.H₀ h E)):PS X (.If c a b ab) (tG X.K X.H₀ (ri t g h) E):=(IH l k m).imp λD σ H r=>by
 obtain⟨B,bg,δ,β,o,aa,ok,e,q⟩:=r;refine⟨ot B bg,hE δ,β,ok.frA,ok.viewA,?_⟩;unfold ri at e;split at e
 .rename_i β1 i
  refine⟨.ok OL,_,i,λv H' t f=>?_⟩;subst f;obtain⟨d,j⟩:=ok.to rfl t;rw[OZ rfl];exact⟨B,bg,δ,β1,o,aa,d,e,ib.pre j q⟩
 .rename_i β1 i
  refine⟨.ok OQ,_,i,λv H' t f=>?_⟩;subst f;obtain⟨d,j⟩:=ok.to rfl t;rw[OY O4];exact⟨B,bg,δ,β1,o,aa,d,e,ib.pre j q⟩
 .rename_i C β1 i
  cases e;refine⟨.error C,_,i,λH' t=>?_⟩;obtain⟨d,j⟩:=ok.to rfl t;exact q _ B H' j d
 .cases e
abbrev v_:=D->Ds->Option Ds
abbrev lK:=a0b->Ds->Option Ds
def kh(K:Pl)(g:TG)(tg:v_):Prop:=∀(f:Hp) (B:Ow) (bg:a0m) (H:Hp) (δ a:Ds) (β:Bg) (σ:St) (d:D) (v:V) (Q:a0F),ej K f B bg H δ β σ->bw K (d4 B bg) H d v->tg d δ=My a->(∀h,ej K f B bg H a β h->Q h H)->g v σ H Q
def pC(K:Pl)(g:H_)(tg:lK):Prop:=∀(f:Hp) (B:Ow) (bg:a0m) (H:Hp) (δ a:Ds) (β:Bg) (σ:St) (b:a0b) (c:a0k) (Q:a0F),ej K f B bg H δ β σ->ba K (d4 B bg) H b c->tg b δ=My a->(∀d,ej K f B bg H a β d->Q d H)->g c σ H Q
noncomputable def sgN(i:Nat):v_:=λd δ=>My (δ.set i (My (.sh d)))
noncomputable def KY:lK:=λa δ=>match a with
 |[]=>My δ
 |_=>OI
noncomputable def KW(t:v_)(u:lK):lK:=λb δ=>match b with
 |[]=>OI
 |d::r=>(t d δ).bind λa=>u r a
noncomputable def sgT(t:lK):v_:=λd δ=>match d with
 | .tup ds=>t ds δ
 |_=>OI
theorem aI:kh K (dm i) (sgN i):=λf B bg H δ a β σ d v Q b c e k=>by
 cases e;exact k _ (b.set c)
theorem ii:pC K L2.gNil KY:=λf B bg H δ a β σ b p Q c n e k=>by
 cases b with
 |nil=>cases e;exact⟨n,k _ c⟩
 |cons _ _=>cases e
theorem cI(m:kh K t s)(o:pC K u uf):pC K (xL t u) (KW s uf):=λf B bg H δ a β σ b D Q c n e k=>by
 cases b with
 |nil=>cases e
 |cons d r=>
  obtain⟨x,l,rfl,p,v⟩:=n;have h:(s d δ).bind (λa=>uf r a)=My a:=e;cases q:s d δ with
  |none=>rw[q]at h;cases h
  |some g=>
   rw[q]at h;exact⟨x,l,rfl,m f B bg H δ g β σ d x _ c p q λi j=>o f B bg H g a β i r l Q j v h k⟩
theorem gi:∀b δ a,KY b δ=My a->b.length=0:=λb δ a h=>by
 cases b with
 |nil=>rfl
 |cons _ _=>cases h
theorem cE{n:Nat}(h:∀b δ a,u b δ=My a->b.length=n):∀b δ a,KW t u b δ=My a->b.length=n+1:=λb δ a e=>by
 cases b with
 |nil=>cases e
 |cons d r=>
  have g:(t d δ).bind (λa=>u r a)=My a:=e;cases q:t d δ with
  |none=>rw[q]at g;cases g
  |some i=>rw[q]at g;rw[Pb,h _ _ _ g]
theorem jC{n:Nat}(h:pC K t i)(x:∀c δ b,i c δ=My b->c.length=n):kh K (EI K n t) (sgT i):=λf B bg H δ b β σ d v Q D E e k=>by
 cases d<;>first
  |(obtain⟨a,p,rfl,F,g⟩:=bw.sqT E;exact⟨a,p,rfl,F,by rw[<-g.length];exact x _ _ _ e,h f B bg H δ b β σ _ p Q D g e k⟩)
  |cases e
def xN(f:FD)(tg:v_):G:=λδ β=>match f (vw δ) β with
 |some (.ok d,β1)=>(tg d δ).map λa=>(.nx a,β1)
 |some (.error C,β1)=>My (.ex C δ,β1)
 |none=>OI
theorem HZ{f:FD}{tg:v_}(l:kh X.K g tg)(h:PS X (.Assign [s] e ab) (fR (tV X.K f E) g)):PS X (.Assign [s] e ab) (tG X.K X.H₀ (xN f tg) E):=h.imp λD σ H w=>by
 obtain⟨B,bg,δ,β,o,aa,ok,e,q⟩:=w;refine⟨d4 B bg,vw δ,β,ok.fr,ok.view,?_⟩;unfold xN at e;split at e
 .rename_i d β1 j
  cases a:tg d δ with
  |none=>rw[a]at e;cases e
  |some b=>
   rw[a]at e;cases e;refine⟨.ok d,_,j,λv H' t c=>?_⟩;obtain⟨i,m⟩:=ok.to rfl t;exact l X.H₀ B bg H' δ b _ σ d v _ i c a λr u=>q r B H' m u
 .rename_i C β1 j
  cases e;refine⟨.error C,_,j,λH' t=>?_⟩;obtain⟨i,m⟩:=ok.to rfl t;exact q _ B H' m i
 .cases e
def xM(i:Nat)(a:a0Z)(f:FD):G:=λδ β=>match(vw δ).getD i OI with
 |none=>OI
 |some c=>match f (vw δ) β with
  |some (.ok d,β1)=>(a c d).map λz=>(.nx (δ.set i (My (.sh z))),β1)
  |some (.error C,β1)=>My (.ex C δ,β1)
  |none=>OI
theorem oC{f:FD}(l:bi X.K s op)(h:PS X st (KN i (tV X.K f E) s)):PS X st (tG X.K X.H₀ (xM i op f) E):=h.imp λD σ H I=>by
 obtain⟨B,bg,δ,β,o,aa,ok,e,q⟩:=I;unfold xM at e;split at e
 .cases e
 .rename_i c j
  have m:(vw δ)[i]?=My (My c):=by
   rw[O5]at j;cases z:(vw δ)[i]? with
   |none=>rw[z]at j;cases j
   |some w=>rw[z]at j;simp at j;rw[j]
  obtain⟨v,J,L⟩:=ok.view.tell i c m;refine⟨v,J,d4 B bg,vw δ,β,ok.fr,ok.view,?_⟩;split at e
  .rename_i d β1 r
   cases a:op c d with
   |none=>rw[a]at e;cases e
   |some z=>
    rw[a]at e;cases e;refine⟨.ok d,_,r,λw H' t b=>?_⟩;obtain⟨g,y⟩:=ok.to rfl t;refine l (d4 B bg) H' aa _ c d z v w t.fr (bw.tr (t.tr ok.fr) _ _ L) b a λu N t2 O=>?_;obtain⟨A,P⟩:=g.to rfl t2;exact q _ B N (y.trans P) (A.set O)
  .rename_i C β1 r
   cases e;refine⟨.error C,_,r,λH' t=>?_⟩;obtain⟨g,y⟩:=ok.to rfl t;exact q _ B H' y g
  .cases e
theorem f_.tr{B d:Ow}{H H':Hp}{bg:a0m}(s:f_ B H d H'):Tr (d4 B bg) H (d4 d bg) H':=
 ⟨λa h b z=>by
  have c:B a=OI:=by
   cases q:B a with
   |none=>rfl
   |some t=>exact Pp (show B a≠OI by rw[q];simp) h
  cases q:H a with
  |none=>exact b q
  |some o=>exact z (s.nn a o q c),λa o h e=>s.kp a o e (.inl (by
  cases q:B a with
  |none=>rfl
  |some t=>exact Pp (show B a≠OI by rw[q];simp) h)),rfl⟩
noncomputable def np(tg:v_)(g:G):a0b->G
 |[],δ,β=>My (.nx δ,β)
 |d::ds,δ,β=>match tg d δ with
  |none=>OI
  |some a=>match g a β with
   |some (.nx δ2,β2)=>np tg g ds δ2 β2
   |some (.ct δ2,β2)=>np tg g ds δ2 β2
   |some (.bk δ2,β2)=>My (.nx δ2,β2)
   |r=>r
def mo(a:Ds->M a0b)(tg:v_)(g:G):G:=λδ β=>match a δ β with
 |some (.ok ds,β1)=>np tg g ds δ β1
 |some (.error C,β1)=>My (.ex C δ,β1)
 |none=>OI
abbrev EK(a:FL):v_->G->G:=mo λδ=>a (vw δ)
theorem yT{tg:v_}(hw:∀{B bg H δ β σ R},ej X.K X.H₀ B bg H δ β σ->run (λH' (b:a0b) (J:It)=>s_ X.K J (d4 B bg) H' b) (d4 B bg) E σ (it δ) H R β->wi σ H R)(l:kh X.K tgg tg)(h:PS X (.For tgt s body [] ab) (wM wi tgg (tG X.K X.H₀ g E))):PS X (.For tgt s body [] ab) (tG X.K X.H₀ (mo it tg g) E):=h.imp λD σ H h_=>by
 obtain⟨B,bg,δ,β,o,aa,ok,e,q⟩:=h_;refine hw ok ?_;unfold mo at e;split at e
 .rename_i b β1 e1
  refine⟨.ok b,_,e1,λJ p t hJ=>?_⟩;obtain⟨F,G⟩:=ok.to rfl t;refine⟨λi m A T=>m+i=b.length/\∃y I a,f_ B p y T/\ej X.K X.H₀ y bg T I a A/\np tg g (b.drop i) I a=My (o,aa),⟨b.length,rfl,B,δ,β1,f_.refl B p,F,e⟩,?_⟩;rintro i m A T ⟨hm,y,I,a,U,u,r⟩;obtain⟨iy,is⟩:=hJ (d4 y bg) T a U.tr u.fr i;cases f:b[i]? with
  |none=>
   have k:b.length<=i:=Vb.mp f;rw[SG k]at r;cases r;exact .inl ⟨is (by lia),q A y T (G.trans U) u⟩
  |some d=>
   have k:i<b.length:=(OT.mp f).1;obtain⟨go,yl⟩:=iy d f;have ed:b.drop i=d::b.drop (i+1):=by
    rw[Qa k];congr 1;exact PH ((ON k).symm.trans f)
   rw[ed]at r;unfold np at r;split at r
   .cases r
   .rename_i v e3
    refine .inr ⟨go,λW M=>∃n L N,f_ B p n M/\ej X.K X.H₀ n bg M L N W/\np tg g (b.drop (i+1)) L N=My (o,aa),λW M ⟨n,L,N,z1,z2,z3⟩=>⟨m-1,by omega,by lia,n,L,N,z1,z2,z3⟩,λx H3 hy=>?_⟩;obtain⟨sm,dx⟩:=yl x H3 hy;obtain⟨S,s3⟩:=u.to rfl (u.fr.same sm);refine l X.H₀ y bg H3 I v a A d x _ S dx e3 λac O=>?_;have P:=U.trans s3;split at r
    .rename_i j β5 Y
     exact⟨y,bg,v,a,.nx j,β5,O,Y,λQ Z V c w=>⟨Z,j,β5,P.trans c,w,r⟩⟩
    .rename_i j β5 Y
     exact⟨y,bg,v,a,.ct j,β5,O,Y,λQ Z V c w=>⟨Z,j,β5,P.trans c,w,r⟩⟩
    .rename_i j β5 Y
     cases r;exact⟨y,bg,v,a,.bk j,_,O,Y,λQ Z V c w=>q Q Z V (G.trans (P.trans c)) w⟩
    .rename_i x h1 h2 h3
     refine⟨y,bg,v,a,o,aa,O,r,?_⟩;have z:=ib.pre (G.trans P) q;cases o with
     |nx j=>exact Pp r (h1 _ _)
     |ct j=>exact Pp r (h2 _ _)
     |bk j=>exact Pp r (h3 _ _)
     |rt d=>exact z
     |rg d=>exact z
     |ex C j=>exact z
 .rename_i C β1 e1
  cases e;refine⟨.error C,_,e1,λH' t=>?_⟩;obtain⟨u,U⟩:=ok.to rfl t;exact q _ B H' U u
 .cases e
theorem bG{tg:v_}(l:kh X.K tgg tg)(h:PS X (.For i d body [] ab) (wM (iV X.K j E) tgg (tG X.K X.H₀ g E))):PS X (.For i d body [] ab) (tG X.K X.H₀ (EK j tg g) E):=yT (λa r=>⟨_,_,_,a.fr,a.view,r⟩) l h
theorem ej.claim{f:Hp}{B:Ow}{bg:a0m}{H H':Hp}{δ:Ds}{β aa:Bg}{σ:St}(S:OM->Prop)(a:ej K f B bg H δ β σ)(t:To (d4 B bg) H H' aa)(r:∀c,S c->H c=OI/\uX H' c)(x:∀{C:Ow},(∀c,S c->C c=My (i+2))->(∀c,C c≠OI->B c≠OI\/S c)->Tr (d4 B bg) H (d4 C bg) H'->lN K C bg H' i Q v):
  ∃J,ej K f J bg H' (δ.set i (My Q)) aa (σ.set i (My v))/\f_ B H J H':=by
 classical
 obtain⟨g,L⟩:=a.to rfl t;have hB:∀c,S c->B c=OI:=λc m=>R3 λz=>a.fr.occ c z (r c m).1;have u:∀c n,B c=My n->¬S c:=λc n e z=>by rw[hB c z]at e;cases e
 have A:f_ B H (λc=>if S c then My (i+2)else B c) H':=⟨L.kp,λc m=>OY (m.elim (u c 0) (u c 1)),λc o h n=>(OY λz=>by rw[(r c z).1]at h;cases h).trans n,L.al⟩;have p:Tr (d4 B bg) H (d4 (λc=>if S c then My (i+2)else B c) bg) H':=A.tr;have I:∀b l,bg=My (b,l)->(if S b then My (i+2)else B b)=My 1/\(if S l then My (i+2)else B l)=My 1:=λb l e=>by
  obtain⟨b1,b2⟩:=a.bgt b l e;exact⟨(OY (u b 1 b1)).trans b1,(OY (u l 1 b2)).trans b2⟩
 refine⟨λc=>if S c then My (i+2)else B c,⟨⟨λc m z=>?_,λb l e=>⟨λz=>(by cases z.symm.trans (I b l e).1),λz=>(by cases z.symm.trans (I b l e).2),(a.fr.bgA b l e).2.2⟩,g.fr.bag⟩,I,by rw[QC,QC,a.len],g.cov,λc k m=>?_,λc k m=>?_,λj s e=>?_⟩,A⟩
 .by_cases q:S c
  .rcases(r c q).2 with⟨_,w⟩|⟨_,w⟩<;>(rw[w]at z;cases z)
  .exact g.fr.occ c (λy=>m ((OY q).trans y)) z
 .by_cases z:S c
  .cases w:f c with
   |none=>rfl
   |some o=>exact Pp (r c z).1 (a.cov c (by rw[w];simp))
  .exact a.new c k ((OY z).symm.trans m)
 .by_cases z:S c
  .exact(r c z).2
  .exact g.lst c k ((OY z).symm.trans m)
 .rw[QX]at e⊢
  by_cases q:i=j
  .subst q
   rw[OZ rfl]at e⊢;split at e
   .rename_i N
    cases e;rw[OZ (by rw[<-a.len];exact N)];exact⟨_,rfl,x (λc z=>OZ z) (λc z=>R3 λy=>z ((OY λw=>y (.inr w)).trans (R3 λw=>y (.inl w)))) p⟩
   .cases e
  .rw[OY q]at e⊢
   obtain⟨w,O,P⟩:=a.tell j s e;exact⟨w,O,P.tr p λc d=>⟨(OY (u c _ d)).trans d,λo h=>t.kp c o h λb l z=>⟨λy=>(by subst y;rw[(a.bgt _ _ z).1]at d;cases d),λy=>(by subst y;rw[(a.bgt _ _ z).2]at d;cases d)⟩⟩⟩
theorem ej.newAt{f:Hp}{B:Ow}{bg:a0m}{H:Hp}{δ:Ds}{β:Bg}{σ:St}{p:OM}(a:ej K f B bg H δ β σ)(g:H p=OI)(j:uX (upd H p u) p)(b:∀{d:Ow},d p=My (i+2)->Tr (d4 B bg) H (d4 d bg) (upd H p u)->lN K d bg (upd H p u) i sl (.ref p)):
  ∃h,ej K f h bg (upd H p u) (δ.set i (My sl)) β (σ.set i (My (.ref p)))/\f_ B H h (upd H p u):=a.claim (·=p) (a.fr.upd u g) (λc z=>by cases z;exact⟨g,j⟩) λl _ e=>b (l p rfl) e
theorem ej.writeAt{f:Hp}{B:Ow}{bg:a0m}{H:Hp}{δ:Ds}{β:Bg}{σ:St}{a:OM}(p:ej K f B bg H δ β σ)(D:σ[i]?=My (My (.ref a)))(hB:B a=My (i+2))(r:uX (upd H a u) a)(E:Tr (d4 B bg) H (d4 B bg) (upd H a u)->lN K B bg (upd H a u) i sl (.ref a)):
  ej K f B bg (upd H a u) (δ.set i (My sl)) β σ/\f_ B H B (upd H a u):=by
 have g:f_ B H B (upd H a u):=by
  refine⟨λc o h n=>?_,λ_ _=>rfl,λ_ _ _ n=>n,λc m=>?_⟩
  .rw[bb]
   .exact h
   .intro z;subst z;rw[hB]at n;rcases n with n|n<;>cases n
  .by_cases z:c=a
   .subst z;rw[ao];simp
   .rw[bb z];exact m
 have x:Tr (d4 B bg) H (d4 B bg) (upd H a u):=g.tr;refine⟨⟨⟨λc m z=>?_,p.fr.bgA,λb l e=>?_⟩,p.bgt,by rw[QC,p.len],λa F=>g.al a (p.cov a F),p.new,λc k m=>(by
  by_cases z:c=a
  .subst z;exact r
  .exact(p.lst c k m).imp λo y=>by rw[bb z];exact y),λj s e=>?_⟩,g⟩
 .by_cases q:c=a
  .subst q;rw[ao]at z;cases z
  .rw[bb q]at z;exact p.fr.occ c m z
 .obtain⟨b1,b2⟩:=p.bgt b l e
  rw[bb (λz=>by subst z;rw[hB]at b1;cases b1),bb (λz=>by subst z;rw[hB]at b2;cases b2)];exact p.fr.bag b l e
 .rw[QX]at e
  by_cases q:i=j
  .subst q
   rw[OZ rfl]at e;split at e
   .cases e
    exact⟨_,D,E x⟩
   .cases e
  .rw[OY q]at e
   obtain⟨v,t,w⟩:=p.tell j s e;exact⟨v,t,w.tr x λc d=>⟨d,λo z=>(bb λy=>by subst y;rw[hB]at d;cases d;exact q rfl).trans z⟩⟩
theorem ej.newOwn{f:Hp}{B:Ow}{bg:a0m}{H:Hp}{δ:Ds}{β:Bg}{σ:St}{p:OM}(a:ej K f B bg H δ β σ)(g:H p=OI)(b:ba K (d4 B bg) H j h):
  ∃d,ej K f d bg (upd H p (.lst h)) (δ.set i (My (.own j))) β (σ.set i (My (.ref p)))/\f_ B H d (upd H p (.lst h)):=a.newAt g (.inl ⟨h,ao⟩) λe t=>⟨p,h,rfl,e,ao,ba.tr t _ _ b⟩
theorem ej.writeOwn{f:Hp}{B:Ow}{bg:a0m}{H:Hp}{δ:Ds}{β:Bg}{σ:St}{a:OM}(b:ej K f B bg H δ β σ)(c:σ[i]?=My (My (.ref a)))(hB:B a=My (i+2))(k:H a=My (.lst d))(e:ba K (d4 B bg) H ds xs):
  ej K f B bg (upd H a (.lst xs)) (δ.set i (My (.own ds))) β σ/\f_ B H B (upd H a (.lst xs)):=b.writeAt c hB (.inl ⟨xs,ao⟩) λt=>⟨a,xs,rfl,hB,ao,ba.tr t _ _ e⟩
def uw(i:Nat)(f:FL):G:=λδ β=>match f (vw δ) β with
 |some (.ok ds,β1)=>if ds.length<=Pk then My (.nx (δ.set i (My (.own ds))),β1)else OI
 |some (.error C,β1)=>My (.ex C δ,β1)
 |none=>OI
theorem ow{f:FL}(h:PS X st (fR (KI (hU X.K f E)) (dm i))):PS X st (tG X.K X.H₀ (uw i f) E):=h.imp λD σ H m=>by
 obtain⟨B,bg,δ,β,o,aa,ok,e,q⟩:=m;refine⟨d4 B bg,vw δ,β,ok.fr,ok.view,?_⟩;unfold uw at e;split at e
 .rename_i ds β1 g
  split at e
  .rename_i r
   cases e;refine⟨.ok ds,_,g,λb H' t a=>⟨by rw[<-a.length];exact r,λp u=>?_⟩⟩;obtain⟨d,j⟩:=ok.to rfl t;obtain⟨w,l,v⟩:=d.newOwn (i:=i) u a;exact q _ _ _ (j.trans v) l
  .cases e
 .rename_i C β1 g
  cases e;refine⟨.error C,_,g,λH' t=>?_⟩;obtain⟨d,j⟩:=ok.to rfl t;exact q _ B H' j d
 .cases e
def uA(i:Nat)(f:FL):G:=λδ β=>match δ.getD i OI with
 |some (.own cs)=>match f (vw δ) β with
  |some (.ok [d],β1)=>if cs.length<Pk then My (.nx (δ.set i (My (.own (cs++[d])))),β1)else OI
  |some (.error C,β1)=>My (.ex C δ,β1)
  |_=>OI
 |_=>OI
theorem getD_some{a:Type}{δ:List (Option a)}{i:Nat}{s:a}(h:δ.getD i OI=My s):δ[i]?=My (My s):=by
 rw[O5]at h;cases z:δ[i]? with
 |none=>rw[z]at h;cases h
 |some w=>rw[z]at h;simp at h;rw[h]
theorem lX{f:FL}(h:PS X st (rq (tBM X.K "list" vE (jh i) (hU X.K f E)))):PS X st (tG X.K X.H₀ (uA i f) E):=h.imp λD σ H L=>by
 obtain⟨B,bg,δ,β,o,aa,ok,e,q⟩:=L;unfold uA at e;split at e
 .rename_i cs J
  obtain⟨v,u,a,b,rfl,N,O,U⟩:=ok.tell i _ (getD_some J);refine⟨_,u,.inl ⟨rfl,b,en.of O⟩,d4 B bg,vw δ,β,ok.fr,ok.view,?_⟩;split at e
  .rename_i d β1 w
   split at e
   .rename_i P
    cases e;refine⟨.ok [d],_,w,λk H' t c=>?_⟩;obtain⟨g,y⟩:=ok.to rfl t;obtain⟨v,rfl,Q⟩:=ba.one c;obtain⟨W,j,Y,l,A,R,m,r⟩:=g.tell i _ (getD_some J);rw[u]at j;cases j;cases A;refine⟨a,l,v,rfl,rfl,m,by rw[<-r.length];exact P,?_⟩;obtain⟨I,T⟩:=g.writeOwn (ds:=cs++[d]) (xs:=l++[v]) u N m (ba.append r (ba.cons Q ba.nil));exact q _ _ _ (y.trans T) I
   .cases e
  .rename_i C β1 w
   cases e;refine⟨.error C,_,w,λH' t=>?_⟩;obtain⟨g,y⟩:=ok.to rfl t;exact q _ B H' y g
  .cases e
 .cases e
noncomputable def fz(i:Nat)(δ:Ds):Ds:=match δ.getD i OI with
 |some (.own ds)=>δ.set i (My (.sh (.lst ds)))
 |some (.grd ac)=>δ.set i (My (.sh (.lst (ac.map D.lst))))
 |some (.odc b ks vs)=>δ.set i (My (.sh (.dct b ks vs)))
 |_=>δ
theorem ej.letGo{f:Hp}{B:Ow}{bg:a0m}{H:Hp}{δ:Ds}{β:Bg}{σ:St}(S:OM->Prop)(a:ej K f B bg H δ β σ)(y:∀c,S c->B c=My (i+2))(I:σ[i]?=My (My v))(D:∀{r:Ow},(∀c,S c->r c=OI)->(∀c,¬S c->r c=B c)->Tr (d4 B bg) H (d4 r bg) H->lN K r bg H i N v):∃A,ej K f A bg H (δ.set i (My N)) β σ/\f_ B H A H:=by
 classical
 have p:∀c n,(if S c then OI else B c)=My n->B c=My n:=λc n e=>by
  by_cases z:S c
  .rw[OZ z]at e;cases e
  .exact(OY z).symm.trans e
 have C:∀c,B c=OI->(if S c then OI else B c)=OI:=λc e=>by rw[e];exact ite_self _
 have t:∀c,B c=My 0\/B c=My 1->¬S c:=λc h z=>by rw[y c z]at h;rcases h with h|h<;>cases h
 have m:f_ B H (λc=>if S c then OI else B c) H:=⟨λ_ _ h _=>h,λc g=>OY (t c g),λc o h n=>C c n,λ_ h=>h⟩;have x:Tr (d4 B bg) H (d4 (λc=>if S c then OI else B c) bg) H:=m.tr;have u:∀b l,bg=My (b,l)->(if S b then OI else B b)=My 1/\(if S l then OI else B l)=My 1:=λb l e=>by
  obtain⟨b1,b2⟩:=a.bgt b l e;exact⟨(OY (t b (.inr b1))).trans b1,(OY (t l (.inr b2))).trans b2⟩
 refine⟨λc=>if S c then OI else B c,⟨⟨λc g=>a.fr.occ c λz=>g (C c z),λb l e=>⟨λz=>(by cases z.symm.trans (u b l e).1),λz=>(by cases z.symm.trans (u b l e).2),(a.fr.bgA b l e).2.2⟩,a.fr.bag⟩,u,by rw[QC,a.len],a.cov,λc k g=>a.new c k (p c _ g),λc k g=>a.lst c k (p c _ g),λj s e=>?_⟩,m⟩;rw[QX]at e;by_cases q:i=j
 .subst q
  rw[OZ rfl]at e;split at e
  .cases e
   exact⟨v,I,D (λc z=>OZ z) (λc z=>OY z) x⟩
  .cases e
 .rw[OY q]at e
  obtain⟨w,J,L⟩:=a.tell j s e;exact⟨w,J,L.tr x λc d=>⟨(OY λz=>by rw[y c z]at d;cases d;exact q rfl).trans d,λ_ z=>z⟩⟩
theorem ej.freeze{f:Hp}{B:Ow}{bg:a0m}{H:Hp}{δ:Ds}{β:Bg}{σ:St}(i:Nat)(b:ej K f B bg H δ β σ):∃u,ej K f u bg H (fz i δ) β σ/\f_ B H u H:=by
 unfold fz;split
 .rename_i ds g
  obtain⟨v,h,a,k,j,l,m,o⟩:=b.tell i _ (getD_some g);exact b.letGo (·=a) (λc z=>z▸l) h λd _ e=>⟨a,k,j,⟨λz=>z (d a rfl),.inl m⟩,ba.tr e _ _ o⟩
 .rename_i ac g
  obtain⟨v,h,a,n,j,l,m,E,w⟩:=b.tell i _ (getD_some g);exact b.letGo (λc=>c=a\/c∈n) (λc z=>z.elim (·▸l) λz=>(w.all c z).1) h λd _ e=>⟨a,_,j,⟨λz=>z (d a (.inl rfl)),.inl m⟩,bj.den e w λr y _ z=>z (d r (.inr y))⟩
 .rename_i b0 q t g
  obtain⟨v,h,a,j,l,p,k,m,o,A,C⟩:=b.tell i _ (getD_some g);exact b.letGo (·=a) (λc z=>z▸l) h λd _ e=>by
   show bw _ _ _ (.dct b0 q t) _;unfold bw;exact⟨a,p,k,j,⟨λz=>z (d a rfl),m⟩,o,λx D=>(A x D).tr e,ba.tr e _ _ C⟩
 .exact⟨B,b,f_.refl B H⟩
noncomputable def fzG(i:Nat)(g:G):G:=λδ β=>g (fz i δ) β
theorem K3(i:Nat)(h:PSs X f (tG X.K X.H₀ g E)):PSs X f (tG X.K X.H₀ (fzG i g) E):=h.imp λD σ H j=>by
 obtain⟨B,bg,δ,β,o,aa,ok,e,q⟩:=j;obtain⟨l,d,s⟩:=ok.freeze i;exact⟨l,bg,fz i δ,β,o,aa,d,e,ib.pre s q⟩
noncomputable def lr(n:Nat)(ds:a0b):Ds:=ds.map (λd=>My (Sl.sh d))++Pr (n-ds.length) OI
def d7(n:Nat)(g:G):a0b->M D:=λa β=>match g (lr n a) β with
 |some (.rt d,aa)=>My (.ok d,aa)
 |some (.nx _,aa)=>My (.ok .non,aa)
 |some (.ex C _,aa)=>My (.error C,aa)
 |_=>OI
theorem oh{F:Fx}{H:Hp}{β:Bg}{N:a0i}(fr:Fr F H β)(n:ba K F H I J):∃B,ej K H B F.bg H (lr N.length I) β (fq N J)/\(∀a,F.A a->B a=My 0\/B a=My 1)/\(∀a,B a=My 1->∃b l,F.bg=My (b,l)/\(a=b\/a=l))/\(∀a,B a≠OI->F.A a):=by
 classical
 refine⟨λa=>if F.A a then(if ∃b l,F.bg=My (b,l)/\(a=b\/a=l)then My 1 else My 0)else OI,⟨⟨λa f=>fr.occ a ?_,λb l e=>?_,fr.bag⟩,λb l e=>?_,?_,λ_ h=>h,λc k o=>(by
  have g:(if F.A c then(if ∃b l,F.bg=My (b,l)/\(c=b\/c=l)then My 1 else My 0)else OI)=My (k+2):=o;split at g
  .split at g<;>cases g
  .cases g),λc k o=>(by
  have g:(if F.A c then(if ∃b l,F.bg=My (b,l)/\(c=b\/c=l)then My 1 else My 0)else OI)=My (k+2):=o;split at g
  .split at g<;>cases g
  .cases g),λi s e=>?_⟩,λa f=>?_,λa f=>?_,λa f=>?_⟩
 .have j:(if F.A a then(if ∃b l,F.bg=My (b,l)/\(a=b\/a=l)then My 1 else My 0)else OI)≠(OI:a0I):=f
  split at j
  .assumption
  .exact Pp rfl j
 .obtain⟨a1,a2,a3⟩:=fr.bgA b l e
  refine⟨?_,?_,a3⟩
  .show(if F.A b then(if ∃m l,F.bg=My (m,l)/\(b=m\/b=l)then My 1 else My 0)else OI)≠(OI:a0I)
   rw[OZ a1];split<;>simp
  .show(if F.A l then(if ∃m t,F.bg=My (m,t)/\(l=m\/l=t)then My 1 else My 0)else OI)≠(OI:a0I)
   rw[OZ a2];split<;>simp
 .obtain⟨a1,a2,a3⟩:=fr.bgA b l e
  exact⟨by rw[OZ a1,OZ ⟨b,l,e,.inl rfl⟩],by rw[OZ a2,OZ ⟨b,l,e,.inr rfl⟩]⟩
 .unfold lr fq
  rw[O1,O1,OH,OH,Rz,Rz,n.length]
 .unfold lr at e
  unfold fq;rw[SZ,OH]at e;rw[SZ,OH,<-n.length];by_cases q:i<I.length
  .rw[OZ q,OS]at e
   rw[OZ q,OS];cases z:I[i]? with
   |none=>rw[z]at e;cases e
   |some d=>
    rw[z]at e;cases e;obtain⟨v,w,y⟩:=n.get z;refine⟨v,by rw[w];rfl,?_⟩;have r:Tr F H (d4 (λa=>if F.A a then(if ∃b l,F.bg=My (b,l)/\(a=b\/a=l)then My 1 else My 0)else OI) F.bg) H:=by
     refine⟨λa f _ C=>?_,λ_ _ _ h=>h,rfl⟩;have u:(if F.A a then(if ∃b l,F.bg=My (b,l)/\(a=b\/a=l)then My 1 else My 0)else OI)≠(OI:a0I):=C;rw[OY f]at u;exact u rfl
    exact bw.tr r _ _ y
  .rw[OY q,Sx]at e
   split at e<;>cases e
 .simp only[OZ f]
  split
  .exact .inr rfl
  .exact .inl rfl
 .simp only at f
  split at f
  .split at f
   .assumption
   .cases f
  .cases f
 .simp only at f
  split at f
  .assumption
  .exact Pp rfl f
variable{P:PM}{w:P0}{p:a0j}{c:Qt}
theorem Kg{x i:PZ}{st:QH}{f:OM}{fd:Py}{N ps:a0i}{k:Nat}(F:c_ K x i st f fd)(S:br N ps (ah st))
  (I:∀(j:OP) (A:P7) (D:a0B) (s:OV) (H:Hp) (E:XK),dt k (A.deeper (T8 i (ah st) s.heap.objs.size f j))->
   PSs (eW (fx P w) P w K p c N i (ah st) f j A D s H E) (cf st) (tG K H g (λ_=>E))):ee P w K p c (fx P w) (k+1) f fd ps (y2 K ps.length (d7 N.length g)):=by
 refine F.okE S (λX H Q E h=>h.1) λj A D s H X Q E W h=>?_;obtain⟨hl,u,M,β,fr,hd,r,aa,e,h⟩:=h;refine⟨_,I j A D s H E W,?_⟩;obtain⟨B,ok,T,Y,hn⟩:=oh (N:=N) fr hd;have J:∀{y:Ow} {H':Hp},f_ B H y H'->Fr (d4 y u.bg) H' aa->To u H H' aa/\Tr (d4 y u.bg) H' u H':=λ{y H'} s m=>by
  have V:∀a,u.A a->y a≠OI:=λa G=>by
   rw[s.tg a (T a G)];rcases T a G with z|z<;>rw[z]<;>simp
  refine⟨⟨λa o G n=>s.kp a o G ?_,λa G=>m.occ a (V a G),λb l e=>fr.bgA b l e,m.bag⟩,λa G _ z=>G (V a z),λ_ _ _ h=>h,rfl⟩;cases q:B a with
  |none=>exact .inl rfl
  |some t=>
   have:=T a (hn a (by rw[q];simp));rcases this with z|z
   .rw[q]at z;exact .inr z
   .obtain⟨b,l,e,w⟩:=Y a z
    obtain⟨Z,n2⟩:=n b l e;rcases w with w|w
    .exact Pp w Z
    .exact Pp w n2
 unfold d7 at e;split at e
 .rename_i d β1 R
  cases e;refine⟨B,u.bg,lr N.length M,β,.rt d,aa,ok,R,λv y H' s m hv=>?_⟩;obtain⟨t1,t2⟩:=J s m;exact h v H' t1 (bw.tr t2 _ _ hv)
 .rename_i L β1 R
  cases e;refine⟨B,u.bg,lr N.length M,β,.nx L,aa,ok,R,λU y H' s O=>?_⟩;obtain⟨t1,t2⟩:=J s O.fr;exact h _ H' t1 rfl
 .rename_i C L β1 R
  cases e;refine⟨B,u.bg,lr N.length M,β,.ex C L,aa,ok,R,λU y H' s O=>?_⟩;obtain⟨t1,t2⟩:=J s O.fr;exact h H' t1
 .cases e
variable{b:PM}{A:P7}
theorem OB(u:A.handled=OI)(c t:OM)(B:t≠c)(d:a0H):Xq b w A c [c,t] d.size (λi v=>d[i]?=My v) (λi h=>h.IsTupleIter c t i/\h.IsTuple t d) where
 live:=λ_ _ st=>let ⟨o,e,_⟩:=st.1;⟨o,e⟩
 frame:=λ_ _ _ st k=>⟨st.1.at λo e=>k c (by simp) o e,by
  obtain⟨o,e,r⟩:=st.2;exact⟨o,k t (by simp) o e,r⟩⟩
 item:=λi s Q E C st I=>by
  obtain⟨o,j,n,g⟩:=id st.1;obtain⟨y,l,_,p,q⟩:=st.2;have f:d[i]?=My d[i]:=by simp[C]
  unfold Rh;refine OG (wpAny_callSpecial?_slot (name:=Q5 "__next__") st.1.typeIs Tf (P3 Tf st.1.typeIs Xr ?_ (Xe _)));show O8 _ _ (Y9 (.ref c) 0>>=_) _ _ _;refine OG (QT j g (x:= .ref t) rfl ?_);show O8 _ _ (if(Pa t==P4)=OL then _ else _) _ _ _;rw[OY (show ¬((Pa t==P4)=OL)from O4)];show O8 _ _ (Y9 (.ref c) 1>>=_) _ _ _;refine OG (QT j g (x:= .int i 0) rfl ?_);show O8 _ _ (seqItems? (.ref t)>>=_) _ _ _;refine OG (Rk l q ?_);simp only[Qv,f];refine OG (SN j g (by simp) (OJ ⟨d[i],rfl,OJ (I _ _ s.toks f ⟨?_,?_⟩ (QK ..))⟩))
  .exact⟨_,R8 _ j (Uh (Q3 g _)),(Vp ..).trans n,by rw[Q3 g];simp[SW]⟩
  .exact⟨y,(QK ..).extBut _ _ B l,by assumption,p,q⟩
 done:=λs Q E st J=>by
  obtain⟨o,j,n,g⟩:=id st.1;obtain⟨y,l,_,p,q⟩:=st.2;have f:d[d.size]?=OI:=by simp
  unfold Rh;refine OG (wpAny_callSpecial?_slot (name:=Q5 "__next__") st.1.typeIs Tf (P3 Tf st.1.typeIs Xr ?_ (Xe _)));show O8 _ _ (Y9 (.ref c) 0>>=_) _ _ _;refine OG (QT j g (x:= .ref t) rfl ?_);show O8 _ _ (if(Pa t==P4)=OL then _ else _) _ _ _;rw[OY (show ¬((Pa t==P4)=OL)from O4)];show O8 _ _ (Y9 (.ref c) 1>>=_) _ _ _;refine OG (QT j g (x:= .int d.size 0) rfl ?_);show O8 _ _ (seqItems? (.ref t)>>=_) _ _ _;refine OG (Rk l q ?_);simp only[Qv,f];refine OG (Ro (OG (SN j g (by simp) ?_)));show O8 _ _ (Xn (.type "StopIteration") []>>=_) _ _ _;refine OG ?_;simp only[Xn,newTuple];refine OG (Qi ?_ (by size_fits));refine OG (m:=SM _ _) (SU (a:=P4) (by first|rfl|(simp only[SM];rfl)) ?_);refine Qi ?_ (by size_fits)
  simp only[Ye];refine OG (WB ?_)
  first|rw[show A.in1.handled=OI from u]|rw[u];skip
  refine OG (OJ (Xx ?_));exact J _ _ (((QK ..).extBut.push _).push _) ⟨_,O7 _ rfl,rfl⟩
structure Ap (z TI TO i1 i2:OM) (f1 f2:a0q):Prop where
 a1:TI≠z
 a2:TO≠z
 a3:i1≠z
 a4:i2≠z
 a5:TI≠TO
 a6:TI≠i1
 a7:TI≠i2
 a8:TO≠i1
 a9:TO≠i2
 b1:i1≠i2
 c1:z∉f1
 c2:TO∉f1
 c3:i2∉f1
 d1:z∉f2
 d2:TO∉f2
 d3:i1∉f2
 m1:i1∈f1
 m2:i2∈f2
end
section
variable{prog:PM}{w:P0}{A:P7}{E:a0d}{s:OV}
theorem bY{s:OM}{f:a0q}{h w:Qt}(A:PQ s h w)(n:s∉f):∀b∈f,∀o,h.get? b=My o->w.get? b=My o:=λb a o e=>A.extBut b o (λq=>n (q▸a)) e
theorem yc{z TI TO r i2:OM}{f1 f2:a0q}{t u k:Nat}{P1 P2:Nat->OP->Prop}{U W:Nat->Qt->Prop}{a b:OP}{Q:a0d}(J:Xq prog w A r f1 t P1 U)(L:Xq prog w A i2 f2 u P2 W)(d:Ap z TI TO r i2 f1 f2)
  (O:VA s.heap z TI TO .none) (eI:SK s.heap TI (.ref r) (.ref i2)) (eO:SK s.heap TO a b) (s1:U k s.heap) (s2:W k s.heap) (k1:k<t) (k2:k<u)
  (hQ:∀D tk x y,P1 k x->P2 k y->VA D z TI TO (SW s.heap.objs.size)->SK D TO x y->U (k+1) D->W (k+1) D->SK D s.heap.objs.size x y->D.objs.size=s.heap.objs.size+1->(∀c o,c≠z->c≠TO->c≠r->c≠i2->s.heap.get? c=My o->D.get? c=My o)->Q (.ref s.heap.objs.size) {s with heap:=D,toks:=tk}):
  O8 (Px prog w) A (Builtin.«zip.__next__» ⟨[.ref z],[]⟩) (λY s'=>∃v,Y= .done (.ret v)/\Q v s') E s:=by
 obtain⟨Z,gg,dd,af,os⟩:=s;show O8 _ _ (Y9 (.ref z) 2>>=_) _ _ _;refine OG (QT O rfl (x:= .bool OQ) rfl ?_);show O8 _ _ (Y9 (.ref z) 3>>=_) _ _ _;refine OG (QT O rfl (x:= .ref TI) rfl ?_);refine OG (Rk eI rfl ?_);show O8 _ _ (RB (.ref z)>>=_) _ _ _;refine OG ?_;unfold RB;refine OG (QT O rfl (x:= .none) rfl (OJ ?_));simp only[Qq];refine OG (Ro ?_);refine OG (QT O rfl (x:= .ref TO) rfl ?_);refine OG (QU O (by simp) λG B g=>?_)
 replace B:VA G z TI TO .ellipsis:=B
 replace g:PQ z Z G:=g
 refine OG ?_;simp only[Wv,List.zipIdx_nil,SR,SY];refine OG (OG (WC ?_));show O8 _ _ (Rh (.ref r)>>=_) _ _ _;refine OG (J.item k _ _ _ k1 (J.frame _ _ _ s1 (bY g d.c1)) λx K ag px M h=>OJ ?_)
 replace h:PQ r G K:=h
 have P:SK K TO a b:=h.extBut _ _ d.a8 (g.extBut _ _ d.a2 eO);refine OG (Rk P rfl ?_);refine OG (Wj P λS C i=>?_)
 replace C:SK S TO x b:=C
 replace i:PQ TO K S:=i
 refine OG (Wh (OJ ?_));refine OG (OG (WC ?_));show O8 _ _ (Rh (.ref i2)>>=_) _ _ _;refine OG (L.item k _ _ _ k2 (L.frame _ _ _ (L.frame _ _ _ (L.frame _ _ _ s2 (bY g d.d1)) (bY h d.d3)) (bY i d.d2)) λy V ah py aa j=>OJ ?_)
 replace j:PQ i2 S V:=j
 have R:SK V TO x b:=j.extBut _ _ d.a9 C;refine OG (Rk R rfl ?_);refine OG (Wj R λf m l=>?_)
 replace m:SK f TO x y:=m
 replace l:PQ TO V f:=l
 refine OG (Wh (OJ (OJ ?_)));refine OG (Rk m rfl ?_);refine OG (Yi ?_);have zs:f.objs.size=Z.objs.size:=by rw[l.1,j.1,i.1,h.1,g.1]
 have T:VA f z TI TO .ellipsis:=l.extBut _ _ d.a2.symm (j.extBut _ _ d.a4.symm (i.extBut _ _ d.a2.symm (h.extBut _ _ d.a3.symm B)));have ab:∀c o,c≠z->c≠TO->c≠r->c≠i2->Z.get? c=My o->f.get? c=My o:=λc o t u n3 n4 e=>l.extBut _ _ u (j.extBut _ _ n4 (i.extBut _ _ u (h.extBut _ _ n3 (g.extBut _ _ t e))));have ac:U (k+1) f:=J.frame _ _ _ (J.frame _ _ _ (J.frame _ _ _ M (bY i d.c2)) (bY j d.c3)) (bY l d.c2);have ad:W (k+1) f:=L.frame _ _ _ aa (bY l d.d2);have zl:z<f.objs.size:=Pq T;show O8 _ _ (UV (.ref z) (.ref f.objs.size)>>=_) _ _ _;refine OG ?_;unfold UV;have ae:VA (f.push {cls:= .type "tuple",data:= .seq #[x,y]}) z TI TO .ellipsis:=OK _ T;refine OG (QU ae (by simp) λg7 F H=>?_)
 replace F:VA g7 z TI TO (SW f.objs.size):=F
 refine QU F (by simp) λN p I=>?_
 replace p:VA N z TI TO (SW f.objs.size):=p
 have X:∀c o,c≠z->f.get? c=My o->N.get? c=My o:=λc o n e=>I.extBut _ _ n (H.extBut _ _ n (OK _ e));have eT:SK N f.objs.size x y:=I.extBut _ _ (RK zl) (H.extBut _ _ (RK zl) (O7 _ rfl));have z8:N.objs.size=f.objs.size+1:=by rw[I.1,H.1,Q1]
 rw[zs]at p eT z8;refine OJ ⟨_,rfl,?_⟩;show Q (.ref f.objs.size) ⟨N,gg,dd,_,os⟩;rw[zs];exact hQ N _ x y px py p (X _ _ d.a2 m) (J.frame _ _ _ ac λb hb o e=>X b o (λq=>d.c1 (q▸hb)) e) (L.frame _ _ _ ad λb hb o e=>X b o (λq=>d.d1 (q▸hb)) e) eT z8 λc o t u n3 n4 e=>X c o t (ab c o t u n3 n4 e)
theorem BN{z TI TO n i2:OM}{f1 f2:a0q}(F:Xq prog w A n f1 m P1 S1)(H:Xq prog w A i2 f2 R P2 S2)(i:Ap z TI TO n i2 f1 f2)
  (t:VA s.heap z TI TO .none) (X:SK s.heap TI (.ref n) (.ref i2)) (Y:SK s.heap TO a b) (T:S1 k s.heap) (Z:S2 k s.heap) (L:k=m\/(k<m/\k=R))
  (U:∀D e G,(∀c o,c≠z->c≠TO->c≠n->c≠i2->s.heap.get? c=My o->D.get? c=My o)->(∃o,D.get? e=My o/\o.cls= .type "StopIteration")->E (.ref e) {s with heap:=D,toks:=G}):
  O8 (Px prog w) A (Builtin.«zip.__next__» ⟨[.ref z],[]⟩) Q E s:=by
 obtain⟨K,gg,dd,M,os⟩:=s;show O8 _ _ (Y9 (.ref z) 2>>=_) _ _ _;refine OG (QT t rfl (x:= .bool OQ) rfl ?_);show O8 _ _ (Y9 (.ref z) 3>>=_) _ _ _;refine OG (QT t rfl (x:= .ref TI) rfl ?_);refine OG (Rk X rfl ?_);show O8 _ _ (RB (.ref z)>>=_) _ _ _;refine OG ?_;unfold RB;refine OG (QT t rfl (x:= .none) rfl (OJ ?_));simp only[Qq];refine OG (Ro ?_);refine OG (QT t rfl (x:= .ref TO) rfl ?_);refine OG (QU t (by simp) λI j f=>?_)
 replace j:VA I z TI TO .ellipsis:=j
 replace f:PQ z K I:=f
 refine OG ?_;simp only[Wv,List.zipIdx_nil,SR,SY];refine OG (OG (WC ?_));show O8 _ _ (Rh (.ref n)>>=_) _ _ _;rcases L with rfl|⟨L,rfl⟩
 .refine OG (F.done _ _ _ (F.frame _ _ _ T (bY f i.c1)) λr e d N=>?_)
  replace d:VS n I r:=d
  obtain⟨O,h,u⟩:=N;have v:VA r z TI TO .ellipsis:=d _ _ i.a3.symm j;have p:e≠z:=λq=>by subst q;rw[v]at h;cases h;simp at u
  exact QU v (by simp) λJ _ g=>U J e _ (λc o m _ P _ q=>g.extBut _ _ m (d _ _ P (f.extBut _ _ m q))) ⟨O,g.extBut _ _ p h,u⟩
 .refine OG (F.item k _ _ _ L (F.frame _ _ _ T (bY f i.c1)) λx r S px V d=>OJ ?_)
  replace d:PQ n I r:=d
  have y:SK r TO a b:=d.extBut _ _ i.a8 (f.extBut _ _ i.a2 Y);refine OG (Rk y rfl ?_);refine OG (Wj y λJ aa g=>?_)
  replace g:PQ TO r J:=g
  refine OG (Wh (OJ ?_));refine OG (OG (WC ?_));show O8 _ _ (Rh (.ref i2)>>=_) _ _ _;refine OG (H.done _ _ _ (H.frame _ _ _ (H.frame _ _ _ (H.frame _ _ _ Z (bY f i.d1)) (bY d i.d3)) (bY g i.d2)) λW e l N=>?_)
  replace l:VS i2 J W:=l
  obtain⟨O,h,u⟩:=N;have B:VA W z TI TO .ellipsis:=l _ _ i.a4.symm (g.extBut _ _ i.a2.symm (d.extBut _ _ i.a3.symm j));have p:e≠z:=λq=>by subst q;rw[B]at h;cases h;simp at u
  exact QU B (by simp) λg5 _ C=>U g5 e _ (λc o m R P n4 q=>C.extBut _ _ m (l _ _ n4 (g.extBut _ _ R (d.extBut _ _ P (f.extBut _ _ m q))))) ⟨O,C.extBut _ _ p h,u⟩
theorem yb{z TI TO e i2:OM}{f1 f2:a0q}(h:∀d:P7,d.handled=A.handled->Xq prog w d e f1 I P1 S1)(i:∀d:P7,d.handled=A.handled->Xq prog w d i2 f2 n2 P2 S2)(j:Ap z TI TO e i2 f1 f2)
  (g:VA s.heap z TI TO .none) (l:SK s.heap TI (.ref e) (.ref i2)) (m:SK s.heap TO a b) (n:S1 k s.heap) (p:S2 k s.heap) (q:k<I) (r:k<n2)
  (t:∀D f x y,P1 k x->P2 k y->VA D z TI TO (SW s.heap.objs.size)->SK D TO x y->S1 (k+1) D->S2 (k+1) D->SK D s.heap.objs.size x y->D.objs.size=s.heap.objs.size+1->(∀c o,c≠z->c≠TO->c≠e->c≠i2->s.heap.get? c=My o->D.get? c=My o)->Q (My (.ref s.heap.objs.size)) {s with heap:=D,toks:=f}):
  O8 (Px prog w) A (S7 (.ref z)) Q E s:=by
 have G:s.TypeIs (.ref z) "zip":=⟨_,g,rfl⟩;unfold S7;exact OG (SD (wpAny_callSpecial?_slot (name:=Q5 "__next__") G VR (P3 VR G F.entry_zip_next (yc (h _ rfl) (i _ rfl) j g l m n p q r λD f x y K M S V u v B C H=>OJ (t D f x y K M S V u v B C H)) (F.args_zip_next_1 _))))
theorem BM{z TI TO f i2:OM}{f1 f2:a0q}(i:∀d:P7,d.handled=A.handled->Xq prog w d f f1 x P1 S1)(j:∀d:P7,d.handled=A.handled->Xq prog w d i2 f2 n2 P2 S2)(l:Ap z TI TO f i2 f1 f2)
  (g:VA s.heap z TI TO .none) (m:SK s.heap TI (.ref f) (.ref i2)) (n:SK s.heap TO a b) (p:S1 k s.heap) (q:S2 k s.heap) (r:k=x\/(k<x/\k=n2))
  (t:∀D h,(∀c o,c≠z->c≠TO->c≠f->c≠i2->s.heap.get? c=My o->D.get? c=My o)->Q OI {s with heap:=D,toks:=h}):O8 (Px prog w) A (S7 (.ref z)) Q E s:=by
 have G:s.TypeIs (.ref z) "zip":=⟨_,g,rfl⟩;unfold S7;refine OG (SD (wpAny_callSpecial?_slot (name:=Q5 "__next__") G VR (P3 VR G F.entry_zip_next (BN (i _ rfl) (j _ rfl) l g m n p q r λD e h u v=>?_) (F.args_zip_next_1 _))));obtain⟨o,y,B⟩:=v;refine OG (Rq (T:="StopIteration") (b:=OL) ⟨o,y,B⟩ Wf ?_);exact OJ (t _ _ u)
def up(b:Bool)(h:Qt)(a:OM)(s:a0H):Prop:=if b=OL then h.IsList a s else h.IsTuple a s
noncomputable def IS(b:Bool):String:=if b=OL then "list_iterator"else "tuple_iterator"
noncomputable abbrev o3(b:Bool)(a:OM):PF:={cls:= .type (IS b),data:= .fields #[.ref a,.int 0 0]}
def gc(b:Bool)(h:Qt)(s a:OM)(k:Nat):Prop:=if b=OL then h.IsListIter s a k else h.IsTupleIter s a k
theorem up.keep{b:Bool}{h s:Qt}(x:up b h a c)(k:∀o,h.get? a=My o->s.get? a=My o):up b s a c:=by
 unfold up at x⊢;split at x
 .rename_i q;rw[OZ q];exact x.at λo e=>k o e
 .rename_i q;rw[OY q]
  obtain⟨o,e,r⟩:=x;exact⟨o,k o e,r⟩
theorem oJ{b:Bool}(x:up b s.heap a c)(h:Q (.ref s.heap.objs.size) {s with heap:=s.heap.push (o3 b a)}):O8 (Px prog w) A (VZ (.ref a)) Q E s:=by
 cases b with
 |true=>exact VF (show s.heap.IsList a c from x) h
 |false=>exact WI (show s.heap.IsTuple a c from x) h
theorem rZ(b:Bool)(c:A.handled=OI)(D a:OM)(E:a≠D)(s:a0H):Xq prog w A D [D,a] s.size (λi v=>s[i]?=My v) (λi h=>gc b h D a i/\up b h a s):=by
 cases b with
 |true=>exact Yz c D a E s
 |false=>exact OB c D a E s
abbrev Z0(b1:Bool)(h:Qt)(a:OM):Qt:=h.push (o3 b1 a)
abbrev ZZ(b1 b2:Bool)(h:Qt)(a b:OM):Qt:=(Z0 b1 h a).push (o3 b2 b)
abbrev ZY(b1 b2:Bool)(h:Qt)(a b:OM):Qt:=(ZZ b1 b2 h a b).push {cls:= .type "tuple",data:= .seq #[.ref h.objs.size,.ref (Z0 b1 h a).objs.size]}
abbrev ZX(b1 b2:Bool)(h:Qt)(a b:OM):Qt:=(ZY b1 b2 h a b).push {cls:= .type "tuple",data:= .seq #[.none,.none]}
abbrev ML(b1 b2:Bool)(h:Qt)(a b:OM):Qt:=(ZX b1 b2 h a b).push {cls:= .type "zip",data:= .fields #[.none,.bool OQ,.bool OQ,.ref (ZZ b1 b2 h a b).objs.size,.ref (ZY b1 b2 h a b).objs.size]}
theorem xm(b1 b2:Bool)(a b:OM)(D E:a0H):
  Meets (Builtin.«zip.__new__» ⟨[.type "zip",.ref a,.ref b],[]⟩) (λ_ R s=>up b1 s.heap a D/\up b2 s.heap b E/\R (.ok (.ret (.ref (ZX b1 b2 s.heap a b).objs.size))) {s with heap:=ML b1 b2 s.heap a b}):=
 .of_wp λprog w A R s h=>by
  obtain⟨c,g,d,f,G⟩:=s;obtain⟨j,k,q⟩:=h;have i:=sub_zip;have l:up b1 (Shared.heap ⟨c,g,d,f,G⟩) a D:=j;have m:up b2 (Shared.heap ⟨c.push (o3 b1 a),g,d,f,G⟩) b E:=k.keep λo e=>OK _ e
  wp_walk using oJ l,oJ m
  exact⟨_,rfl,q⟩
theorem AX{b1 b2:Bool}(q:up b1 s.heap v z)(r:up b2 s.heap y B)
  (h:∀D,VA D (s.heap.objs.size+4) (s.heap.objs.size+2) (s.heap.objs.size+3) .none->SK D (s.heap.objs.size+2) (.ref s.heap.objs.size) (.ref (s.heap.objs.size+1))->SK D (s.heap.objs.size+3) .none .none->gc b1 D s.heap.objs.size v 0->gc b2 D (s.heap.objs.size+1) y 0->D.objs.size=s.heap.objs.size+5->(∀c o,s.heap.get? c=My o->D.get? c=My o)->Q (.ref (s.heap.objs.size+4)) {s with heap:=D}):
  O8 (Px prog w) A (Wq (.type "zip") [.ref v,.ref y]) Q E s:=by
 refine callType_new F.called_zip (by decide) (F.typeCall_zip_2 _ _) (F.newCall_zip_2 _ _) (λG=>F.args_object_init_3 G _ _) F.entry_zip_new (xm b1 b2 v y z B) ⟨q,r,?_⟩;have f:(Z0 b1 s.heap v).objs.size=s.heap.objs.size+1:=Q1 ..;have g:(ZZ b1 b2 s.heap v y).objs.size=s.heap.objs.size+2:=by rw[Q1,f]
 have i:(ZY b1 b2 s.heap v y).objs.size=s.heap.objs.size+3:=by rw[Q1,g]
 have j:(ZX b1 b2 s.heap v y).objs.size=s.heap.objs.size+4:=by rw[Q1,i]
 have t:(ML b1 b2 s.heap v y).objs.size=s.heap.objs.size+5:=by rw[Q1,j]
 have k:(ML b1 b2 s.heap v y).get? (ZX b1 b2 s.heap v y).objs.size=My _:=O7 _ rfl;have l:(ML b1 b2 s.heap v y).get? (ZY b1 b2 s.heap v y).objs.size=My _:=OK _ (O7 _ rfl);have m:(ML b1 b2 s.heap v y).get? (ZZ b1 b2 s.heap v y).objs.size=My _:=OK _ (OK _ (O7 _ rfl));have n:(ML b1 b2 s.heap v y).get? (Z0 b1 s.heap v).objs.size=My _:=OK _ (OK _ (OK _ (O7 _ rfl)));have u:(ML b1 b2 s.heap v y).get? s.heap.objs.size=My _:=OK _ (OK _ (OK _ (OK _ (O7 _ rfl))));show _/\_;rw[g,i,j]at k;rw[f,g]at m;rw[i]at l;rw[f]at n;rw[j];have d:∀(b:Bool) (D:Qt) (p a:OM),D.get? p=My (o3 b a)->gc b D p a 0:=λb D p a e=>by
  cases b with
  |true=>exact⟨_,e,rfl,rfl⟩
  |false=>exact⟨_,e,rfl,rfl⟩
 exact⟨⟨_,k,rfl⟩,h _ k m l (d _ _ _ _ u) (d _ _ _ _ n) t λc o x=>OK _ (OK _ (OK _ (OK _ (OK _ x))))⟩
def ry(b:Bool)(K:Pl)(H:Hp)(a:OM)(s:a0k):Prop:=if b=OL then en K H a s else g_ K H a s
noncomputable def Itz(b1 b2:Bool)(K:Pl)(a b:OM):It:=
 ⟨λi H=>∃s w x y,ry b1 K H a s/\ry b2 K H b w/\s[i]?=My x/\w[i]?=My y,
  λi H v c=>∃p x y,H p=OI/\v= .ref p/\c=upd H p (.tup [x,y])/\∀s w,ry b1 K H a s->ry b2 K H b w->s[i]?=My x/\w[i]?=My y,
  λi H=>∃s w,ry b1 K H a s/\ry b2 K H b w/\(s.length=i\/(i<s.length/\w.length=i))⟩
variable{X:Cx}{A:a0c}{σ:St}{H:Hp}
theorem b_.src{b:Bool}(I:b_ X A σ H s)(h:ry b X.K H a c):∃w:a0g,aw c w/\up b s.heap a w.toArray:=by
 cases b with
 |true=>
  obtain⟨w,r,p,_⟩:=I.list (show en X.K H a c from h);exact⟨w,r,p.isList⟩
 |false=>
  obtain⟨w,r,p,_⟩:=I.tuple (show g_ X.K H a c from h);exact⟨w,r,p⟩
theorem b_.src_inj{b:Bool}(I:b_ X A σ H s)(h:ry b X.K H a c)(w:ry b X.K H a d):c=d:=by
 cases b with
 |true=>exact I.list_inj (show en X.K H a c from h) w
 |false=>exact I.tuple_inj (show g_ X.K H a c from h) w
theorem gc.get{b:Bool}{h:Qt}(x:gc b h f a k):∃o,h.get? f=My o/\o.cls= .type (IS b)/\∃s,o.data= .fields s:=by
 cases b with
 |true=>obtain⟨o,e,c,d⟩:=(show h.IsListIter f a k from x);exact⟨o,e,c,_,d⟩
 |false=>obtain⟨o,e,c,d⟩:=(show h.IsTupleIter f a k from x);exact⟨o,e,c,_,d⟩
theorem gc.keep{b:Bool}{h s:Qt}(x:gc b h c a k)(q:∀o,h.get? c=My o->s.get? c=My o):gc b s c a k:=by
 cases b with
 |true=>exact(show h.IsListIter c a k from x).at λo e=>q o e
 |false=>exact(show h.IsTupleIter c a k from x).at λo e=>q o e
theorem b_.turnNew{E:Qt}{t':Nat}{ch:a0q}{p:OM}{o:HO}(I:b_ X A σ H s)(a:∀b∈ch,fc X A H b)(k:∀b u,b∉ch->s.heap.get? b=My u->E.get? b=My u)(d:s.heap.objs.size<=p)(G:bJ X.prog X.w (upd H p o) E p o):b_ X A σ (upd H p o) {s with heap:=E,toks:=t'}:=by
 have D:H p=OI:=I.hok.fresh d;have K:∀b u,H b=My u->b∉ch:=λb u e z=>by rw[(a b z).1]at e;cases e
 refine I.call' (s':={s with heap:=E,toks:=t'}) (ch:=ch) rfl ⟨λb u e _ _ hc=>k b u hc e,λb u e _ _ hc=>⟨u.slots,k b u hc e⟩,λb u e z hc=>?_,λb u e hc=>⟨u,k b u hc e⟩,λb M e=>?_,λb u M e=>?_,λb M e=>⟨#[],?_⟩⟩ (λb u e=>?_) I.bare λb f=>?_
 .rw[bb (Qc (Pm (Pq e) d))];exact z
 .rw[bb (aB e D)];exact e
 .rw[bb (aB e D)];exact e
 .rw[bb (aB e D),e];simp
 .by_cases z:b=p
  .subst z;rw[ao]at e;cases e;exact G
  .rw[bb z]at e
   refine(I.hok b u e).stay (λc v hc q=>k c v ?_ q) (λc q=>by rw[bb (aB q D)];exact q) λc S q=>by rw[bb (aB q D)];exact q
   rcases hc with rfl|hc
   .exact K _ _ e
   .exact K _ _ hc
 .obtain⟨j,f1,f2,g,h,i⟩:=a b f
  exact⟨g,f1,h,i⟩
theorem b_.turnL{w:Qt}{ch:a0q}(I:b_ X A σ H s)(a:∀b∈ch,fc X A H b)(k:∀b u,b∉ch->s.heap.get? b=My u->w.get? b=My u):b_ X A σ H {s with heap:=w,toks:=t'}:=by
 have D:∀b u,H b=My u->b∉ch:=λb u e z=>by rw[(a b z).1]at e;cases e
 refine I.call' (s':={s with heap:=w,toks:=t'}) (ch:=ch) rfl ⟨λb u e _ _ hc=>k b u hc e,λb u e _ _ hc=>⟨u.slots,k b u hc e⟩,λb u e z hc=>z,λb u e hc=>⟨u,k b u hc e⟩,λb E e=>e,λb u E e=>e,λb E e=>⟨#[],by rw[e];simp⟩⟩ (λb u e=>?_) I.bare λb d=>?_
 .refine(I.hok b u e).stay (λc v hc q=>k c v ?_ q) (λc q=>q) λc G q=>q
  rcases hc with rfl|hc
  .exact D _ _ e
  .exact D _ _ hc
 .obtain⟨i,f1,f2,f,g,h⟩:=a b d
  exact⟨f,f1,g,h⟩
theorem b_.src_ne{b:Bool}(I:b_ X A σ H s)(h:ry b X.K H a l)(f:fc X A H c):a≠c:=by
 obtain⟨i,f1,f2,f3,j,k⟩:=f;have d:∀o,X.K.lookup a=My o->a≠c:=λo e z=>by
  have g:=I.ok.mod.kin a o e;subst z;rcases f3 with f3|f3
  .exact I.ok.noex a o g f3
  .exact Pp (Pm (Pq (I.ok.bs a o g).1) f3) (Qg _)
 have w:∀u,Rd H a u->a≠c:=λu r z=>by
  subst z;rcases r with r|⟨_,r⟩<;>rw[i]at r<;>cases r
 cases b with
 |true=>
  rcases(show en X.K H a l from h)with h|⟨o,_,_,e,_⟩
  .exact w _ h
  .exact d o e
 |false=>
  rcases(show g_ X.K H a l from h)with h|⟨o,_,_,e,_⟩
  .exact w _ h
  .exact d o e
theorem BU{w:P0}{K:Pl}{x1}(b1 b2:Bool)(B C z TI TO f i2:OM)(nd:[z,TI,TO,f,i2].Nodup):
  mX P w K (.Tuple elts x1 pos) (Itz b1 b2 K B C) [z,TI,TO,f,i2] z (λi h=>VA h z TI TO .none/\SK h TI (.ref f) (.ref i2)/\(∃a b,SK h TO a b)/\gc b1 h f B i/\gc b2 h i2 C i) where
 mem:=by simp
 obj:=λi h G b g=>by
  obtain⟨n,p,⟨a,Z,F⟩,J,L⟩:=G;simp only[O6,QD,Tz]at g;rcases g with rfl|rfl|rfl|rfl|rfl
  .exact⟨_,n,λv q=>by cases q⟩
  .exact⟨_,p,λv q=>by cases q⟩
  .exact⟨_,F,λv q=>by cases q⟩
  .obtain⟨o,e,_,fs,d⟩:=J.get
   exact⟨o,e,λv q=>by rw[d]at q;cases q⟩
  .obtain⟨o,e,_,fs,d⟩:=L.get
   exact⟨o,e,λv q=>by rw[d]at q;cases q⟩
 keep:=λi h D G k=>by
  obtain⟨n,p,⟨a,Z,F⟩,J,L⟩:=G;exact⟨k z (by simp) _ n,k TI (by simp) _ p,⟨a,Z,k TO (by simp) _ F⟩,J.keep λo e=>k f (by simp) o e,L.keep λo e=>k i2 (by simp) o e⟩
 item:=by
  intro X hP hw hK m i A s σ H E I N G hg;subst hP hw hK;obtain⟨xs,ys,x,y,S,V,hx,hy⟩:=hg;obtain⟨n,p,⟨a,Z,F⟩,J,L⟩:=G;obtain⟨j,r1,p1⟩:=b_.src I S;obtain⟨l,r2,p2⟩:=b_.src I V;have hd:=I.ok.hd m;simp only[Qn,O6,QD,Tz,Zr]at nd;obtain⟨⟨U,z2,R,T⟩,⟨t1,t2,t3⟩,⟨W,o2⟩,O,_⟩:=nd;have r:∀c∈[z,TI,TO,f,i2],B≠c:=λc m=>b_.src_ne I S (N c m);have t:∀c∈[z,TI,TO,f,i2],C≠c:=λc m=>b_.src_ne I V (N c m);have ap:Ap z TI TO f i2 [f,B] [i2,C]:=⟨Ne.symm U,Ne.symm z2,Ne.symm R,Ne.symm T,t1,t2,t3,W,o2,O,by simp[R,(r z (by simp)).symm],by simp[W,(r TO (by simp)).symm],by simp[Ne.symm O,(r i2 (by simp)).symm],by simp[T,(t z (by simp)).symm],by simp[o2,(t TO (by simp)).symm],by simp[O,(t f (by simp)).symm],by simp,by simp⟩;have k1:i<j.toArray.size:=by
   rw[Pg,<-r1.length];exact(OT.mp hx).1
  have k2:i<l.toArray.size:=by
   rw[Pg,<-r2.length];exact(OT.mp hy).1
  refine yb (λA' D=>rZ b1 (D.trans hd) f B (r f (by simp)) j.toArray) (λA' D=>rZ b2 (D.trans hd) i2 C (t i2 (by simp)) l.toArray) ap n p F ⟨J,p1⟩ ⟨L,p2⟩ k1 k2 λD tk u v pu pv fz fO f1 f2 fT sz kp=>?_;refine⟨_,rfl,wpAny_letOwnedTupleGo_zip (s:={s with heap:=D,toks:=tk}) fz λQ Y M=>?_⟩
  replace M:PQ z D Q:=M
  have zT:s.heap.objs.size≠z:=RK (Pq n);obtain⟨u',hu,ru⟩:=r1.get hx;obtain⟨v',hv,rv⟩:=r2.get hy;have eu:u=u':=by
   have:j[i]?=My u:=by simpa using pu
   rw[this]at hu;exact PH hu
  have ev:v=v':=by
   have:l[i]?=My v:=by simpa using pv
   rw[this]at hv;exact PH hv
  subst eu ev;have kk:∀b o,b∉[z,TI,TO,f,i2]->s.heap.get? b=My o->Q.get? b=My o:=λb o g e=>by
   simp only[O6,QD,Tz,Zr]at g;exact M.extBut b o g.1 (kp b o g.1 g.2.2.1 g.2.2.2.1 g.2.2.2.2 e)
  have I2:b_ X A σ (upd H s.heap.objs.size (.tup [x,y])) {s with heap:=Q,toks:=tk}:=by
   refine b_.turnNew I N kk (OW _) ⟨by show 2<=Pk;decide,[u,v],.cons ru (.cons rv .nil),_,M.extBut _ _ zT fT,rfl,_,rfl⟩
  refine⟨.ref s.heap.objs.size,_,I2,rfl,⟨s.heap.objs.size,x,y,I.hok.fresh (OW _),rfl,rfl,λas bs h1 h2=>⟨by rw[b_.src_inj I h1 S];exact hx,by rw[b_.src_inj I h2 V];exact hy⟩⟩,⟨Y,?_,⟨u,v,?_⟩,?_,?_⟩,λb g=>?_⟩
  .exact M.extBut _ _ (Ne.symm U) (kp TI _ (Ne.symm U) t1 t2 t3 p)
  .exact M.extBut _ _ (Ne.symm z2) fO
  .exact f1.1.keep λo e=>M.extBut _ _ (Ne.symm R) e
  .exact f2.1.keep λo e=>M.extBut _ _ (Ne.symm T) e
  .rw[bb]
   .exact(N b g).1
   .intro q
    have ol:∃o,s.heap.get? b=My o:=by
     simp only[O6,QD,Tz]at g;rcases g with rfl|rfl|rfl|rfl|rfl
     .exact⟨_,n⟩
     .exact⟨_,p⟩
     .exact⟨_,F⟩
     .obtain⟨o,e,_⟩:=J.get;exact⟨o,e⟩
     .obtain⟨o,e,_⟩:=L.get;exact⟨o,e⟩
    obtain⟨o,e⟩:=ol;exact Pp (Pq e) (by rw[q];exact Qg _)
 done:=by
  intro X hP hw hK m i A s σ H E I N G hg;subst hP hw hK;obtain⟨xs,ys,S,V,hl⟩:=hg;obtain⟨n,p,⟨a,Z,F⟩,J,L⟩:=G;obtain⟨j,r1,p1⟩:=b_.src I S;obtain⟨l,r2,p2⟩:=b_.src I V;have hd:=I.ok.hd m;simp only[Qn,O6,QD,Tz,Zr]at nd;obtain⟨⟨U,z2,R,T⟩,⟨t1,t2,t3⟩,⟨W,o2⟩,O,_⟩:=nd;have r:∀c∈[z,TI,TO,f,i2],B≠c:=λc m=>b_.src_ne I S (N c m);have t:∀c∈[z,TI,TO,f,i2],C≠c:=λc m=>b_.src_ne I V (N c m);have ap:Ap z TI TO f i2 [f,B] [i2,C]:=⟨Ne.symm U,Ne.symm z2,Ne.symm R,Ne.symm T,t1,t2,t3,W,o2,O,by simp[R,(r z (by simp)).symm],by simp[W,(r TO (by simp)).symm],by simp[Ne.symm O,(r i2 (by simp)).symm],by simp[T,(t z (by simp)).symm],by simp[o2,(t TO (by simp)).symm],by simp[O,(t f (by simp)).symm],by simp,by simp⟩;have g1:j.toArray.size=xs.length:=by rw[Pg,<-r1.length]
  have g2:l.toArray.size=ys.length:=by rw[Pg,<-r2.length]
  refine BM (λA' D=>rZ b1 (D.trans hd) f B (r f (by simp)) j.toArray) (λA' D=>rZ b2 (D.trans hd) i2 C (t i2 (by simp)) l.toArray) ap n p F ⟨J,p1⟩ ⟨L,p2⟩ ?_ λD tk kp=>⟨rfl,b_.turnL I N λb o g e=>?_⟩
  .rw[g1,g2]
   rcases hl with hl|⟨h1,h2⟩
   .exact .inl hl.symm
   .exact .inr ⟨h1,h2.symm⟩
  .simp only[O6,QD,Tz,Zr]at g
   exact kp b o g.1 g.2.2.1 g.2.2.2.1 g.2.2.2.2 e
 self:=λ_ _ _ _ _ G h=>wpAny_pyIter_zip G.1 h
end
section
variable{X:Cx}{E:a0s}{K:Pl}
def iZp(K:Pl)(d:TA):TI:=λe H R=>d e H λD a=>∃b1 b2 b c E G,D=[.ref b,.ref c]/\ry b1 K a b E/\ry b2 K a c G/\R (Itz b1 b2 K b c) a
theorem Lk{W}(y:Gl X "zip")(G:X.mg "zip"=OI)(M:PA X [a,b] Y)(S:Pe [a,b] X.env=[(OQ,Qu a X.env),(OQ,Qu b X.env)]:=by rfl)(g:Pe [b] X.env=[(OQ,Qu b X.env)]:=by rfl):
  PI X (.Tuple z W Q) (.Call (.Name "zip" p) [a,b] [] x) (iZp X.K Y):=by
 intro f s n H R I h;refine Call_ (fi I y G Boot.«zip» (QB (d5 (M x f s n H _ I h) λZ d ⟨vs,o,i,V,D⟩=>?_) (by rw[S,g]) (by rw[g];rfl)));obtain⟨b1,b2,t,u,xs,ys,e,D,T,q⟩:=D;subst e;cases V with
 |cons r k=>
  cases k with
  |cons A k=>
   cases k;cases r;cases A;obtain⟨B,O,C⟩:=b_.src i D;obtain⟨F,P,p2⟩:=b_.src i T;refine AX C p2 λE v J L l m sz U=>?_;refine wpAny_pyIter_zip (s:={d with heap:=E}) v ?_;have N:b_ X f n o {d with heap:=E}:=i.kept (t':=d.toks) U;refine⟨_,[d.heap.objs.size+4,d.heap.objs.size+2,d.heap.objs.size+3,d.heap.objs.size,d.heap.objs.size+1],_,Itz b1 b2 X.K t u,o,rfl,N,BU b1 b2 t u (d.heap.objs.size+4) (d.heap.objs.size+2) (d.heap.objs.size+3) d.heap.objs.size (d.heap.objs.size+1) (by simp),⟨v,J,⟨_,_,L⟩,l,m⟩,λc w=>?_,q⟩;have j:d.heap.objs.size<=c:=by
    simp only[O6,QD,Tz]at w;rcases w with rfl|rfl|rfl|rfl|rfl
    .exact RH _ _
    .exact RH _ _
    .exact RH _ _
    .exact OW _
    .exact RH _ _
   exact i.fpOk j (i.hok.fresh j)
noncomputable def dz:a0b->a0b->a0b
 |x::xs,y::ys=> .tup [x,y]::dz xs ys
 |_,_=>[]
theorem su:∀(D E:a0b),(dz D E).length=SC D.length E.length
 |[],E=>by simp[dz]
 |x::D,[]=>by simp[dz]
 |x::D,y::E=>by
  show(dz D E).length+1=_;rw[su D E,Pb,Pb];lia
theorem sB:∀{E G:a0b} {i:Nat} {d:D},(dz E G)[i]?=My d->∃x y,E[i]?=My x/\G[i]?=My y/\d= .tup [x,y]
 |[],G,i,d,h=>by simp[dz]at h
 |x::E,[],i,d,h=>by simp[dz]at h
 |x::E,y::G,0,d,h=>by
  simp[dz]at h;exact⟨x,y,rfl,rfl,h.symm⟩
 |x::E,y::G,i+1,d,h=>by
  have K:(dz E G)[i]?=My d:=by simpa[dz]using h
  obtain⟨a,b,c,e,f⟩:=sB K;exact⟨a,b,by simpa using c,by simpa using e,f⟩
def BO:a0b->a0D
 |[a,b]=>(c9 a).bind λD=>(c9 b).map λE=>dz D E
 |_=>OI
theorem bw.sqS(h:bw K F H d v)(e:c9 d=My k):∃b a,v= .ref a/\∀f c,Tr F H f c->∃D,ry b K c a D/\ba K f c k D:=by
 cases d<;>first
  |(cases e;obtain⟨a,D,rfl,_⟩:=bw.sqL h;refine⟨OL,a,rfl,λf c t=>?_⟩;obtain⟨j,E,g,G,i⟩:=bw.sqL (bw.tr t _ _ h);cases g;exact⟨E,G,i⟩)
  |(cases e;obtain⟨a,D,rfl,_⟩:=bw.sqT h;refine⟨OQ,a,rfl,λf c t=>?_⟩;obtain⟨j,E,g,G,i⟩:=bw.sqT (bw.tr t _ _ h);cases g;exact⟨E,G,i⟩)
  |cases e
theorem Kb{b1 b2:Bool}(n:∀b a,Tr F H b a->∃D,ry b1 K a s D/\ba K b a J D)(o:∀b a,Tr F H b a->∃D,ry b2 K a L D/\ba K b a N D):s_ K (Itz b1 b2 K s L) F H (dz J N):=λb a S t fr i=>by
 obtain⟨D,c,G⟩:=n b a t;obtain⟨E,e,M⟩:=o b a t;refine⟨λd V=>?_,λq=>?_⟩
 .obtain⟨x,y,f,g,rfl⟩:=sB V
  obtain⟨u,h,X⟩:=G.get f;obtain⟨v,j,r⟩:=M.get g;refine⟨⟨D,E,u,v,c,e,h,j⟩,λz B w=>?_⟩;obtain⟨p,C,I,k,rfl,rfl,A⟩:=w;obtain⟨l,m⟩:=A D E c e;rw[h]at l;rw[j]at m;cases l;cases m;exact⟨bM.upd k,bw.newT fr k (ba.cons X (ba.cons r ba.nil))⟩
 .rw[su]at q
  have f:=G.length;have g:=M.length;refine⟨D,E,c,e,?_⟩;rw[<-f,<-g];lia
def xj(g:FL):FL:=cu BO g
theorem o8{T}(o:Gl X "zip")(M:X.mg "zip"=OI)(S:PA X [a,b] (hU X.K g E))(V:Pe [a,b] X.env=[(OQ,Qu a X.env),(OQ,Qu b X.env)]:=by rfl)(i:Pe [b] X.env=[(OQ,Qu b X.env)]:=by rfl):
  PI X (.Tuple s T x) (.Call (.Name "zip" p) [a,b] [] U) (iV X.K (xj g) E):=
 (Lk o M S V i).imp λI H R j=>i_ j λF z L fr q h=>⟨F,z,L,fr,q,(run.bind (R:=ba X.K F) h).mono λW f j=>by
  obtain⟨Y,N,t,O,P⟩:=j;obtain⟨l,e,k⟩:=run.ofO P;unfold BO at e;split at e
  .rename_i c d
   obtain⟨v,J,rfl,r,u⟩:=ba.two O;cases D:c9 c with
   |none=>rw[D]at e;cases e
   |some Z=>
    cases G:c9 d with
    |none=>rw[D,G]at e;cases e
    |some ys=>
     rw[D,G]at e;cases e;obtain⟨b1,w,rfl,m⟩:=bw.sqS r D;obtain⟨b2,y,rfl,n⟩:=bw.sqS u G;obtain⟨Q,A,_⟩:=m F f (Tr.refl F f);obtain⟨B,C,_⟩:=n F f (Tr.refl F f);exact⟨b1,b2,w,y,Q,B,rfl,A,C,k _ f (To.refl t.fr) (Kb m n)⟩
  .cases e⟩
variable{a:List Expr}
end
section
variable{P:PM}{w:P0}{K:Pl}{e:a0j}{d:Qt}{N:a0i}{c:PZ}{a:Scope}{f:OM}{g:OP}{A:P7}{b:a0B}{s:OV}{H:Hp}{E:XK}
end
section
variable{X:Cx}{E:a0s}{K:Pl}
variable{y A v:Expr}{w:List Expr}{rest:a0P}{u:Scope}{z:Ub}{B cx:a0i}{bt:a0a}{g:TG}{I:a0Y}
theorem aT:dJ X [] (g8 X.K (λ_=>M.ret OL) E0):=λa s b H Q I c=>by obtain⟨F,g,u,fr,d,r⟩:=c;exact tJ a s b H Q I (run.ret fr r rfl)
theorem rV(a:PT X c (g8 X.K t E0)):dJ X [c] (g8 X.K t E0):=CN a
theorem bp(c:X.calm=OL)(S:cy X u B cx bt)(d:PI X A v (iV X.K m E))
  (e:∀(G:a0n) (C:OM) (a:a0q) (s:OV) (H:Hp),PG (aE X B u G C a s H) A g/\dJ (aE X B u G C a s H) w (g8 X.K n E0)/\∀D,PB (aE X B u G C a s H) y (⟨A,v,w,0⟩::rest) u z 0 D (I D))
  (f:cB X.K g l) (i:dH l) (j:∀D,jf X.K D (I D) b) (M:∀x,Qh v X.env x=Ry x:=by intro _;rfl):PE X (.ListComp y (⟨A,v,w,0⟩::rest) u z) (tV X.K (cN cx.length bt m l n b) E):=
 (lZ c S d e M).imp λk H Q h=>sM f i j h
theorem yR{a c:Ub}(j:X.N.Nodup)(d:X.N[i]?=My x)(M:uY X.env.scope x)(k:X.calm=OL)(S:cy X u B cx bt)(l:PI X A v (iV X.K F E))
  (m:∀(G:a0n) (C:OM) (f:a0q) (s:OV) (H:Hp),PG (aE X B u G C f s H) A g/\dJ (aE X B u G C f s H) w (g8 X.K J E0)/\∀D,PB (aE X B u G C f s H) y (⟨A,v,w,0⟩::rest) u z 0 D (I D))
  (n:cB X.K g t) (o:dH t) (p:∀D,jf X.K D (I D) b)
  (e:UJ (.ListComp y (⟨A,v,w,0⟩::rest) u z) (My (.Name x a)) c.line X.env=Ry OL:=by rfl)
  (V:∀x,Qh v X.env x=Ry x:=by intro _;rfl) (q:X.fn x=OL\/X.env.scope.names.lookup x=My .local:=by first|exact .inl rfl|exact .inr rfl|assumption):
  PS X (.Assign [.Name x a] (.ListComp y (⟨A,v,w,0⟩::rest) u z) c) (tG X.K X.H₀ (f9 i (cN cx.length bt F t J b)) E):=
 aN ((vH j d M k S l m e V q).imp λD r H h=>sM n o p h)
noncomputable def negD:D->a0l
 | .int i=>My (.int (-i))
 |_=>OI
theorem IN:Jb K (rU λi=> .int (-i)) negD:=λF H u Q g d b fr a e k=>by
 cases g<;>first|(cases e;exact⟨_,a,k _ H (To.refl fr) rfl⟩)|cases e
noncomputable def BG:D->a0u
 | .int i=>My i
 |_=>OI
noncomputable def nF(g:a0b)(u a:a0u):a0b:=(g.drop (HT.sIx g.length 0 u)).take (HT.sIx g.length g.length a-HT.sIx g.length 0 u)
def slD:D->a0u->a0u->a0l
 | .lst xs,lo,hi=>My (.lst (nF xs lo hi))
 | .scr ns,lo,hi=>My (.lst (nF (ns.map D.int) lo hi))
 |_,_,_=>OI
def rW(f:Option (FD)):Dn->M a0u:=λu=>match f with
 |none=>M.ret OI
 |some g=>M.bind (g u) λd=>M.bind (M.ofO (BG d)) λi=>M.ret (My i)
def fSl(f:FD)(u a:Option (FD)):FD:=λg=>M.bind (f g) λd=>M.bind (rW u g) λl=>M.bind (rW a g) λh=>M.ofO (slD d l h)
def x8(X:Cx)(e:Option Expr)(f:Option (FD))(E:a0s):Prop:=PO X e (λc H Q=>∃F g u,Fr F H u/\hO X.K F H g c/\run (λ_ (a b:a0u)=>b=a) F E c (rW f g) H Q u)
theorem zu:x8 X OI OI E:=λa s b H Q I c=>by obtain⟨F,g,u,fr,d,r⟩:=c;exact vK a s b H Q I (run.ret fr r rfl)
theorem zt(h:PE X e (tV X.K f E)):x8 X (My e) (My f) E:=λa s c H Q I b=>i_ b λF g u fr j r=>vJ h a s c H Q I ⟨F,g,u,fr,j,(run.bind (R:=bw X.K F) r).mono λv l b=>by
  obtain⟨d,w,t,y,z⟩:=b;obtain⟨i,e,k⟩:=run.ofO_bind z;cases d<;>first|(cases e;exact⟨_,y,run.ret t.fr k rfl⟩)|cases e⟩
theorem ba.cut(h:ba K F H b c)(g a:a0u):ba K F H (nF b g a) (lD c g a):=by
 unfold nF lD;rw[h.length];exact(h.drop _).take _
theorem vf{S u:Option Expr}{fl w:Option (FD)}{p2:Ub}(y:PE X e (tV X.K f E))(A:x8 X S fl E)(B:x8 X u w E):PE X (.Subscript e (.Slice S u OI p2) z) (tV X.K (fSl f fl w) E):=
 (tL vq y A B).imp λL H Q m=>i_ m λF g V fr n r=>⟨F,g,V,fr,n,(run.bind (R:=bw X.K F) r).mono λv N ⟨d,D,t,s,x⟩=>
  ⟨F,g,D,t.fr,n.tr (t.tr fr),(run.bind (R:=λ_ (a b:a0u)=>b=a) x).mono λl O ⟨P,G,t2,o,C⟩=>
   ⟨F,g,G,t2.fr,n.tr ((t.tr fr).trans (t2.tr t.fr)),(run.bind (R:=λ_ (a b:a0u)=>b=a) C).mono λh T m=>by
    obtain⟨Y,U,t3,q,I⟩:=m;subst o q;obtain⟨c,e,k⟩:=run.ofO I;have i:=bw.tr ((t2.tr t.fr).trans (t3.tr t2.fr)) _ _ s;cases d<;>first
     |(cases e;obtain⟨a,W,rfl,M,J⟩:=bw.sqL i;exact⟨a,W,rfl,M,λp j=>k _ _ (t3.fr.upd _ j) (bw.newL t3.fr j (J.cut l h))⟩)
     |(cases e;obtain⟨a,rfl,M⟩:=bw.scr i;exact⟨a,_,rfl,M,λp j=>k _ _ (t3.fr.upd _ j) (bw.newL t3.fr j ((ba.ofInts _).cut l h))⟩)
     |cases e⟩⟩⟩
def Bg.ok(β:Bg):Prop:=β.cells≠[]/\β.cells.length<=64/\(∀c∈β.cells,0<=c)/\0<=β.j
end
noncomputable def Bg.pos(D:Bg):Nat:=(D.i % (D.cells.length:Int)).toNat
def Bg.cell(D:Bg):Int:=D.cells.getD D.pos 0
noncomputable def Bg.nxt(D:Bg):Int:=(D.j+D.cell % 2147483629+77)*48271 % 2147483629
noncomputable def iZ(E:Bg)(D:Int):Int:=if 10^18<=E.cell then E.cell % D else E.nxt/64 % D
noncomputable def jU(D:Bg)(E:Int):Bg:=if 10^18<=D.cell then⟨D.cells.set D.pos (D.cell/E),D.i,D.j⟩else⟨D.cells,D.i+1,D.nxt⟩
open Classical in
def cw:a0b->M D:=λG E=>match G with
 |[.bag,.int lot]=>if E.ok/\0<lot/\lot<1073741824 then My (Ra (D.int (iZ E lot)),jU E lot)else OI
 |_=>OI
theorem DG{D:Bg}(h:D.ok)(a:0<c)(b:c<1073741824):cw [.bag,.int c] D=My (.ok (.int (iZ D c)),jU D c):=by
 unfold cw;exact OZ ⟨h,a,b⟩
theorem zG{E:Bg}(h:cw b E=My (r,a)):∃D,b=[.bag,.int D]/\E.ok/\0<D/\D<1073741824/\r= .ok (.int (iZ E D))/\a=jU E D:=by
 unfold cw at h;split at h
 .split at h
  .rename_i D q
   cases h;exact⟨D,rfl,q.1,q.2.1,q.2.2,rfl,rfl⟩
  .cases h
 .cases h
theorem Bg.ok.at{β:Bg}(h:β.ok):β.pos<β.cells.length/\β.cells[β.pos]?=My β.cell/\0<=β.cell/\β.i % (β.cells.length:Int)=(β.pos:Int):=by
 obtain⟨D,G,E,b⟩:=id h;have c:0<β.cells.length:=Su.mpr D;have K:0<=β.i % (β.cells.length:Int):=UC _ (by lia);have M:β.i % (β.cells.length:Int)<β.cells.length:=U2 _ (by lia);have a:β.pos<β.cells.length:=by unfold Bg.pos;lia
 have e:β.cell=β.cells[β.pos]:=by
  unfold Bg.cell;rw[O5,ON a];rfl
 refine⟨a,by rw[e];exact ON a,by rw[e];exact E _ (Qr a),?_⟩;unfold Bg.pos;lia
theorem vF{D:Bg}(h:D.ok)(b:0<g):0<=iZ D g/\iZ D g<g/\(jU D g).ok:=by
 obtain⟨f,_,d,_⟩:=h.at;obtain⟨E,G,K,e⟩:=id h;unfold iZ jU;split
 .refine⟨UC _ (by lia),U2 _ b,?_,by rw[QC];exact G,λc a=>?_,e⟩
  .intro z
   have:=Qb TK z;rw[QC]at this;exact E (Rm.mp this)
  .rcases Rx a with a|rfl
   .exact K c a
   .exact Int.ediv_nonneg d (by lia)
 .exact⟨UC _ (by lia),U2 _ b,E,G,K,UC _ (by decide)⟩
end L2.Pu
namespace L2.Hs
open PySem.SetTable
def Rs(xs:Array Nat):Prop:=∀i k x y:Nat,i<k->xs[i]?=My x->xs[k]?=My y->x<y
theorem nN{E:Array Nat}(r:Rs E):∀(fuel D c:Nat),D<=c->c<=E.size->c-D<=fuel->(∀i x,i<D->E[i]?=My x->x<j)->(∀i x,c<=i->E[i]?=My x->j<=x)->
  below.go E j fuel D c<=E.size/\(∀i x,i<below.go E j fuel D c->E[i]?=My x->x<j)/\∀i x,below.go E j fuel D c<=i->E[i]?=My x->j<=x
 |0,D,c,h1,h2,h3,a,b=>by
  have:D=c:=by lia
  subst this;exact⟨h2,a,b⟩
 |fuel+1,D,c,h1,h2,h3,a,b=>by
  unfold below.go;by_cases q:D<c
  .rw[OZ q]
   simp only;have K:(D+c)/2<E.size:=by lia
   have e:E[(D+c)/2]?=My (E.getD ((D+c)/2) j):=by simp[Vx,K]
   by_cases z:E.getD ((D+c)/2) j<j
   .rw[OZ z]
    refine nN r fuel _ _ (by lia) h2 (by lia) (λi x d G=>?_) b;by_cases w:i=(D+c)/2
    .subst w
     rw[e]at G;cases G;exact z
    .exact Wp (r i ((D+c)/2) x _ (by lia) G e) z
   .rw[OY z]
    refine nN r fuel _ _ (by lia) (Qo ‹_›) (by lia) a (λi x d G=>?_);by_cases w:i=(D+c)/2
    .subst w
     rw[e]at G;cases G;exact Nat.not_lt.mp ‹_›
    .have:=r ((D+c)/2) i _ x (by lia) e G
     lia
  .rw[OY q]
   have:D=c:=by lia
   subst this;exact⟨h2,a,b⟩
theorem iN{D:Array Nat}(r:Rs D):below D j<=D.size/\(∀i x,i<below D j->D[i]?=My x->x<j)/\∀i x,below D j<=i->D[i]?=My x->j<=x:=
 nN r D.size 0 D.size (Ql _) (OW _) (OW _) (λi x h=>Pp h (Sj i)) (λi x h e=>by
  have:=(Qf.mp e).1;lia)
theorem EY(r:Rs f)(h:f[i]?=My j):below f j=i:=by
 obtain⟨c,a,b⟩:=iN (j:=j) r;rcases T6 (below f j) i with q|q|q
 .have d:=(Qf.mp h).1
  have e:f[below f j]?=My f[below f j]:=getElem?_pos f _ (by omega);have:=b _ _ (OW _) e;have:=r _ _ _ _ q e h;lia
 .exact q
 .have:=a _ _ q h
  lia
theorem qA{t:Qp}(r:Rs t.place)(h:t.place[i]?=My j):t.slot j= .live i:=by
 unfold slot;simp only[EY r h,h,Zo,Qq]
theorem wR{t:Qp}(d:t.dummies=#[])(h:∀i:Nat,t.place[i]?≠My j):t.slot j= .empty:=by
 unfold slot;have a:(t.place[below t.place j]?==My j)=OQ:=by
  rw[VN];exact h _
 have b:has t.dummies j=OQ:=by unfold has;rw[d];rfl
 simp only[a,b,Ph,Qj]
noncomputable def eg(t:Qp):Nat->Probe->Probe
 |0,p=>p
 |n+1,p=>eg t n (t.advance p)
theorem nA(t:Qp):∀(n:Nat) (p:Probe),eg t (n+1) p=t.advance (eg t n p)
 |0,p=>rfl
 |n+1,p=>by
  show eg t (n+1) (t.advance p)=t.advance (eg t n (t.advance p));exact nA t n (t.advance p)
theorem me(t:Qp):∀(n m:Nat) (p:Probe),eg t (n+m) p=eg t m (eg t n p)
 |0,m,p=>by rw[Q0];rfl
 |n+1,m,p=>by
  rw[show n+1+m=(n+m)+1 by lia];exact me t n m (t.advance p)
structure Pv (t:Qp) (p:Probe):Prop where
 j:p.j+p.more<=t.mask
 more:p.more<=9
 i:p.i<=t.mask
 pt:p.perturb<2^64
 du:p.dummy=OI
theorem qI{D i:Nat}(h:i<=D):i<=runEnd D i/\runEnd D i<=D/\runEnd D i-i<=9:=by
 unfold runEnd;by_cases q:i+9<=D
 .rw[OZ q];lia
 .rw[OY q];lia
noncomputable def p_(t:Qp)(i D:Nat):Probe:={j:=i,more:=runEnd t.mask i-i,i,perturb:=D,dummy:=OI}
theorem pB{t:Qp}(h:i<=t.mask)(a:pt<2^64):Pv t (p_ t i pt):=by
 obtain⟨c,d,b⟩:=qI h;refine⟨?_,b,h,a,rfl⟩;show i+(runEnd t.mask i-i)<=t.mask;lia
theorem qx(t:Qp)(h:Int):t.probeStart h=p_ t (bits h % (t.mask+1)) (bits h):=rfl
theorem mB(h:Int):bits h<2^64:=by
 unfold bits;have:=U2 h (show(0:Int)<2^64 by decide);have:=UC h (show(2^64:Int)≠0 by decide);lia
theorem m3(t:Qp)(h:Int):Pv t (t.probeStart h):=by
 rw[qx];exact pB (by have:=Xk (bits h) (show t.mask+1>0 by lia);lia) (mB h)
noncomputable abbrev D2(D i E:Nat):Nat:=(i*5+1+E/32) % (D+1)
theorem BI{t:Qp}{p:Probe}(h:0<p.more):t.advance p={p with j:=p.j+1,more:=p.more-1}:=by
 unfold advance;rw[OZ h]
theorem wx{t:Qp}{p:Probe}(h:p.more=0)(D:p.dummy=OI):t.advance p=p_ t (D2 t.mask p.i p.perturb) (p.perturb/32):=by
 unfold advance;rw[OY (by lia)];unfold leap p_;simp only[D]
theorem xv(D i E:Nat):D2 D i E<=D:=by
 have:=Xk (i*5+1+E/32) (show D+1>0 by lia);unfold D2;exact Nat.le_of_succ_le_succ ‹_›
theorem BH{t:Qp}(v:Pv t p):Pv t (t.advance p):=by
 by_cases q:0<p.more
 .rw[BI q]
  exact⟨by have:=v.j;show p.j+1+(p.more-1)<=t.mask;lia,by have:=v.more;show p.more-1<=9;lia,v.i,v.pt,v.du⟩
 .rw[wx (by lia) v.du]
  exact pB (xv _ _ _) (P5 (WY _ _) v.pt)
theorem lf:∀(n:Nat) {p:Probe},Pv t p->Pv t (eg t n p)
 |0,_,v=>v
 |n+1,_,v=>lf n (BH v)
theorem p9:∀(k:Nat) {p:Probe},Pv t p->k<=p.more->eg t k p={p with j:=p.j+k,more:=p.more-k}
 |0,p,v,h=>by cases p;rfl
 |k+1,p,v,h=>by
  rw[nA,p9 k v (Qo ‹_›)];rw[BI (show 0<p.more-k by lia)];simp only[Probe.mk.injEq,and_true,true_and];lia
theorem nB{t:Qp}{p:Probe}(v:Pv t p):eg t (p.more+1) p=p_ t (D2 t.mask p.i p.perturb) (p.perturb/32):=by
 rw[nA,p9 _ v (OW _)];exact wx (Ti _) v.du
def cc(D:Nat):Nat->Nat×Nat->Nat×Nat
 |0,x=>x
 |k+1,x=>cc D k (D2 D x.1 x.2,x.2/32)
theorem iX(D:Nat):∀(k:Nat) (x:Nat×Nat),cc D (k+1) x=(D2 D (cc D k x).1 (cc D k x).2,(cc D k x).2/32)
 |0,x=>rfl
 |k+1,x=>iX D k _
theorem um{t:Qp}:∀(k:Nat) {p:Probe},Pv t p->∃n,n<=10*(k+1)/\eg t n p=p_ t (cc t.mask (k+1) (p.i,p.perturb)).1 (cc t.mask (k+1) (p.i,p.perturb)).2
 |0,p,v=>⟨p.more+1,by have:=v.more;exact Vz ‹_›,nB v⟩
 |k+1,p,v=>by
  obtain⟨n,D,e⟩:=um k v;have a:=lf n v;rw[e]at a;refine⟨n+((p_ t (cc t.mask (k+1) (p.i,p.perturb)).1 (cc t.mask (k+1) (p.i,p.perturb)).2).more+1),by have:=a.more;lia,?_⟩;rw[me,e,nB a,iX t.mask (k+1)];rfl
def Mk(D:Nat):Prop:=D=7\/D=31\/D=127
noncomputable def D1(D:Nat):Nat->Nat->Nat
 |0,i=>i
 |k+1,i=>D1 D k ((i*5+1) % (D+1))
theorem l6(D:Nat):∀(a b i:Nat),D1 D (a+b) i=D1 D b (D1 D a i)
 |0,b,i=>by rw[Q0];rfl
 |a+1,b,i=>by
  rw[show a+1+b=(a+b)+1 by lia];exact l6 D a b _
def II(D:Nat):Bool:=(D1 D (D+1) 0==0)&&(OX (D+1)).all λj=>(OX (D+1)).any λk=>D1 D k 0==j
theorem Lu{D:Nat}(h:Mk D):II D=OL:=by
 rcases h with rfl|rfl|rfl<;>decide +kernel
theorem vN{D i j:Nat}(h:Mk D)(l:i<=D)(m:j<=D):∃k,k<=D/\D1 D k i=j:=by
 have o:=Lu h;unfold II at o;rw[PP,Tl,S9]at o;obtain⟨g,E⟩:=o;obtain⟨a,e,c⟩:=List.any_eq_true.mp (E i (Pn.mpr (Vz ‹_›)));obtain⟨b,f,d⟩:=List.any_eq_true.mp (E j (Pn.mpr (Vz ‹_›)));rw[Tl]at c d;have:=Pn.mp e;have:=Pn.mp f;by_cases q:a<=b
 .refine⟨b-a,by lia,?_⟩
  rw[<-c,<-l6,show a+(b-a)=b by lia,d]
 .refine⟨b+(D+1)-a,by lia,?_⟩
  rw[<-c,<-l6,show a+(b+(D+1)-a)=(D+1)+b by lia,l6,g,d]
theorem kO(D:Nat):∀(k i:Nat),cc D k (i,0)=(D1 D k i,0)
 |0,i=>rfl
 |k+1,i=>by
  show cc D k (D2 D i 0,0/32)=_;rw[show(0/32:Nat)=0 from rfl,kO D k];rfl
theorem m5(D:Nat):∀(a b:Nat) (x:Nat×Nat),cc D (a+b) x=cc D b (cc D a x)
 |0,b,x=>by rw[Q0];rfl
 |a+1,b,x=>by
  rw[show a+1+b=(a+b)+1 by lia];exact m5 D a b _
theorem m4(D:Nat):∀(k:Nat) (x:Nat×Nat),(cc D k x).2=x.2/32^k
 |0,x=>by simp[cc]
 |k+1,x=>by
  rw[iX,m4 D k x,XV,Nat.pow_succ]
theorem vC(D:Nat):∀(k:Nat) (x:Nat×Nat),x.1<=D->(cc D k x).1<=D
 |0,x,h=>h
 |k+1,x,h=>by rw[iX];exact xv _ _ _
theorem OD{t:Qp}(h:Mk t.mask)(v:Pv t p)(a:j<=t.mask):∃n,n<10*turns t.mask/\(eg t n p).j=j:=by
 have z:(cc t.mask 13 (p.i,p.perturb)).2=0:=by
  rw[m4];exact Nat.div_eq_of_lt (Pm v.pt (by decide))
 have l:=vC t.mask 13 (p.i,p.perturb) v.i;obtain⟨k,c,e⟩:=vN h l a;obtain⟨n,D,b⟩:=um (12+k) v;refine⟨n,by unfold turns;lia,?_⟩;rw[b];show(cc t.mask (12+k+1) (p.i,p.perturb)).1=j;rw[show 12+k+1=13+k by lia,m5,show cc t.mask 13 (p.i,p.perturb)=((cc t.mask 13 (p.i,p.perturb)).1,0)from R6 rfl z,kO];exact e
abbrev Lv(t:Qp)(j:Nat):Prop:=∃k:Nat,t.place[k]?=My j
structure Tb (t:Qp) (hs:a0e):Prop where
 km:Mk t.mask
 sz:t.place.size=hs.length
 rs:Rs t.place
 le:∀i j:Nat,t.place[i]?=My j->j<=t.mask
 du:t.dummies=#[]
 nf:t.place.size*5<t.mask*3
 rch:∀(i:Nat) (h:Int) (j:Nat),hs[i]?=My h->t.place[i]?=My j->∃n,(eg t n (t.probeStart h)).j=j/\∀m<n,Lv t (eg t m (t.probeStart h)).j
theorem Mk.odd(h:Mk m):m % 2=1/\7<=m/\m<=127:=by
 rcases h with rfl|rfl|rfl<;>decide
theorem gap{D:Array Nat}(r:Rs D):∀n,n<=D.size->(∀i:Nat,i<n->D[i]?=My i)\/∃j,j<n/\∀i:Nat,D[i]?≠My j
 |0,_=> .inl λi h=>Pp h (Sj i)
 |n+1,h=>by
  rcases gap r n (Qo ‹_›)with q|⟨j,c,b⟩
  .have e:D[n]?=My D[n]:=getElem?_pos D n (by lia)
   by_cases z:D[n]=n
   .refine .inl λi d=>?_
    by_cases w:i=n
    .subst w;rw[e,z]
    .exact q i (by lia)
   .have lt:n<=D[n]:=by
     cases n with
     |zero=>exact Ql _
     |succ m=>
      have:=r m (m+1) _ _ (Um _) (q m (Um _)) e;exact ‹_›
    refine .inr ⟨n,Um _,λi a=>?_⟩;rcases T6 i n with w|w|w
    .rw[q i w]at a;cases a;lia
    .subst w;rw[e]at a;exact z (PH a)
    .have:=r n i _ _ w e a
     lia
  .exact .inr ⟨j,by lia,b⟩
theorem L9{D:Array Nat}(r:Rs D):∃j,j<=D.size/\∀i:Nat,D[i]?≠My j:=by
 rcases gap r D.size (OW _)with q|⟨j,c,a⟩
 .refine⟨D.size,OW _,λi e=>?_⟩
  have b:=(Qf.mp e).1;rw[q i b]at e;cases e;lia
 .exact⟨j,Qo ‹_›,a⟩
theorem IW{t:Qp}(r:Rs t.place)(d:t.dummies=#[]):∀(fuel:Nat) (p:Probe) (e:Nat),Pv t p->e<fuel->¬Lv t (eg t e p).j->
  ∃m,m<=e/\(∀a<m,∃i,t.place[i]?=My (eg t a p).j/\hashAt i≠h)/\
   ((¬Lv t (eg t m p).j/\probe.go t hashAt h fuel p=My (.empty (eg t m p).j OI))\/∃i,t.place[i]?=My (eg t m p).j/\hashAt i=h/\probe.go t hashAt h fuel p=My (.candidate (eg t m p).j i (eg t (m+1) p)))
 |0,_,_,_,h,_=>Pp h (Sj _)
 |fuel+1,p,e,v,hf,he=>by
  unfold probe.go;by_cases q:Lv t p.j
  .obtain⟨i,b⟩:=q
   rw[qA r b];simp only;by_cases z:hashAt i=h
   .refine⟨0,Ql _,λa D=>Pp D (Sj _),.inr ⟨i,b,z,?_⟩⟩
    rw[OZ (by rw[Tl];exact z)];rfl
   .rw[OY (by rw[Tl];exact z)]
    cases e with
    |zero=>exact Pp ⟨i,b⟩ he
    |succ e=>
     obtain⟨m,D,E,c⟩:=IW r d fuel (t.advance p) e (BH v) (Nat.lt_of_succ_lt_succ ‹_›) he;refine⟨m+1,Vz ‹_›,λa f=>?_,c⟩;cases a with
     |zero=>exact⟨i,b,z⟩
     |succ a=>exact E a (Nat.lt_of_succ_lt_succ ‹_›)
  .rw[wR d (λi b=>q ⟨i,b⟩)]
   refine⟨0,Ql _,λa D=>Pp D (Sj _),.inl ⟨q,?_⟩⟩;simp only[v.du];rfl
theorem Tb.free{t:Qp}(T:Tb t hs)(v:Pv t p):∃e,e<10*turns t.mask/\¬Lv t (eg t e p).j:=by
 obtain⟨j,f,a⟩:=L9 T.rs;have:=T.nf;have:=T.km.odd;obtain⟨e,b,c⟩:=OD T.km v (show j<=t.mask by lia);exact⟨e,b,λ⟨k,d⟩=>a k (by rw[<-c];exact d)⟩
theorem AC{E:Type}{D:Array E}{p:Nat}{x:E}(b:p<=D.size)(i:Nat):(insertAt D p x)[i]?=if i<p then D[i]? else if i=p then My x else D[i-1]?:=by
 unfold insertAt;rw[Array.getElem?_append];have a:((D.extract 0 p).push x).size=p+1:=by simp;lia
 rw[a];by_cases q:i<p
 .rw[OZ (by lia),OZ q,Yk,Yx]
  rw[OY (by lia),Xy];simp;lia
 .by_cases z:i=p
  .subst z
   rw[OZ (Um _),OY ‹_›,OZ rfl,Yk,Yx];rw[OZ (by lia)]
  .rw[OY (by lia),OY q,OY z,Xy]
   by_cases w:i-1<D.size
   .rw[OZ (by lia)]
    congr 1;lia
   .rw[OY (by lia),RW (Nat.not_lt.mp ‹_›)]
theorem f7{E:Type}{D:Array E}{p:Nat}{x:E}(a:p<=D.size):(insertAt D p x).size=D.size+1:=by
 unfold insertAt;simp;lia
theorem Tb.put{t:Qp}{hs:a0e}(T:Tb t hs)(w:¬Lv t j)(V:(eg t n (t.probeStart h)).j=j)(s:∀m<n,Lv t (eg t m (t.probeStart h)).j)(I:(t.place.size+1)*5<t.mask*3):
  (t.put j).1.dummies=#[]/\(t.put j).1.mask=t.mask/\(t.put j).1.place.size=t.place.size+1/\(t.put j).2<=t.place.size/\Tb (t.put j).1 (hs.take (t.put j).2++h::hs.drop (t.put j).2):=by
 obtain⟨b1,b2,b3⟩:=iN (j:=j) T.rs;have J:has t.dummies j=OQ:=by unfold has;rw[T.du];rfl
 have r:(t.put j).1.dummies=#[]:=by
  show(if has t.dummies j=OL then _ else t.dummies)=#[];rw[J,OY O4,T.du]
 have G:(t.put j).1.place=insertAt t.place (below t.place j) j:=rfl;have g:=λi=>AC (x:=j) b1 i;have u:∀x,Lv t x->Lv (t.put j).1 x:=λx ⟨k,e⟩=>by
  by_cases q:k<below t.place j
  .exact⟨k,by rw[G,g,OZ q];exact e⟩
  .exact⟨k+1,by rw[G,g,OY (by lia),OY (by lia)];exact e⟩
 have K:∀m p,eg (t.put j).1 m p=eg t m p:=λm=>by
  induction m with
  |zero=>intro p;rfl
  |succ m L=>intro p;exact L (t.advance p)
 refine⟨r,rfl,by rw[G,f7 b1],b1,⟨T.km,?_,?_,?_,r,?_,?_⟩⟩
 .rw[G,f7 b1,T.sz]
  have:(t.put j).2<=hs.length:=by rw[<-T.sz];exact b1
  simp;lia
 .intro i k x y l hx hy
  rw[G,g]at hx hy;have A:∀k,t.place[k]?≠My j:=λk e=>w ⟨k,e⟩;by_cases E:i<below t.place j
  .rw[OZ E]at hx
   by_cases S:k<below t.place j
   .rw[OZ S]at hy
    exact T.rs i k x y l hx hy
   .rw[OY S]at hy
    by_cases D:k=below t.place j
    .rw[OZ D]at hy;cases hy
     exact b2 i x E hx
    .rw[OY D]at hy
     exact T.rs i (k-1) x y (by lia) hx hy
  .rw[OY E]at hx
   rw[OY (by lia),OY (by lia)]at hy;by_cases D:i=below t.place j
   .rw[OZ D]at hx;cases hx
    have H:=b3 (k-1) y (by lia) hy;have:y≠j:=λz=>A (k-1) (by rw[hy,z]);lia
   .rw[OY D]at hx
    exact T.rs (i-1) (k-1) x y (by lia) hx hy
 .intro i x hx
  rw[G,g]at hx;by_cases E:i<below t.place j
  .rw[OZ E]at hx;exact T.le i x hx
  .rw[OY E]at hx
   by_cases D:i=below t.place j
   .rw[OZ D]at hx;cases hx
    have v:=lf n (m3 t h);have:=v.j;show j<=t.mask;lia
   .rw[OY D]at hx;exact T.le _ x hx
 .rw[G,f7 b1];exact I
 .intro i h' x B hx
  have l0:(t.put j).2<=hs.length:=by rw[<-T.sz];exact b1
  have o:(t.put j).2=below t.place j:=rfl;rw[G,g]at hx;have c:(if i<below t.place j then hs[i]? else if i=below t.place j then My h else hs[i-1]?)=My h':=by
   rw[<-B,o];by_cases E:i<below t.place j
   .rw[OZ E,Rw (by rw[PR];lia),Xs E]
   .rw[OY E,Qw (by rw[PR];lia),PR,RT (by lia)]
    by_cases D:i=below t.place j
    .rw[OZ D,D,Ti];rfl
    .rw[OY D,show i-below t.place j=(i-1-below t.place j)+1 by lia,TH,SH]
     congr 1;lia
  have d:∀f,hs[f]?=My h'->t.place[f]?=My x->∃n,(eg (t.put j).1 n ((t.put j).1.probeStart h')).j=x/\∀m<n,Lv (t.put j).1 (eg (t.put j).1 m ((t.put j).1.probeStart h')).j:=λf a b=>by
   obtain⟨C,F,o⟩:=T.rch f h' x a b;refine⟨C,by rw[K];exact F,λm M=>?_⟩;rw[K];exact u _ (o m M)
  by_cases E:i<below t.place j
  .rw[OZ E]at hx c
   exact d i c hx
  .rw[OY E]at hx c
   by_cases D:i=below t.place j
   .rw[OZ D]at hx c
    cases hx;cases c;refine⟨n,by rw[K];exact V,λm M=>?_⟩;rw[K];exact u _ (s m M)
   .rw[OY D]at hx c
    exact d (i-1) c hx
theorem uo{t u:Qp}(h:t.mask=u.mask):∀(n:Nat) (p:Probe),eg t n p=eg u n p
 |0,p=>rfl
 |n+1,p=>by
  show eg t n (t.advance p)=eg u n (u.advance p);have:t.advance p=u.advance p:=by unfold advance;rw[h]
  rw[this];exact uo h n _
theorem wO{t u:Qp}(h:t.mask=u.mask)(x:Int):t.probeStart x=u.probeStart x:=by unfold probeStart;rw[h]
noncomputable abbrev tm(mask:Nat):Qp:={mask,place:=#[],dummies:=#[],finger:=0,led:=OL,moves:=0,plain:=OL}
noncomputable abbrev fr(owner:a0w)(j:Nat):Bool:=(owner.getD j (My 0)).isNone
theorem wb{D:Nat}{owner:a0w}:∀(fuel i E:Nat),i<=D->E<2^64->(∃b,b<fuel/\fr owner (cc D b (i,E)).1=OL)->
  ∃n,layClean.free D owner fuel i E=My (eg (tm D) n (p_ (tm D) i E)).j/\fr owner (eg (tm D) n (p_ (tm D) i E)).j=OL/\∀m<n,fr owner (eg (tm D) m (p_ (tm D) i E)).j=OQ
 |0,_,_,_,_,⟨b,h,_⟩=>Pp h (Sj b)
 |fuel+1,i,E,hi,hp,⟨b,hb,hf⟩=>by
  have v:=pB (t:=tm D) hi hp;obtain⟨M,A,B⟩:=qI hi;have f:(p_ (tm D) i E).more=runEnd D i-i:=rfl;have d:∀k,k<=runEnd D i-i->(eg (tm D) k (p_ (tm D) i E)).j=i+k:=λk c=>by
   rw[p9 k v c];rfl
  unfold layClean.free;split
  .rename_i k c
   obtain⟨g,l,o⟩:=List.find?_range_eq_some.mp c;have:=Pn.mp l;refine⟨k,by rw[d k (by lia)],by rw[d k (by lia)];exact g,λm G=>?_⟩;rw[d m (by lia)];have:=o m G;simpa using this
  .rename_i c
   have K:∀k,k<=runEnd D i-i->fr owner (i+k)=OQ:=λk p=>by
    have:=List.find?_range_eq_none.mp c k (by lia);simpa using this
   cases b with
   |zero=>
    have r:=K 0 (Ql _);exact Pp hf (by rw[show(cc D 0 (i,E)).1=i+0 from rfl,r];exact O4)
   |succ b=>
    obtain⟨n,u,w,y⟩:=wb fuel (D2 D i E) (E/32) (xv _ _ _) (P5 (WY _ _) hp) ⟨b,Nat.lt_of_succ_lt_succ ‹_›,hf⟩;have a:∀m,eg (tm D) (runEnd D i-i+1+m) (p_ (tm D) i E)=eg (tm D) m (p_ (tm D) (D2 D i E) (E/32)):=λm=>by
     rw[me,<-f,nB v];rfl
    refine⟨runEnd D i-i+1+n,by rw[a];exact u,by rw[a];exact w,λm G=>?_⟩;by_cases q:m<=runEnd D i-i
    .rw[d m q];exact K m q
    .obtain⟨e,rfl⟩:∃e,m=runEnd D i-i+1+e:=⟨m-(runEnd D i-i+1),by lia⟩
     rw[a];exact y e (by lia)
structure Ow (mask:Nat) (owner:a0w) (hs:a0e):Prop where
 sz:owner.size=mask+1
 lt:∀j k:Nat,owner[j]?=My (My k)->k<hs.length
 un:∀j j' k:Nat,owner[j]?=My (My k)->owner[j']?=My (My k)->j=j'
 cn:owner.toList.countP (·.isSome)=hs.length
 ex:∀(k:Nat) (h:Int),hs[k]?=My h->∃j n:Nat,owner[j]?=My (My k)/\(eg (tm mask) n ((tm mask).probeStart h)).j=j/\∀m<n,∃k':Nat,owner[(eg (tm mask) m ((tm mask).probeStart h)).j]?=My (My k')
theorem xO{D:Nat}{owner:a0w}(E:owner.size=D+1){j:Nat}(b:j<=D):(fr owner j=OL↔owner[j]?=My OI)/\(fr owner j=OQ↔∃k:Nat,owner[j]?=My (My k)):=by
 have e:owner[j]?=My owner[j]:=getElem?_pos owner j (by omega);have a:owner.getD j (My 0)=owner[j]:=by simp[Vx,show j<owner.size by lia]
 unfold fr;rw[a,e];cases owner[j]<;>simp
theorem Ow.step{D:Nat}{owner:a0w}{G:a0e}(O:Ow D owner G)(h:Int)(M:Mk D)(Q:G.length<=D):
  ∃j,layClean.free D owner (turns D) (bits h % (D+1)) (bits h)=My j/\Ow D (owner.setIfInBounds j (My G.length)) (G++[h]):=by
 have o:bits h % (D+1)<=D:=by have:=Xk (bits h) (show D+1>0 by lia);lia
 have⟨p,h1,h2⟩:∃p,p<=D/\fr owner p=OL:=by
  refine R3 λz=>?_;have S:∀a∈owner.toList,Option.isSome a=OL:=λa s=>by
   obtain⟨i,d,e⟩:=V3 s;have H:i<owner.size:=by simpa using d
   have I:fr owner i=OQ:=by
    cases q:fr owner i with
    |false=>rfl
    |true=>exact Pp ⟨i,by have:=O.sz;lia,q⟩ z
   obtain⟨k,r⟩:=(xO O.sz (show i<=D by have:=O.sz;lia)).2.mp I;have:owner[i]?=My a:=by rw[<-Qd,ON d,e]
   rw[this]at r;cases r;rfl
  have:=List.countP_eq_length.mpr S;rw[O.cn]at this;have:=O.sz;simp at*;lia
 have z:(cc D 13 (bits h % (D+1),bits h)).2=0:=by
  rw[m4];exact Nat.div_eq_of_lt (Pm (mB h) (by decide))
 have l:=vC D 13 (bits h % (D+1),bits h) o;obtain⟨k,r,e⟩:=vN M l h1;have J:fr owner (cc D (13+k) (bits h % (D+1),bits h)).1=OL:=by
  rw[m5,show cc D 13 (bits h % (D+1),bits h)=((cc D 13 (bits h % (D+1),bits h)).1,0)from R6 rfl z,kO];show fr owner (D1 D k _)=OL;rw[e];exact h2
 obtain⟨n,A,B,L⟩:=wb (owner:=owner) (turns D) (bits h % (D+1)) (bits h) o (mB h) ⟨13+k,by unfold turns;lia,J⟩;have C:∀m,(eg (tm D) m (p_ (tm D) (bits h % (D+1)) (bits h))).j<=D:=λm=>by
  have:=(lf m (pB (t:=tm D) o (mB h))).j;show _<=(tm D).mask;lia
 generalize F:(eg (tm D) n (p_ (tm D) (bits h % (D+1)) (bits h))).j=j at A B;have N:j<=D:=by rw[<-F];exact C n
 have jn:owner[j]?=My OI:=(xO O.sz N).1.mp B;have f:j<owner.size:=by have:=O.sz;lia
 have set:∀x:Nat,(owner.setIfInBounds j (My G.length))[x]?=if j=x then My (My G.length)else owner[x]?:=λx=>by
  rw[Array.getElem?_setIfInBounds];by_cases q:j=x
  .rw[OZ q,OZ q,OZ f]
  .rw[OY q,OY q]
 refine⟨j,A,⟨by rw[Array.size_setIfInBounds];exact O.sz,λx k E=>?_,λx y k E K=>?_,?_,λk R c=>?_⟩⟩
 .rw[set]at E
  rw[O1];by_cases q:j=x
  .rw[OZ q]at E;cases E;simp
  .rw[OY q]at E
   have:=O.lt x k E;lia
 .rw[set]at E K
  by_cases q:j=x
  .rw[OZ q]at E;cases E
   by_cases g:j=y
   .lia
   .rw[OY g]at K
    exact Pp (O.lt y _ K) (Qg _)
  .rw[OY q]at E
   by_cases g:j=y
   .rw[OZ g]at K;cases K
    exact Pp (O.lt x _ E) (Qg _)
   .rw[OY g]at K
    exact O.un x y k E K
 .rw[UR,List.countP_set (by simpa using f),O.cn]
  have:owner.toList[j]'(by simpa using f)=OI:=by
   have e:=getElem?_pos owner j f;rw[jn]at e;rw[Sb];exact(PH e).symm
  rw[this];simp
 .by_cases q:k<G.length
  .rw[Rw q]at c
   obtain⟨x,P,V,T,U⟩:=O.ex k R c;refine⟨x,P,?_,T,λm M=>?_⟩
   .rw[set,OY (λw=>by subst w;rw[jn]at V;cases V)];exact V
   .obtain⟨u,b⟩:=U m M
    exact⟨u,by rw[set,OY (λw=>by rw[<-w,jn]at b;cases b)];exact b⟩
  .have v:=(OT.mp c).1
   rw[O1,Qs]at v;have:k=G.length:=by lia
   subst this;rw[Qw (OW _),Ti]at c;cases c;refine⟨j,n,by rw[set,OZ rfl],F,λm M=>?_⟩;obtain⟨u,b⟩:=(xO O.sz (C m)).2.mp (L m M);exact⟨u,by rw[qx,set,OY (λw=>by rw[<-w,jn]at b;cases b)];exact b⟩
theorem Ow.nil(D:Nat):Ow D (Array.replicate (D+1) OI) []:=by
 have g:∀x:Nat,(Array.replicate (D+1) (OI:a0I))[x]?=if x<D+1 then My OI else OI:=λx=>Array.getElem?_replicate;refine⟨by simp,λj k h=>?_,λj b k h=>?_,by simp,λk h a=>by simp at a⟩
 .rw[g]at h
  split at h<;>cases h
 .rw[g]at h
  split at h<;>cases h
theorem uh{E:Nat}(M:Mk E):∀(l:a0e) (D:a0w) (G:a0e),Ow E D G->G.length+l.length<=E+1->∃a,l.foldl (λ(K:Option (a0w×Nat)) h=>do
   let (D,k) <-K
   let j <-layClean.free E D (turns E) (bits h % (E+1)) (bits h)
   Ry (D.setIfInBounds j (My k),k+1)) (My (D,G.length))=My (a,G.length+l.length)/\Ow E a (G++l)
 |[],D,G,O,_=>⟨D,rfl,by rw[PN];exact O⟩
 |h::l,D,G,O,hl=>by
  rw[Pb]at hl;obtain⟨j,e,d⟩:=O.step h M (by lia);obtain⟨f,b,c⟩:=uh M l _ (G++[h]) d (by rw[O1,Qs];lia);refine⟨f,?_,by rw[O3]at c;exact c⟩;rw[WP];simp only[Option.bind_eq_bind,RZ,e];rw[O1,Qs]at b;rw[Pb,show G.length+(l.length+1)=G.length+1+l.length by lia];exact b
theorem LS{D:Nat}(K:Mk D)(G:Array Int)(b:G.size<=D+1):∃E,layClean D G=My E/\Ow D E G.toList:=by
 obtain⟨o,e,O⟩:=uh K G.toList _ [] (Ow.nil D) (by simpa using b);refine⟨o,?_,O⟩;unfold layClean;rw[<-Array.foldl_toList];have a:=e;simp only[Sc]at a;exact(Qb (Option.map (·.1)) a).trans rfl
theorem uB{D E:Type}{f:D->Option E}{g:D->E}:∀{l:List D},(∀a∈l,f a=My (g a))->l.filterMap f=l.map g
 |[],_=>rfl
 |a::l,h=>by
  rw[Q8,h a OU,Pc,uB λb c=>h b (OO a c)]
noncomputable def bX(E:Nat)(D:a0w):a0h:=(OX (E+1)).filterMap λj=>(D.getD j OI).map (j,·)
theorem DL{E:Nat}{D:a0w}(G:D.size=E+1){j k:Nat}:(j,k)∈bX E D↔D[j]?=My (My k):=by
 unfold bX;rw[UX];constructor
 .rintro⟨x,hx,e⟩
  have c:=Pn.mp hx;have a:D.getD x OI=D[x]:=by simp[Vx,show x<D.size by omega]
  rw[a]at e;cases q:D[x]with
  |none=>rw[q]at e;cases e
  |some d=>
   rw[q]at e;simp only[Rt,Xu,Prod.mk.injEq]at e;obtain⟨rfl,rfl⟩:=e;rw[getElem?_pos D x (by lia),q]
 .intro e
  have b:=(Qf.mp e).1;refine⟨j,Pn.mpr (by lia),?_⟩;have a:D.getD j OI=D[j]:=by simp[Vx,b]
  rw[getElem?_pos D j b]at e;rw[a,PH e];rfl
theorem zM(E:Nat)(D:a0w):(bX E D).Pairwise λa b=>a.1<b.1:=by
 unfold bX;refine List.Pairwise.filterMap _ (λa f h b d g c=>?_) List.pairwise_lt_range;cases q:D.getD a OI with
 |none=>rw[q]at d;cases d
 |some k=>
  rw[q]at d;cases e:D.getD f OI with
  |none=>rw[e]at c;cases c
  |some i=>
   rw[e]at c;cases d;cases c;exact h
theorem yZ{t:Qp}{hs:Array Int}(M:Mk (sizeAbove wanted-1))(nf:hs.size*5<(sizeAbove wanted-1)*3):
  ∃(G:Qp) (c:Array Nat),t.relaid hs wanted=My (G,c)/\c.toList.Perm (OX hs.size)/\Tb G (c.toList.map λk=>hs.getD k 0)/\G.led=t.led/\G.plain=t.plain:=by
 have ho:=M.odd;obtain⟨D,e,O⟩:=LS M hs (by lia);generalize P:sizeAbove wanted-1=mask at*;have d:hs.toList.length=hs.size:=by simp
 have f:=zM mask D;have l:∀{j k:Nat},(j,k)∈bX mask D↔D[j]?=My (My k):=DL O.sz;have Q:t.relaid hs wanted=My ({mask,place:=((bX mask D).map (·.1)).toArray,dummies:=#[],finger:=t.finger,led:=t.led,moves:=t.movedTo mask,plain:=t.plain},((bX mask D).map (·.2)).toArray):=by
  unfold relaid laid;rw[P,e];rfl
 have g:((bX mask D).map (·.2)).Perm (OX hs.size):=by
  refine(List.perm_ext_iff_of_nodup ?_ List.nodup_range).mpr λk=>?_
  .unfold List.Nodup
   rw[QY];refine List.Pairwise.imp_of_mem (R:=λa b=>a.1<b.1) (λ{a b} E B h z=>?_) f;obtain⟨j,k⟩:=a;obtain⟨v,w⟩:=b;have T:k=w:=z;subst T;have:=O.un j v k (l.mp E) (l.mp B);have h':j<v:=h;lia
  .rw[OR,Pn]
   constructor
   .rintro⟨⟨j,w⟩,h,rfl⟩
    have:=O.lt j w (l.mp h);rwa[d]at this
   .intro A
    obtain⟨j,n,C,_⟩:=O.ex k _ (ON (by rw[d];exact A));exact⟨(j,k),l.mpr C,rfl⟩
 have o:(bX mask D).length=hs.size:=by
  have:=g.length_eq;rwa[OH,Pi]at this
 refine⟨_,_,Q,by simpa using g,?_,rfl,rfl⟩;have K:∀{i:Nat} {x:Nat},(((bX mask D).map (·.1)).toArray)[i]?=My x->∃k,(bX mask D)[i]?=My (x,k):=λ{i x} h=>by
  rw[VM,OS]at h;cases q:(bX mask D)[i]? with
  |none=>rw[q]at h;cases h
  |some a=>
   rw[q]at h;cases h;exact⟨a.2,rfl⟩
 have F:∀{j k:Nat},D[j]?=My (My k)->∃i:Nat,(((bX mask D).map (·.1)).toArray)[i]?=My j:=λ{j k} h=>by
  obtain⟨i,U,W⟩:=V3 (l.mpr h);exact⟨i,by rw[VM,OS,ON U,W];rfl⟩
 refine⟨M,?_,?_,?_,rfl,?_,?_⟩
 .show(((bX mask D).map (·.1)).toArray).size=_
  simp
 .intro i k x y H hx hy
  obtain⟨a,E⟩:=K hx;obtain⟨b,B⟩:=K hy;obtain⟨C,I⟩:=OT.mp E;obtain⟨X,Y⟩:=OT.mp B;have:=Tg.mp f i k C X H;rw[I,Y]at this;exact this
 .intro i j h
  obtain⟨a,E⟩:=K h;have:=(Qf.mp (l.mp (Pd E))).1;have:=O.sz;show j<=mask;lia
 .show(((bX mask D).map (·.1)).toArray).size*5<mask*3
  have:(((bX mask D).map (·.1)).toArray).size=hs.size:=by simp[o]
  lia
 .intro i h j J Z
  obtain⟨k,A⟩:=K Z;have p:=l.mp (Pd A);have V:hs.toList[k]?=My h:=by
   rw[OS]at J;have I:((bX mask D).map (·.2)).toArray.toList[i]?=My k:=by
    show((bX mask D).map (·.2))[i]?=_;rw[OS,A];rfl
   rw[I]at J;have kl:k<hs.size:=by have:=O.lt j k p;rwa[d]at this
   have:hs.getD k 0=h:=PH J;rw[Qd,getElem?_pos hs k kl,<-this];simp[Vx,kl]
  obtain⟨v,n,s,a2,a3⟩:=O.ex k h V;have:=O.un j v k p s;subst this;have S:∀(u:Qp),u.mask=mask->∀m,eg u m (u.probeStart h)=eg (tm mask) m ((tm mask).probeStart h):=λu N m=>by
   rw[wO (u:=tm mask) N,uo (u:=tm mask) N]
  refine⟨n,by rw[S _ rfl];exact a2,λm L=>?_⟩;rw[S _ rfl];obtain⟨w,r⟩:=a3 m L;exact F r
theorem qK{t:Qp}(a:t.probe f h p=r)(T:Tb t g)(v:Pv t p)(b:e<10*turns t.mask)(c:¬Lv t (eg t e p).j):
  ∃m,m<=e/\(∀d<m,∃i,t.place[i]?=My (eg t d p).j/\f i≠h)/\
   ((¬Lv t (eg t m p).j/\r=My (.empty (eg t m p).j OI))\/∃i,t.place[i]?=My (eg t m p).j/\f i=h/\r=My (.candidate (eg t m p).j i (eg t (m+1) p))):=by
 subst a;exact IW T.rs T.du _ p e v b c
section
variable{prog:PM}{w:P0}{A:P7}{E:a0d}{s:OV}
noncomputable abbrev gt(prog:PM)(w:P0):HeapKind prog w a0e:=tupleKind (VC prog w)
noncomputable abbrev hsh(prog:PM)(w:P0)(k:a0e):Int:=(gt prog w).hash k
theorem Tb.fits{t:Qp}{hs:a0e}(T:Tb t hs)(s:hs.length=n):t.fits n=OL:=by
 have:=T.nf;have:=T.sz;have:=T.km.odd;unfold WU SetTable.fill;rw[T.du];simp;lia
theorem items_int(h:ItemsAre (VC prog w) b a):∀v∈a,∃n t,v=S6 n t:=by
 induction h with
 |nil=>intro v hv;cases hv
 |@cons k v' b a h1 _ ih=>
  intro v hv;rcases O6.mp hv with rfl|hv
  .obtain⟨t,e⟩:=Vc h1
   exact⟨_,t,e⟩
  .exact ih v hv
theorem yo{M:Ww}{o:PF}(b:s.heap.get? a=My o)(h:Q o.cls s):O8 M A (typeOf (.ref a)) Q E s:=by
 show O8 M A (loadPart a _>>=_) Q E s;exact OG (wpAny_loadPart b (OJ h))
theorem tQ(f:(gt prog w).is s.heap k x)(h:Q OQ s):O8 (Px prog w) A (W2 8 (.ref x)) Q E s:=by
 obtain⟨o,b,n,e,g,K,i⟩:=f;unfold W2;refine OG (yo e ?_);rw[g];simp only[Zo,Qq];refine OG (OJ ?_);simp only[R0,Ph,Qj];refine OG (Rk e K ?_);refine OG ?_;show O8 _ _ (X7 b _ _) _ _ s;rw[<-Tu];refine UM _ (λD r G=>r.1=OI/\G=s/\∀v∈D,∃n t,v=S6 n t) _ ?_ ?_ _ _ ⟨rfl,rfl,items_int i⟩
 .rintro v D r G ⟨c,rfl,a⟩
  obtain⟨n,t,rfl⟩:=a v OU;unfold W2;refine OG (OJ ?_);simp only[Ph,Qj];exact OJ ⟨rfl,rfl,λu d=>a u (OO _ d)⟩
 .rintro⟨r1,j⟩ G ⟨c,rfl,_⟩
  simp only at c;subst c;exact OJ h
theorem EV(e:(gt prog w).is s.heap k x)(h:Q OL s):O8 (Px prog w) A (hashByValue 8 (.ref x)) Q E s:=by
 have f:=XA (s:=s) e;obtain⟨o,b,n,g,j,K,i⟩:=e;unfold hashByValue;refine OG (So f F.slot_tuple_hash.lookup ?_);simp only;refine OG (Rk g K ?_);refine OG ?_;show O8 _ _ (X7 b _ _) _ _ s;rw[<-Tu];refine UM _ (λD r G=>r.1=OI/\G=s/\∀v∈D,∃n t,v=S6 n t) _ ?_ ?_ _ _ ⟨rfl,rfl,items_int i⟩
 .rintro v D r G ⟨c,rfl,a⟩
  obtain⟨n,t,rfl⟩:=a v OU;unfold hashByValue;refine OG (OJ ?_);simp only[R0,Ph,Qj];exact OJ ⟨rfl,rfl,λu d=>a u (OO _ d)⟩
 .rintro⟨r1,l⟩ G ⟨c,rfl,_⟩
  simp only at c;subst c;exact OJ h
theorem JZ(f:(gt prog w).is s.heap k x):∀(l:a0p) {Q:Bool->OV->Prop},(∀y∈l,(gt prog w).is s.heap y.1 y.2)->Q OQ s->O8 (Px prog w) A (W4 (.ref x) (l.map λy=>Pa y.2)) Q E s:=by
 intro l Q g h;unfold W4;refine OG ?_;refine UM _ (λD r G=>r.1=OI/\G=s/\∃b:a0p,D=b.map (λy=>Pa y.2)/\∀y∈b,(gt prog w).is s.heap y.1 y.2) _ ?_ ?_ _ _ ⟨rfl,rfl,l,rfl,g⟩
 .rintro v D r G ⟨d,rfl,b,e,a⟩
  cases b with
  |nil=>cases e
  |cons y b=>
   cases e;have M:=a y OU;have K:(OI:a0C)=OI/\G=G/\∃c:a0p,b.map (λy=>Pa y.2)=c.map (λy=>Pa y.2)/\∀y∈c,(gt prog w).is G.heap y.1 y.2:=⟨rfl,rfl,b,rfl,λu i=>a u (OO y i)⟩;by_cases q:x==y.2
   .simp only[q,Bool.true_or,Qq]
    exact OJ K
   .simp only[q,Bool.false_or,carriedByValue,UU,Ph,Qj]
    refine OG ((gt prog w).quiet f ?_);simp only[R0,Ph,Qj];refine OG ((gt prog w).quiet M ?_);simp only[R0,Ph,Qj];refine OG (tQ f ?_);simp only[Ph,Qj];refine OG (tQ M ?_);simp only[Ph,Qj];exact OJ K
 .rintro⟨r1,j⟩ G ⟨d,rfl,_⟩
  simp only at d;subst d;exact OJ h
theorem yK{o:PF}{K:a0x}{t:Qp}{D:a0p}(hu:A.units<US)(ho:s.heap.get? a=My o)(hd:o.data= .set K ep t)
  (H:K.toList=D.map λx=>(hsh prog w x.1,Pa x.2)) (hx:∀x∈D,(gt prog w).is s.heap x.1 x.2) (T:Tb t (D.map λx=>hsh prog w x.1)) (hk:(gt prog w).is s.heap k b)
  (he:e<10*turns t.mask) (R:¬Lv t (eg t e (t.probeStart (hsh prog w k))).j) (ha:∀m<e,Lv t (eg t m (t.probeStart (hsh prog w k))).j)
  (q1:k∈D.map (·.1)->Q (.there OI) s) (q2:k∉D.map (·.1)->Q (.free (eg t e (t.probeStart (hsh prog w k))).j OQ) s):
  ∀(n c m:Nat) (st:Option Probe),e=m+n->n<c->st.getD (t.probeStart (hsh prog w k))=eg t m (t.probeStart (hsh prog w k))->(∀g<m,∀(i:Nat) x,t.place[i]?=My (eg t g (t.probeStart (hsh prog w k))).j->D[i]?=My x->x.1≠k)->
   O8 (Px prog w) A (setSearchFrom a (.ref b) (hsh prog w k) OL c st) Q E s:=by
 have ac:K.size=D.length:=by rw[<-O9,H,OH]
 have U:t.fits K.size=OL:=T.fits (by rw[OH,ac]);have l:∀i:Nat,K[i]?=(D[i]?).map λx=>(hsh prog w x.1,Pa x.2):=λi=>by rw[<-Qd,H,OS]
 have gw:t.gaveWay=OQ:=by
  have:=T.km.odd;unfold SetTable.gaveWay;rw[VN];lia
 intro n
 induction n using Nat.strongRecOn with
 |_ n ih=>
  intro c m st em al ad p;cases c with
  |zero=>contradiction
  |succ c=>
   unfold setSearchFrom;refine OG (Rg ho hd U ?_)
   dsimp only
   rw[ad,gw];simp only[Ph,Qj];have v:=lf m (m3 t (hsh prog w k));have M:∀n',eg t n' (eg t m (t.probeStart (hsh prog w k)))=eg t (m+n') (t.probeStart (hsh prog w k)):=λn'=>(me t m n' _).symm;have G:∀{i O j:Nat},t.place[i]?=My j->t.place[O]?=My j->i=O:=λ{i O j} u C=>by
    rcases T6 i O with q|q|q
    .exact Pp (T.rs i O j j q u C) (Qg j)
    .exact q
    .exact Pp (T.rs O i j j q C u) (Qg j)
   split
   .rename_i W heq
    obtain⟨g,ae,r,d⟩:=qK heq T v (e:=n) (by lia) (by rw[M,<-em];exact R);rcases d with⟨X,I⟩|⟨i,P,am,I⟩
    .cases I
     have Y:g=n:=by
      rcases Wo g n with q|q
      .rw[M]at X
       exact Pp (ha (m+g) (by lia)) X
      .lia
     subst Y;refine OJ ?_;rw[M,<-em];refine q2 λZ=>?_;obtain⟨x,af,J⟩:=OR.mp Z;obtain⟨B,ag,ah⟩:=V3 af;have h:D[B]?=My x:=by rw[ON ag,ah]
     have L:B<t.place.size:=by have:=T.sz;rw[OH]at this;lia
     obtain⟨F,a1,a2⟩:=T.rch B (hsh prog w k) t.place[B] (by rw[OS,h,<-J];rfl) (getElem?_pos t.place B L);have an:F<e:=by
      rcases T6 F e with q|q|q
      .exact q
      .subst q
       exact Pp ⟨B,by rw[a1];exact getElem?_pos t.place B L⟩ R
      .exact Pp (a2 e q) R
     have V:t.place[B]?=My (eg t F (t.probeStart (hsh prog w k))).j:=by rw[a1];exact getElem?_pos t.place B L
     by_cases q:F<m
     .exact p F q B x V h J
     .obtain⟨i,u,C⟩:=r (F-m) (by lia)
      rw[M,show m+(F-m)=F by lia]at u;have:=G u V;subst this;refine C ?_;show(K[i]?.map (·.1)).getD 0=_;rw[l,h,<-J];rfl
    .cases I
     have N:i<D.length:=by
      have u:=(Qf.mp P).1;have:=T.sz;rw[OH]at this;lia
     have h:D[i]?=My D[i]:=ON N;have aa:K[i]?=My (hsh prog w D[i].1,Pa D[i].2):=by rw[l,h];rfl
     have ai:=hx D[i] (Qr N);rw[M]at P;simp only;have el:(Q2 (λx=>x.snd) (Array.filter (λx=>x.fst==hsh prog w k) K).toList)=(D.filter λy=>hsh prog w y.1==hsh prog w k).map λy=>Pa y.2:=by
      rw[Array.toList_filter,H,WO,O0];rfl
     rw[el];have ab:∀{Q':Bool->OV->Prop},Q' OQ s->O8 (Px prog w) A (W4 (.ref b) ((D.filter λy=>hsh prog w y.1==hsh prog w k).map λy=>Pa y.2)) Q' E s:=λhq=>JZ hk _ (λy hy=>hx y (VI.mp hy).1) hq;have sm:t.sameMemory t.moves t.mask=My OL:=by unfold sameMemory;simp
     have sl:t.slot (eg t (m+g) (t.probeStart (hsh prog w k))).j= .live i:=qA T.rs P;cases ak:t.led
     all_goals simp only[VQ,R0,Ph,Qq,Qj,M,aa]
     all_goals try refine OG (ab ?_)
     all_goals try simp only[Ph,Qj]
     all_goals
      refine OG (QG ((gt prog w).eqBool hu ai hk (OG (Rg ho hd U ?_))));simp only[Tq];by_cases q:D[i].1=k
      .rw[OZ (Pf q)]
       exact OJ (q1 (OR.mpr ⟨D[i],Qr N,q⟩))
      .rw[OY (by simpa using q)]
       simp only[sm,Qq,sl,aa];refine OG ?_;unfold isSame;simp only[Zo,Qq];refine OJ (OG (OJ ?_));simp only[Qq];rw[OY (by simpa using q)];have Y:g<n:=by
        rcases Wo g n with z|z
        .exact z
        .obtain rfl:g=n:=by lia
         rw[<-em]at P;exact Pp ⟨i,P⟩ R
       refine ih (n-(g+1)) (by lia) c (m+g+1) _ (by lia) (by lia) rfl λS ao i2 x2 u C z=>?_;by_cases q1:S<m
       .exact p S q1 i2 x2 u C z
       .by_cases q2:S=m+g
        .subst q2
         have:=G P u;subst this;rw[h]at C;cases C;exact q z
        .obtain⟨i3,h3,h4⟩:=r (S-m) (by lia)
         rw[M,show m+(S-m)=S by lia]at h3;have:=G h3 u;subst this;refine h4 ?_;show(K[i3]?.map (·.1)).getD 0=_;rw[l,C,<-z];rfl
   .rename_i hno
    have aj:∀f:Nat->Int,(∀W,t.probe f (hsh prog w k) (eg t m (t.probeStart (hsh prog w k)))=My W->False)->False:=λf U=>by
     obtain⟨g,ae,r,d⟩:=qK (f:=f) rfl T v (e:=n) (by lia) (by rw[M,<-em];exact R);rcases d with⟨_,I⟩|⟨i,_,_,I⟩
     .exact U _ I
     .exact U _ I
    exact(aj _ hno).elim
theorem Oe{P:Nat->Prop}:∀n,P n->∃m,m<=n/\P m/\∀k<m,¬P k:=by
 intro n
 induction n using Nat.strongRecOn with
 |_ n ih=>
  intro h;by_cases q:∃k,k<n/\P k
  .obtain⟨k,a,b⟩:=q
   obtain⟨m,d,c⟩:=ih k a b;exact⟨m,by lia,c⟩
  .exact⟨n,OW n,h,λk a b=>q ⟨k,a,b⟩⟩
def qo(prog:PM)(w:P0)(h:Qt)(a:OM)(s:a0p):Prop:=
 ∃o A D t,h.get? a=My o/\o.ExactSet/\o.data= .set A D t/\(A.toList=s.map λx=>(hsh prog w x.1,Pa x.2))/\(s.map (·.1)).Nodup/\(∀x∈s,(gt prog w).is h x.1 x.2)/\(Tb t (s.map λx=>hsh prog w x.1))/\t.plain=OL/\t.led=!(w.params.followText "set-order")
theorem nP{h s:Qt}{o:PF}{m p t}(x:(gt prog w).is h k b)(i:h.get? a=My o)(A:o.data= .set m p t)(hs:PQ a h s):(gt prog w).is s k b:=by
 obtain⟨g,c,n,e,j,d,l⟩:=x;have f:b≠a:=by
  rintro rfl;obtain rfl:g=o:=PH (e.symm.trans i);rw[A]at d;exact nomatch d
 exact⟨g,c,n,(hs.2 b f).trans e,j,d,l⟩
theorem qw{h:Qt}{o:PF}(c:h.get? a=My o)(w:o.data= .set e d t)(b:a0x)(s:Qp):(h.update a (VJ b s)).get? a=My {o with data:= .set b (d+1) s}:=by
 have:=R8 (VJ b s) c (by rw[putSet_of b s w];rfl);rw[putSet_of b s w]at this;exact this
theorem Lg{t:Qp}(T:Tb t hs)(j:Nat):(t.put j).1.dummies=#[]/\(t.put j).1.place.size=t.place.size+1/\(t.put j).2<=t.place.size:=by
 obtain⟨b1,b2,b3⟩:=iN (j:=j) T.rs;have s:has t.dummies j=OQ:=by unfold has;rw[T.du];rfl
 refine⟨?_,f7 b1,b1⟩;show(if has t.dummies j=OL then _ else t.dummies)=#[];rw[s,OY O4,T.du]
theorem Kd{w D:Type}{A:List w}{s:Array D}{f:w->D}(e:s.toList=A.map f){p:Nat}(c:p<=s.size)(x:w):(insertAt s p (f x)).toList=(A.take p++x::A.drop p).map f:=by
 unfold insertAt;simp only[RQ,TN,XR];have a:(s.toList.extract 0 p)=s.toList.take p:=by simp[List.extract]
 have b:(s.toList.extract p s.size)=s.toList.drop p:=by
  simp only[List.extract];rw[QJ (by simp)]
 rw[a,b,e,Pw,Pc,V5,Ul,O3];rfl
theorem Nr{D:a0p}(hu:A.units<US)(S:qo prog w s.heap a D)(hk:(gt prog w).is s.heap k b)(hn:D.length<63)
  (h:∀K q,PQ a s.heap K->qo prog w K a q->(k∈D.map (·.1)->q=D)->(k∉D.map (·.1)->q.Perm ((k,b)::D))->Q (decide (k∉D.map (·.1))) {s with heap:=K}):
  O8 (Px prog w) A (setAddHashed a (.ref b) (hsh prog w k)) Q E s:=by
 have S0:=S;obtain⟨o,G,ep,t,R,W,V,U,af,hx,T,hp,I⟩:=S;have C:G.size=D.length:=by rw[<-O9,U,OH]
 have hf:t.fits G.size=OL:=T.fits (by rw[OH,C]);have X:t.place.size=D.length:=by rw[T.sz,OH]
 obtain⟨e0,ag,ah⟩:=T.free (m3 t (hsh prog w k));obtain⟨e,aj,hl,Y⟩:=Oe (P:=λe=>¬Lv t (eg t e (t.probeStart (hsh prog w k))).j) e0 ah;have ha:∀m<e,Lv t (eg t m (t.probeStart (hsh prog w k))).j:=λm M=>Classical.not_not.mp (Y m M);have ak:=T.km.odd;unfold setAddHashed setAddHashedIn;refine QG (OG (Rg R V hf ?_));have hb:byScan (Pa b) G=OQ:=rfl;simp only[hb,Ph,Qj];refine OG ?_;unfold setSearch;refine yK (e:=e) hu R V U hx T hk (by lia) hl ha (λM=>?_) (λM=>?_) e 100000 0 OI (by lia) (by unfold turns at ag;lia) rfl (λm' ai=>Pp ai (Sj _))
 .refine OJ ?_
  have:=h s.heap D (PQ.refl a s.heap) S0 (λ_=>rfl) (λz=>Pp M z);rw[PY (λz=>z M)]at this;exact this
 .have hQ:∀K q,PQ a s.heap K->qo prog w K a q->q.Perm ((k,b)::D)->Q OL {s with heap:=K}:=λK q h1 Z h3=>by
   have:=h K q h1 Z (λz=>Pp z M) (λ_=>h3);rwa[Pf M]at this
  simp only;refine OG (Rg R V hf ?_);generalize hj:(eg t e (t.probeStart (hsh prog w k))).j=j at hl;obtain⟨pd,ps,pl⟩:=Lg T j;generalize v:t.put j=tp at pd ps pl;obtain⟨t1,p⟩:=tp;simp only at pd ps pl⊢;have l:t1.plain=OL:=by
   have:(t.put j).1.plain=t.plain:=rfl;rw[v]at this;rw[this,hp]
  have J:t1.led=t.led:=by
   have:(t.put j).1.led=t.led:=rfl;rw[v]at this;exact this
  have u:t1.mask=t.mask:=by
   have:(t.put j).1.mask=t.mask:=rfl;rw[v]at this;exact this
  rw[l];simp only[Qq];refine OG (EV hk ?_);simp only[Qq];have L:=Kd (f:=λx:a0e×OM=>(hsh prog w x.1,Pa x.2)) U (p:=p) (by lia) (k,b);have y:(insertAt G p (hsh prog w k,Pa b)).size=G.size+1:=f7 (by lia);have d:(D.take p++(k,b)::D.drop p).Perm ((k,b)::D):=by
   have:=List.perm_middle (a:=(k,b)) (l₁:=D.take p) (l₂:=D.drop p);rwa[PL]at this
  have nd1:((D.take p++(k,b)::D.drop p).map (·.1)).Nodup:=by
   refine(d.map (·.1)).nodup_iff.mpr ?_;rw[Pc,Qn];exact⟨M,af⟩
  refine OG (wpAny_storeSet_of R V ?_ (by rw[y,Q6];lia));have F:=QK s.heap a (VJ (insertAt G p (hsh prog w k,Pa b)) t1);have g1:=qw R V (insertAt G p (hsh prog w k,Pa b)) t1;have aa:∀x∈D.take p++(k,b)::D.drop p,(gt prog w).is (s.heap.update a (VJ (insertAt G p (hsh prog w k,Pa b)) t1)) x.1 x.2:=λx hx'=>by
   rcases O6.mp (d.mem_iff.mp hx')with rfl|hx'
   .exact nP hk R V F
   .exact nP (hx x hx') R V F
  by_cases r:t1.tooFull=OL
  .simp only[r,VQ,Vl,Qq]
   have fu:t1.fill*5≥t1.mask*3:=by unfold tooFull at r;exact QP r
   have fe:t1.fill=D.length+1:=by unfold SetTable.fill;rw[pd,ps,X];rfl
   have al:=T.nf;have f1:t1.fits (insertAt G p (hsh prog w k,Pa b)).size=OL:=by
    unfold WU;rw[y,fe,ps,X,C,u];simp;lia
   have wm:Mk (sizeAbove (grown (G.size+1))-1)/\(G.size+1)*5<(sizeAbove (grown (G.size+1))-1)*3/\sizeAbove (grown (G.size+1))<=128:=by
    rw[fe,u]at fu;rw[C];rcases T.km with z|z|z
    .have:D.length=4:=by lia
     rw[this];exact⟨.inr (.inl (by decide)),by decide,by decide⟩
    .have:D.length=18:=by lia
     rw[this];exact⟨.inr (.inr (by decide)),by decide,by decide⟩
    .lia
   have B:(Array.map (λx=>x.fst) (insertAt G p (hsh prog w k,Pa b))).size=G.size+1:=by rw[Array.size_map,y]
   obtain⟨t2,c,er,op,T2,ab,H⟩:=yZ (t:=t1) (hs:=(insertAt G p (hsh prog w k,Pa b)).map (·.1)) (wanted:=grown (G.size+1)) wm.1 (by rw[B];exact wm.2.1);refine OG ?_;unfold setRelay;refine OG (Rg g1 rfl f1 ?_);simp only;rw[OY (by rw[Q6];lia)];rw[er];generalize am:insertAt G p (hsh prog w k,Pa b)=es1 at*;generalize an:D.take p++(k,b)::D.drop p=xs1 at*;have l1:xs1.length=G.size+1:=by rw[d.length_eq,Pb,C]
   have N:∀i,i<xs1.length->es1[i]?=My (hsh prog w (xs1.getD i (k,b)).1,Pa (xs1.getD i (k,b)).2):=λi O=>by
    rw[<-Qd,L,OS,ON O,O5,ON O];rfl
   have om:∀i∈c.toList,i<xs1.length:=λi O=>by
    have:=Pn.mp (op.mem_iff.mp O);rw[B]at this;lia
   have ac:(c.filterMap λx=>es1[x]?).toList=(c.toList.map λi=>xs1.getD i (k,b)).map λx=>(hsh prog w x.1,Pa x.2):=by
    rw[Array.toList_filterMap,uB (g:=λi=>(hsh prog w (xs1.getD i (k,b)).1,Pa (xs1.getD i (k,b)).2)) λi O=>N i (om i O),O0];rfl
   have n:(c.toList.map λi=>xs1.getD i (k,b)).Perm xs1:=by
    refine(op.map _).trans (Yo ?_);rw[B,<-l1];refine Td (by simp) λi h1 Z=>?_;rw[Te,UW,O5,ON Z];rfl
   have ad:(c.filterMap λx=>es1[x]?).size=es1.size:=by
    rw[<-O9,ac,OH,n.length_eq,l1,y]
   refine OG ?_;show O8 _ _ (if((c.filterMap λx=>es1[x]?).size !=es1.size)=OL then _ else _) _ _ _;rw[OY (by rw[ad];simp)];refine OJ ?_;refine wpAny_storeSet_of g1 rfl ?_ (by rw[ad,y,Q6];lia);have ae:=QK (s.heap.update a (VJ es1 t1)) a (VJ (c.filterMap λx=>es1[x]?) t2);have g2:=qw g1 rfl (c.filterMap λx=>es1[x]?) t2;refine OJ (hQ _ (c.toList.map λi=>xs1.getD i (k,b)) (F.trans ae) ⟨_,_,_,t2,g2,W,rfl,ac,?_,λx hx'=>?_,?_,by rw[H,l],by rw[ab,J,I]⟩ (n.trans d))
   .exact(n.map (·.1)).nodup_iff.mpr nd1
   .exact nP (aa x (n.mem_iff.mp hx')) g1 rfl ae
   .have eh:(c.toList.map λi=>xs1.getD i (k,b)).map (λx=>hsh prog w x.1)=c.toList.map λi=>(es1.map (·.1)).getD i 0:=by
     rw[O0];refine PU λi O=>?_;have h1:=N i (om i O);have Z:(es1.map (·.1))[i]?=My (hsh prog w (xs1.getD i (k,b)).1):=by rw[Array.getElem?_map,h1];rfl
     have h3:=(Qf.mp Z);obtain⟨h4,h5⟩:=h3;simp only[VO];rw[<-h5];simp[Vx,h4];lia
    rw[eh];exact T2
  .simp only[r,VQ,Bool.and_false,Qj,Tq,Ph]
   refine OJ (hQ _ (D.take p++(k,b)::D.drop p) F ⟨_,_,_,t1,g1,W,rfl,L,nd1,aa,?_,l,by rw[J,I]⟩ d);have nf:(t.place.size+1)*5<t.mask*3:=by
    have:¬(t1.fill*5≥t1.mask*3):=by
     intro z;exact r (by unfold tooFull;exact Pf z)
    unfold SetTable.fill at this;rw[pd,ps,u]at this;simp at this;omega
   have:=(T.put (h:=hsh prog w k) hl hj (by exact ha) nf).2.2.2.2;rw[v]at this;rw[Pw,Pc,V5,Ul];exact this
end
namespace F2
theorem si_next:Slot "set_iterator" "__next__" "set_iterator.__next__":= .of (owner:="set_iterator") (n:="__next__") (by rw[XD,V7];kernel_rfl) (by decide +kernel) (by decide +kernel) (by decide +kernel)
  (by first|exact .inl (by decide +kernel)|exact .inr (by decide +kernel)) (by rw[Ur];kernel_rfl)
theorem si_iter:Slot "set_iterator" "__iter__" "set_iterator.__iter__":= .of (owner:="set_iterator") (n:="__iter__") (by rw[XD,V7];kernel_rfl) (by decide +kernel) (by decide +kernel) (by decide +kernel)
  (by first|exact .inl (by decide +kernel)|exact .inr (by decide +kernel)) (by rw[Ur];kernel_rfl)
theorem ent_next:entryFor table "set_iterator.__next__"=My Builtin.«set_iterator.__next__»:=entryFor_of_tree (by kernel_rfl)
theorem ent_iter:entryFor table "set_iterator.__iter__"=My Builtin.«dict_keyiterator.__iter__»:=X6 (id':="dict_keyiterator.__iter__") (by kernel_rfl) rfl (by decide +kernel) (by kernel_rfl)
theorem ent_set_iter:entryFor table "set.__iter__"=My Builtin.«frozenset.__iter__»:=X6 (id':="frozenset.__iter__") (by kernel_rfl) rfl (by decide +kernel) (by kernel_rfl)
theorem args_next(a:OP):argsOk "set_iterator.__next__" ⟨[a],[]⟩:=by unfold argsOk;kernel_rfl
theorem args_iter(a:OP):argsOk "set_iterator.__iter__" ⟨[a],[]⟩:=by unfold argsOk;kernel_rfl
end F2
theorem pi{D:Type}:∀{l:List D} {i:Nat} (h:i<l.length),(l[i]::l.eraseIdx i).Perm l
 |[],i,h=>Pp h (Sj i)
 |a::l,0,h=> .refl _
 |a::l,i+1,h=>by
  show(l[i]'(by simpa using h)::a::l.eraseIdx i).Perm (a::l);exact(Ug.swap _ _ _).trans ((pi (by simpa using h)).cons a)
theorem vL{D:Type}(next:Nat->Nat):∀(fuel k:Nat) (left:List D) (a:Array D),left.length<=fuel->(W3 next fuel k left a).toList.Perm (a.toList++left)
 |0,k,left,a,h=>by
  have:left=[]:=Rm.mp (by lia);subst this;unfold W3;rw[PN]
 |fuel+1,k,left,a,h=>by
  unfold W3;cases left with
  |nil=>simp
  |cons c l0=>
   have b:next k % (c::l0).length<(c::l0).length:=Xk _ (by simp)
   rw[ON b];simp only;refine(vL next fuel (k+1) _ _ (by rw[List.length_eraseIdx_of_lt b];exact Nat.le_of_succ_le_succ ‹_›)).trans ?_
   rw[TN,O3];exact Xa _ (pi b)
theorem zd{D:Type}(next:Nat->Nat)(xs:Array D):(Xp next xs).toList.Perm xs.toList:=by
 unfold Xp;refine(vL next xs.size 0 xs.toList #[] (by simp)).trans ?_
 simp
section
variable{prog:PM}{w:P0}{A:P7}{E:a0d}{s:OV}
noncomputable def dP(w:P0)(a:OM)(ep:Nat)(s:a0x):a0x:=if w.params.followText "set-order"=OL then Xp (w.params.setOrder a ep) s else s
theorem jX(w:P0)(a:OM)(ep:Nat)(s:a0x):(dP w a ep s).toList.Perm s.toList:=by
 unfold dP;split
 .exact zd _ _
 .exact .refl _
structure L_ (w:P0) (h:Qt) (I a:OM) (es:a0x) (ep:Nat) (t:Qp) (i:Nat):Prop where
 st:∃o,h.get? a=My o/\o.data= .set es ep t
 it:∃(o:PF) (sl:Nat),h.get? I=My o/\o.cls= .type "set_iterator"/\o.data= .fields #[.int sl 0,.int i 0,.ref a,.int es.size 0,.int ep 0]/\(w.params.followText "set-order"=OQ->below t.place sl=i)
theorem lI{M:Ww}(h:Q (M.w.params.followText "set-order") s):O8 M A setsByText Q E s:=by
 unfold setsByText;exact OG (UL (OJ h))
theorem zA{D:a0x}{t:Qp}{e:Int×OP}(T:Tb t Y)(h:t.fits D.size=OL)(H:t.plain=OL)(J:t.led=!(w.params.followText "set-order"))(x:L_ w s.heap I a D X t i)(k:I≠a)(l:(dP w a X D)[i]?=My e)
  (L:∀M,L_ w M I a D X t (i+1)->PQ I s.heap M->Q (My e.2) {s with heap:=M}):O8 (Px prog w) A (S7 (.ref I)) Q E s:=by
 obtain⟨⟨N,b,c⟩,o,V,n,u,G,p⟩:=id x;have y:s.TypeIs (.ref I) "set_iterator":=⟨o,n,u⟩;unfold S7;refine OG (SD (wpAny_callSpecial?_slot (name:=Q5 "__next__") y F2.si_next (P3 F2.si_next y F2.ent_next ?_ (F2.args_next _))));unfold Builtin.«set_iterator.__next__»;refine OG (OJ ?_);refine OG (Ut n G ?_);simp only;refine OG (Wr b c h ?_);simp only[SS,Ph,Qj];refine OG ?_;simp only[Qv]
 have d:∀K:Nat,(w.params.followText "set-order"=OQ->below t.place K=i+1)->O8 (Px prog w) A.in1 (do
    Wg (Pa I) 0 (SW K)
    Wg (Pa I) 1 (SW (i+1))
    ret e.2) (λd S=>∃v,d=Fin.done (Flow.ret v)/\O8 (Px prog w) A (Ry (My v)) Q E S) (λe S=>O8 (Px prog w) A (do
     if(<-WH e (Sm "StopIteration"))=OL then Ry OI else throw e) Q E S) s:=λK r=>by
  refine OG (SN n G (by simp) ?_);have B:(s.heap.update I (XB (·.setIfInBounds 0 (SW K)))).get? I=My _:=R8 _ n (Uh (Q3 G _));refine OG (SN B (Q3 G _) (by simp) ?_);refine OJ ⟨_,rfl,OJ (L _ ⟨⟨N,?_,c⟩,⟨_,K,R8 _ B (Uh (Q3 (Q3 G _) _)),?_,?_,r⟩⟩ ((QK ..).trans (QK ..)))⟩
  .rw[Rr _ _ _ _ (Ne.symm k),Rr _ _ _ _ (Ne.symm k)];exact b
  .rw[Vp,Vp];exact u
  .rw[Q3 (Q3 G _)];simp[SW]
 unfold setNext;refine OG (Rg b c h (OG (lI ?_)));have C:(Px prog w).w=w:=rfl;rw[C];cases q:w.params.followText "set-order"
 .have f:dP w a X D=D:=by unfold dP;rw[q];rfl
  rw[f]at l;have O:=p q;have R:=(Qf.mp l).1;simp only[Ph,Qj];have P:t.place.size=D.size:=by
   unfold WU at h;simp only[PP,Tl,PX]at h;exact h.1
  rw[OY (λz=>by
   have F:(!t.plain&&decide (D.size>1))=OL:=z;rw[H]at F;cases F)]
  refine OG ?_;show O8 _ _ (if(!t.led&&!D.isEmpty)=OL then _ else _) _ _ _;rw[OY (by rw[J,q];exact O4)];refine OJ (OJ ?_);have g:t.place[i]?=My t.place[i]:=getElem?_pos t.place i (by omega);rw[O,l,g];simp only;refine d _ λ_=>?_;obtain⟨b1,b2,b3⟩:=iN (j:=t.place[i]+1) T.rs;rcases T6 (below t.place (t.place[i]+1)) (i+1)with z|z|z
  .have:=b3 i _ (Nat.le_of_succ_le_succ ‹_›) g
   lia
  .exact z
  .have m:t.place[i+1]?=My t.place[i+1]:=getElem?_pos t.place (i+1) (by omega)
   have U:=b2 (i+1) _ z m;have W:=T.rs i (i+1) _ _ (Um _) g m;lia
 .have f:dP w a X D=Xp (w.params.setOrder a X) D:=by unfold dP;rw[q];rfl
  rw[f]at l;simp only[Qq,SS,Ph,Qj];refine OG ?_;unfold setWalk;refine OG (Rg b c h (OG (lI ?_)));rw[C,q];simp only[Qq];refine OG (UL (OJ ?_));refine OJ ?_;rw[show((Px prog w).w.params.setOrder a X)=w.params.setOrder a X from rfl,l];simp only[Rt];exact d _ λz=>by rw[q]at z;cases z
theorem DA{D:a0x}{t:Qp}(r:A.handled=OI)(T:Tb t J)(g:t.fits D.size=OL)(u:t.plain=OL)(y:t.led=!(w.params.followText "set-order"))(x:L_ w s.heap I a D H t D.size)
  (B:∀K,VS I s.heap K->Q OI {s with heap:=K}):O8 (Px prog w) A (S7 (.ref I)) Q E s:=by
 obtain⟨⟨F,d,f⟩,o,S,h,C,M,i⟩:=id x;have l:s.TypeIs (.ref I) "set_iterator":=⟨o,h,C⟩;unfold S7;refine OG (SD (wpAny_callSpecial?_slot (name:=Q5 "__next__") l F2.si_next (P3 F2.si_next l F2.ent_next ?_ (F2.args_next _))));unfold Builtin.«set_iterator.__next__»;refine OG (OJ ?_);refine OG (Ut h M ?_);simp only;refine OG (Wr d f g ?_);simp only[SS,Ph,Qj];refine OG ?_;simp only[Qv]
 have c:O8 (Px prog w) A.in1 (do
    Wg (Pa I) 2 P4
    let e <-Xn (Sm "StopIteration") []
    (Ye e:X0 Fin)) (λc G=>∃v,c=Fin.done (Flow.ret v)/\O8 (Px prog w) A (Ry (My v)) Q E G) (λe G=>O8 (Px prog w) A (do
     if(<-WH e (Sm "StopIteration"))=OL then Ry OI else throw e) Q E G) s:=by
  refine OG (SN h M (by simp) ?_);refine OG ?_;simp only[Xn,newTuple];refine OG (Qi ?_ (by size_fits));refine OG (m:=SM _ _) (SU (a:=P4) (by first|rfl|(simp only[SM];rfl)) ?_)
  refine Qi ?_ (by size_fits);simp only[Ye];refine OG (WB ?_);rw[show A.in1.handled=OI from r];refine OG (OJ (Xx ?_));refine OG (Rq (T:="StopIteration") (b:=OL) ⟨_,O7 _ rfl,rfl⟩ Wf ?_);exact OJ (B _ (((QK ..).extBut.push _).push _))
 unfold setNext;refine OG (Rg d f g (OG (lI ?_)));have n:(Px prog w).w=w:=rfl;rw[n];have j:(dP w a H D).size=D.size:=by rw[<-O9,(jX w a H D).length_eq,O9]
 cases q:w.params.followText "set-order"
 .simp only[Ph,Qj]
  rw[OY (λz=>by
   have p:(!t.plain&&decide (D.size>1))=OL:=z;rw[u]at p;cases p)]
  refine OG ?_;show O8 _ _ (if(!t.led&&!D.isEmpty)=OL then _ else _) _ _ _;rw[OY (by rw[y,q];exact O4)];refine OJ (OJ ?_);rw[i q,RW (OW _)];exact c
 .have k:dP w a H D=Xp (w.params.setOrder a H) D:=by unfold dP;rw[q];rfl
  simp only[Qq,SS,Ph,Qj];refine OG ?_;unfold setWalk;refine OG (Rg d f g (OG (lI ?_)));rw[n,q];simp only[Qq];refine OG (UL (OJ ?_));refine OJ ?_;rw[show((Px prog w).w.params.setOrder a H)=w.params.setOrder a H from rfl,<-k,RW (by rw[j];exact OW _)];exact c
theorem L_.at{h h':Qt}(x:L_ w h I a es ep t i)(k:∀b,b=I\/b=a->∀o,h.get? b=My o->h'.get? b=My o):L_ w h' I a es ep t i:=by
 obtain⟨⟨e,c,d⟩,o,s,f,r⟩:=x;exact⟨⟨e,k a (.inr rfl) e c,d⟩,o,s,k I (.inl rfl) o f,r⟩
theorem BR(q:A.handled=OI){D:a0x}{t:Qp}(T:Tb t x)(l:t.fits D.size=OL)(m:t.plain=OL)(n:t.led=!(w.params.followText "set-order"))(f:I≠a):
  Walks prog w A I [I,a] [I] D.size (λi v=>∃e,(dP w a ep D)[i]?=My e/\v=e.2) (λi h=>L_ w h I a D ep t i) where
 sub:=λb c=>by simp at c;simp[c]
 frame:=λ_ _ _ G r=>G.at λb c o e=>r b (by simpa using c) o e
 item:=λi s Q E J G d=>by
  have u:(dP w a ep D).size=D.size:=by rw[<-O9,(jX w a ep D).length_eq,O9]
  have p:(dP w a ep D)[i]?=My (dP w a ep D)[i]:=getElem?_pos _ i (by omega);exact zA T l m n G f p λK g M=>d _ K s.toks ⟨_,p,rfl⟩ g λb o c e=>M.extBut b o (λh=>c (by simp[h])) e
 done:=λs Q E G d=>DA q T l m n G λK j=>d K s.toks λb o c e=>j b o (λh=>c (by simp[h])) e
 self:=λi s Q E G d=>by
  obtain⟨⟨L,y,B⟩,o,S,C,F,V,H⟩:=G;have k:s.TypeIs (.ref I) "set_iterator":=⟨o,C,F⟩;refine Uu k F2.si_iter (P3 F2.si_iter k F2.ent_iter ?_ (F2.args_iter _));show O8 _ _ (ret (.ref I)) _ _ s;exact OJ ⟨_,rfl,"set_iterator",_,k,F2.si_next.lookup,d⟩
end
end L2.Hs
namespace L2.Hs
open PySem.SetTable
section
variable{prog:PM}{w:P0}{A:P7}{E:a0d}{s:OV}
theorem DY{o:PF}{D:a0x}{t:Qp}(b:s.heap.get? a=My o)(f:o.cls= .type "set")(G:o.data= .set D ep t)(c:t.fits D.size=OL)(g:t.plain=OL)
  (h:Q (.ref s.heap.objs.size) {s with heap:=s.heap.push {cls:= .type "set_iterator",data:= .fields #[.int (0:Nat) 0,.int (0:Nat) 0,.ref a,.int D.size 0,.int ep 0]}}):O8 (Px prog w) A (VZ (.ref a)) Q E s:=by
 have d:s.TypeIs (.ref a) "set":=⟨o,b,f⟩;refine Uu d F.slot_set_iter (P3 F.slot_set_iter d F2.ent_set_iter ?_ (F.args_set_iter_1 _));unfold Builtin.«frozenset.__iter__»;refine OG (SU (a:=a) rfl ?_);refine OG (OG (Wr b G c (OJ ?_)));refine OG ?_;unfold setDrawn;refine OG (Rg b G c (OG (lI (OJ ?_))));rw[OY (λz=>by
  have e:(!((Px prog w).w.params.followText "set-order")&&(!t.plain&&decide (D.size>1)))=OL:=z;rw[g]at e;simp at e)]
 refine OG (OJ ?_);refine OG (wpAny_setEpoch_of b G c ?_);unfold newFields;refine OG (Qi (OJ ⟨_,rfl,"set_iterator",_,⟨_,O7 _ rfl,rfl⟩,F2.si_next.lookup,?_⟩));exact h
theorem u8{o:PF}{G:a0x}{t:Qp}(hh:A.handled=OI)(R:s.heap.get? a=My o)(B:o.cls= .type "set")(V:o.data= .set G ep t)(T:Tb t hs)(U:t.fits G.size=OL)(X:t.plain=OL)(hl:t.led=!(w.params.followText "set-order"))
  (aa:G.size<=1000)
  (hQ:∀S Y x,(∀b o,s.heap.get? b=My o->S.get? b=My o)->s.heap.objs.size<=S.objs.size->s.toks<=Y->x.Perm (G.toList.map (·.2))->Q x {s with heap:=S,toks:=Y}):O8 (Px prog w) A (collect (.ref a)) Q E s:=by
 unfold collect;refine OG (Yj (U7 YV ?_));rw[Uf YW _];show O8 _ A.in1 (newList []>>=λl=>Wz (.builtin "list.__iadd__" ⟨[l,.ref a],[]⟩)) _ _ s;refine OG (Qi ?_);refine OJ ⟨WA Vt _,U7 F.entry_list_iadd ?_⟩;rw[Uf Vt _];have ha:=Pq R;have g:(s.heap.push {cls:= .type "list",data:= .seq ([]:a0g).toArray}).get? a=My o:=OK _ R;have C:(s.heap.push {cls:= .type "list",data:= .seq ([]:a0g).toArray}).get? s.heap.objs.size=My {cls:= .type "list",data:= .seq ([]:a0g).toArray}:=O7 _ rfl;have r:s.heap.objs.size≠a:=RK ha;have y:SX (.ref s.heap.objs.size) (.ref a)=OQ:=by simp[SX,r]
 have H:(⟨s.heap.push {cls:= .type "list",data:= .seq ([]:a0g).toArray},s.gens,s.drawn,s.toks,s.os⟩:OV).TypeIs (.ref a) "set":=⟨o,g,B⟩;show O8 _ A.in1 (SA (.ref s.heap.objs.size) (.ref a) (.ref s.heap.objs.size)) _ _ _;unfold SA;refine OG (W6 H ?_);rw[OY (by rw[y];decide)];refine OG (DY g B V U X ?_);refine OG (QG ?_);unfold V4;have n:(⟨(s.heap.push {cls:= .type "list",data:= .seq ([]:a0g).toArray}).push {cls:= .type "set_iterator",data:= .fields #[.int (0:Nat) 0,.int (0:Nat) 0,.ref a,.int G.size 0,.int ep 0]},s.gens,s.drawn,s.toks,s.os⟩:OV).TypeIs (.ref a) "set":=⟨o,OK _ g,B⟩;refine OG (So n F.slot_set_len.lookup ?_)
 (generalize u:("set.__len__":String)=id0;wp_delta;rw[show splitId id0=My ("set","__len__")from by subst u;decide +kernel];subst u)
 refine OG (Rq (b:=OL) n (by rw[Ur];kernel_rfl) ?_);rw[OY (by decide)];show O8 _ _ (if _ then _ else _) _ _ _;rw[OZ (by decide)];refine OG (W6 n ?_);refine OJ ?_;rw[OZ (by decide)];refine OG (Ro ?_);have Z:(s.heap.push {cls:= .type "list",data:= .seq ([]:a0g).toArray}).objs.size=s.heap.objs.size+1:=by rw[size_push']
 generalize h:(s.heap.push {cls:= .type "list",data:= .seq ([]:a0g).toArray}).push {cls:= .type "set_iterator",data:= .fields #[.int (0:Nat) 0,.int (0:Nat) 0,.ref a,.int G.size 0,.int ep 0]}=d;have gS:d.get? s.heap.objs.size=My (RV "list" #[] 0):=by rw[<-h];exact OK _ C
 have gI:d.get? (s.heap.objs.size+1)=My {cls:= .type "set_iterator",data:= .fields #[.int (0:Nat) 0,.int (0:Nat) 0,.ref a,.int G.size 0,.int ep 0]}:=by rw[<-h,<-Z];exact O7 _ rfl
 have ga:d.get? a=My o:=by rw[<-h];exact OK _ g
 have p:∀b f,s.heap.get? b=My f->d.get? b=My f:=λb f e=>by rw[<-h];exact OK _ (OK _ e)
 unfold Ws;refine OG (OG (TU gS rfl ?_ (by show 0<=_;decide) (by show 1<=_;decide)));obtain⟨e1,g1⟩:∃e1,(d.update s.heap.objs.size (Qx λD=>D.push P4)).get? s.heap.objs.size=My (RV "list" #[P4] e1):=⟨_,get?_update_seq gS λD=>D.push P4⟩;refine TU g1 rfl ?_ (by show 1<=Pk;decide) (by show 0<=_;decide);obtain⟨J,g2⟩:∃J,((d.update s.heap.objs.size (Qx λD=>D.push P4)).update s.heap.objs.size (Qx λD=>D.pop)).get? s.heap.objs.size=My (RV "list" #[] J):=⟨_,get?_update_seq g1 λD=>D.pop⟩;have c:∀b f,b≠s.heap.objs.size->d.get? b=My f->((d.update s.heap.objs.size (Qx λD=>D.push P4)).update s.heap.objs.size (Qx λD=>D.pop)).get? b=My f:=λb f q e=>by
  rw[Rr _ _ _ _ q,Rr _ _ _ _ q];exact e
 generalize (d.update s.heap.objs.size (Qx λD=>D.push P4)).update s.heap.objs.size (Qx λD=>D.pop)=h4 at g2 c;have L:s.heap.objs.size+1≠a:=RK (Sk ha);have st:L_ w h4 (s.heap.objs.size+1) a G ep t 0:=⟨⟨o,c a o (Ne.symm r) ga,V⟩,_,0,c _ _ (by lia) gI,rfl,rfl,λ_=>by
  have:=iN (j:=0) T.rs;rcases Nat.eq_zero_or_pos (below t.place 0)with z|z
  .exact z
  .have e:=getElem?_pos t.place 0 (by lia)
   have:=this.2.1 0 _ z e;contradiction⟩
 have W:=BR (prog:=prog) (w:=w) (A:=A.in1) (I:=s.heap.objs.size+1) (a:=a) (ep:=ep) hh T U X hl L;show O8 _ _ (Wz _) _ _ _;rw[Z];refine OJ ⟨WA F.plain_extend_loop _,codeAny_extend_loopS W.toS (by rw[Q6];lia) s.heap.objs.size (by simp;omega) _ G.size 0 _ #[] J rfl (Ql _) st g2 (ItemsOf.nil _) λK k c' M v m=>?_⟩;show O8 _ A (load s.heap.objs.size>>=_) _ _ K;refine OG (wpAny_load v ?_);refine OJ ?_;have N:K={s with heap:=K.heap,toks:=K.toks}:=by
  have y:=M.gens;have d:=M.drawn;have h3:=M.os;obtain⟨a1,a2,a3,a4,a5⟩:=K;simp only at y d h3;subst y d h3;rfl
 rw[N];refine hQ _ _ _ (λb f e=>?_) (Qo (Pq v)) M.toks ?_
 .have q:=Pq e
  exact M.heap b f (by simp only[O6,QD,Tz,Zr];exact⟨Qc q,Qc (Sk q)⟩) (c b f (Qc q) (p b f e))
 .refine Ug.trans (Yo ?_) ((jX w a ep G).map (·.2))
  have O:(dP w a ep G).size=G.size:=by rw[<-O9,(jX w a ep G).length_eq,O9]
  refine Td (by rw[O9,OH,O9,O,m.1]) λi q1 q2=>?_;have P:i<k.size:=by simpa using q1
  obtain⟨e,he,hv⟩:=m.2 i _ (getElem?_pos k i P);rw[Sb,hv,Te,Sb];have:=Qf.mp he;obtain⟨z1,z2⟩:=this;rw[z2]
end
end L2.Hs
namespace L2.Hb
section
variable{M:Ww}{A:P7}{E:a0d}{s:OV}
structure Cm (M:Ww) (A:P7) (E:a0d) (s:OV) (κ:W0) (U:P6->Prop) (rk:a0S):Prop where
 lt:∀{x y:P6} {st:QW} {Q:a0C->QW->Prop},U x->U y->kindOf st=κ->Q (My (decide (rk x<rk y))) st->UQ M A E s ((sortPriv% PySem.Builtin.lt) x y) Q st
theorem el{D:QW}(h:a[i]?=My x)(k:Q x D):UQ M A E s ((sortPriv% PySem.Builtin.elem) a i) Q D:=by
 show UQ M A E s (elem' a i) Q D;rw[elem'_eq,h];exact Pt k
theorem lp{G e:Type}{a b:Nat}{f:Nat->G->StateT QW X0 (ForInStep G)}{g:G->StateT QW X0 e}{Q:e->QW->Prop}{c:G}{D:QW}(I:Nat->G->QW->Prop)(P:G->QW->Prop)(h:I a c D)
  (K:∀i c D,a<=i->i<b->I i c D->UQ M A E s (f i c) (λr d=>match r with| .done l=>P l d| .yield l=>I (i+1) l d) D) (j:∀c D,I (Yb a b) c D->P c D) (k:∀c D,P c D->UQ M A E s (g c) Q D):UQ M A E s (X7 [a:b] c f>>=g) Q D:=
 Ps (wpS_mono (wpS_forRange I K j h) k)
variable{κ:W0}{U:P6->Prop}{Z:a0S}
theorem AI(C:Cm M A E s κ U Z){left:Bool}{p:P6}{u:a0v}{D n a:Nat}{G:QW}{Q:a0I->QW->Prop}{bey:Nat->Bool}(H:kindOf G=κ)(J:U p)(W:∀i,i<n->∃x,u[D+i]?=My x/\U x/\bey i=if left then decide (Z x<Z p)else !decide (Z p<Z x))(w:∀i j,i<=j->j<n->bey j=OL->bey i=OL)(L:a<n)
  (h:∀k,k<=n->(∀i,i<k->bey i=OL)->(∀i,k<=i->i<n->bey i=OQ)->Q (My k) G):UQ M A E s ((sortPriv% PySem.Builtin.gallop) left p u D n a) Q G:=by
 have B:∀{i:Nat} {Q:a0C->QW->Prop},i<n->Q (My (bey i)) G->UQ M A E s ((sortPriv% PySem.Builtin.elem) u (D+i)>>=λx=>if left=OL then(sortPriv% PySem.Builtin.lt) x p else(sortPriv% PySem.Builtin.lt) p x>>=λr=>Ry (r.map λx=>!x)) Q G:=λ{i Q} d k=>by
  obtain⟨x,e,N,X⟩:=W i d;refine Ps (el e ?_);rw[X]at k;cases left
  .exact Ps (C.lt J N H (Pt k))
  .exact C.lt N J H k
 have v:∀i j,i<=j->j<n->bey i=OQ->bey j=OQ:=λi j F Y z=>by
  cases e:bey j
  .rfl
  .rw[w i j F Y e]at z;cases z
 refine Ps (B L ?_)
 dsimp only
 let I:Nat->Option a0I×Nat×Nat->QW->Prop:=λi c b=>G=b/\c.1=OI/\c.2.1<c.2.2/\i<c.2.2
 by_cases q:bey a=OL;rw[OZ q];refine lp (λi c b=>I i c b/\a+c.2.1<n/\bey (a+c.2.1)=OL) (λc b=>I 0 c b/\a+c.2.1<n/\bey (a+c.2.1)=OL/\(n-a<=c.2.2\/bey (a+c.2.2)=OQ)) ⟨⟨rfl,rfl,by decide,by decide⟩,L,q⟩ ?_ ?_ ?_
 .rintro i ⟨_,l,o⟩ _ _ d ⟨⟨rfl,rfl,m,t⟩,g,f⟩
  dsimp only at*
  by_cases z:o≥n-a
  .rw[OZ z]
   exact Pt ⟨⟨rfl,rfl,m,by dsimp only;lia⟩,g,f,.inl z⟩
  .rw[OY z]
   refine Ps (B (by lia) ?_)
   dsimp only
   by_cases y:bey (a+o)=OL
   .rw[y]
    exact Pt ⟨⟨rfl,rfl,by dsimp only;lia,by dsimp only;lia⟩,by dsimp only;lia,y⟩
   .rw[TW.mpr y]
    exact Pt ⟨⟨rfl,rfl,m,by dsimp only;lia⟩,g,f,.inr (TW.mpr y)⟩
 .rintro⟨_,l,o⟩ _ ⟨⟨rfl,rfl,m,t⟩,g,f⟩
  dsimp only at*
  exact⟨⟨rfl,rfl,m,by dsimp only;lia⟩,g,f,.inl (by lia)⟩
 rintro⟨_,l,o⟩ _ ⟨⟨rfl,rfl,m,_⟩,g,f,h5⟩
 dsimp only at*
 have O:a+l+1<=a+SC o (n-a):=by lia
 have P:a+SC o (n-a)<=n:=by lia
 have R:∀i,i<a+l+1->bey i=OL:=λi d=>w i (a+l) (Nat.le_of_succ_le_succ ‹_›) g f;have T:∀i,a+SC o (n-a)<=i->i<n->bey i=OQ:=λi d K=>by
  rcases h5 with h5|h5
  .lia
  .exact v _ _ (by lia) K h5
 generalize a+l+1=lo at*;generalize a+SC o (n-a)=d at*
 rotate_left
 rw[OY q];have q:=TW.mpr q;refine lp (λi c b=>I i c b/\c.2.1<=a/\bey (a-c.2.1)=OQ) (λc b=>I 0 c b/\c.2.1<=a/\bey (a-c.2.1)=OQ/\(a+1<=c.2.2\/bey (a-c.2.2)=OL)) ⟨⟨rfl,rfl,by decide,by decide⟩,Ql _,q⟩ ?_ ?_ ?_
 .rintro i ⟨_,l,o⟩ _ _ d ⟨⟨rfl,rfl,m,t⟩,g,f⟩
  dsimp only at*
  by_cases z:o≥a+1
  .rw[OZ z]
   exact Pt ⟨⟨rfl,rfl,m,by dsimp only;lia⟩,g,f,.inl z⟩
  .rw[OY z]
   refine Ps (B (by lia) ?_)
   dsimp only
   by_cases y:bey (a-o)=OL
   .rw[OZ y]
    exact Pt ⟨⟨rfl,rfl,m,by dsimp only;lia⟩,g,f,.inr y⟩
   .rw[OY y]
    exact Pt ⟨⟨rfl,rfl,by dsimp only;lia,by dsimp only;lia⟩,by dsimp only;exact Nat.not_lt.mp ‹_›,TW.mpr y⟩
 .rintro⟨_,l,o⟩ _ ⟨⟨rfl,rfl,m,t⟩,g,f⟩
  dsimp only at*
  exact⟨⟨rfl,rfl,m,by dsimp only;lia⟩,g,f,.inl (by lia)⟩
 rintro⟨_,l,o⟩ _ ⟨⟨rfl,rfl,m,_⟩,g,f,h5⟩
 dsimp only at*
 have O:a+1-SC o (a+1)<=a-l:=by omega
 have P:a-l<=n:=by lia
 have R:∀i,i<a+1-SC o (a+1)->bey i=OL:=λi d=>by
  rcases h5 with h5|h5
  .lia
  .exact w _ _ (by lia) (by lia) h5
 have T:∀i,a-l<=i->i<n->bey i=OQ:=λi d K=>v _ _ d K f;generalize a+1-SC o (a+1)=lo at*;generalize a-l=d at*
 all_goals
  refine lp (λi c b=>G=b/\c.1=OI/\c.2.1<=c.2.2/\c.2.2<=n/\c.2.2-c.2.1+i<=n/\(∀i,i<c.2.1->bey i=OL)/\∀i,c.2.2<=i->i<n->bey i=OQ) (λc b=>G=b/\c.1=OI/\c.2.2<=n/\(∀i,i<c.2.2->bey i=OL)/\∀i,c.2.2<=i->i<n->bey i=OQ) ⟨rfl,rfl,O,P,by dsimp only;lia,R,T⟩ ?_ ?_ ?_
  .rintro i ⟨_,l,o⟩ _ _ d ⟨rfl,rfl,m,t,g,f,h5⟩
   dsimp only at*
   by_cases z:l≥o
   .rw[OZ z]
    exact Pt ⟨rfl,rfl,t,λi d=>f i (by dsimp only at d;exact Pm ‹_› ‹_›),h5⟩
   .rw[OY z]
    refine Ps (B (by lia) ?_)
    dsimp only
    by_cases y:bey (l+(o-l)/2)=OL
    .rw[OZ y]
     exact Pt ⟨rfl,rfl,by dsimp only;lia,t,by dsimp only;lia,λi d=>w _ _ (by dsimp only at d;exact Nat.le_of_succ_le_succ ‹_›) (by lia) y,h5⟩
    .rw[OY y]
     exact Pt ⟨rfl,rfl,by dsimp only;exact RH _ _,by dsimp only;lia,by dsimp only;lia,f,λi d K=>v _ _ d K (TW.mpr y)⟩
  .rintro⟨_,l,o⟩ _ ⟨rfl,rfl,m,t,g,f,h5⟩
   dsimp only at*
   exact⟨rfl,rfl,t,λi d=>f i (by lia),h5⟩
  .rintro⟨_,l,o⟩ _ ⟨rfl,rfl,m,t,g⟩
   exact Pt (h _ m t g)
end
section
variable{M:Ww}{A:P7}{E:a0d}{s:OV}{κ:W0}{U:P6->Prop}{rk:a0S}
abbrev Sd(rk:a0S)(l:a0z):Prop:=l.Pairwise λx y=>rk x<rk y
theorem ll{xs:a0v}{D:QW}(h:xs.toList[i]?=My x)(k:Q x D):UQ M A E s ((sortPriv% PySem.Builtin.elem) xs i) Q D:=el (by rw[<-Qd];exact h) k
theorem gal(C:Cm M A E s κ U rk){left:Bool}{a:a0v}{D:QW}{L:a0z}(g:(a.toList.drop y).take n=L)(v:L.length=n)(m:kindOf D=κ)(o:U key)(f:∀x∈L,U x/\rk x≠rk key)(S:Sd rk L)(p:hint<n)
  (h:∀k,k<=n->(∀x∈L.take k,rk x<rk key)->(∀x∈L.drop k,rk key<rk x)->Q (My k) D):UQ M A E s ((sortPriv% PySem.Builtin.gallop) left key a y n hint) Q D:=by
 have G:∀i (b:i<n),a[y+i]?=My (L[i]'(by lia)):=λi b=>by
  rw[<-Qd,<-SH,<-ON (l:=L) (by lia),<-g,TC,OZ b]
 refine AI C (bey:=λi=>if z:i<L.length then decide (rk L[i]<rk key)else OQ) m o (λi b=>?_) (λi j c w e=>?_) p λk d r t=>h k d (λx K=>?_) λx K=>?_
 .have z:i<L.length:=by lia
  obtain⟨u,V⟩:=f _ (Qr z);refine⟨L[i],G i b,u,?_⟩;rw[Xw z];cases left
  .by_cases q:rk L[i]<rk key
   .rw[Pf q,PY (by lia)];rfl
   .rw[PY q,Pf (by lia)];rfl
  .rfl
 .rw[Xw (by lia)]at e⊢
  have e:=QP e;rcases Nat.lt_or_eq_of_le c with q|rfl
  .have:=Tg.mp S i j (by lia) (by lia) q
   exact Pf (by lia)
  .exact Pf e
 .obtain⟨i,b,rfl⟩:=Xh.mp K
  have:=r i (by lia);rw[Xw (by lia)]at this;exact QP this
 .obtain⟨i,b,rfl⟩:=List.mem_drop_iff_getElem.mp K
  have:=t (k+i) (RH _ _) (by lia);rw[Xw (by lia)]at this;have:=Yd this;have:=(f (L[k+i]'(by lia)) (Qr _)).2;lia
structure Iv (rk:a0S) (X Y O:a0z) (i j:Nat):Prop where
 pm:O.Perm (X.take i++Y.take j)
 sx:Sd rk (O++X.drop i)
 sy:Sd rk (O++Y.drop j)
variable{X Y O:a0z}{i j k:Nat}{x:P6}
theorem Iv.sw(h:Iv rk X Y O i j):Iv rk Y X O j i:=⟨h.pm.trans RA,h.sy,h.sx⟩
theorem Iv.ad(h:Iv rk X Y O i j)(D:∀x∈(X.drop i).take k,∀y∈Y.drop j,rk x<rk y):Iv rk X Y (O++(X.drop i).take k) (i+k) j:=by
 have e:O++X.drop i=O++(X.drop i).take k++X.drop (i+k):=by rw[O3,<-VT,PL]
 have s:=h.sx;rw[e]at s;refine⟨?_,s,?_⟩
 .rw[List.take_add]
  refine(h.pm.append_right _).trans ?_;rw[O3,O3];exact RA.append_left _
 .obtain⟨c,a,b⟩:=PV.mp h.sy
  refine PV.mpr ⟨(PV.mp s).1,a,λx hx y A=>?_⟩;rcases PD.mp hx with hx|hx
  .exact b x hx y A
  .exact D x hx y A
theorem ZN(h:X[i]?=My x):X.drop i=x::X.drop (i+1):=by
 obtain⟨a,e⟩:=OT.mp h;rw[Qa a,e]
theorem Iv.px(h:Iv rk X Y O i j)(s:X[i]?=My x)(A:∀y∈Y.drop j,rk x<rk y):Iv rk X Y (O++[x]) (i+1) j:=by
 have e:(X.drop i).take 1=[x]:=by rw[ZN s];rfl
 have:=h.ad (k:=1) λz a y D=>by
  rw[e]at a;cases Po.mp a;exact A y D
 rw[e]at this;exact this
theorem Sd.hd(s:Sd rk X)(h:X[i]?=My x)(j:n<=rk x):∀y∈X.drop i,n<=rk y:=λy hy=>by
 rw[ZN h]at hy;have s:=s.drop (i:=i);rw[ZN h]at s;rcases O6.mp hy with rfl|hy
 .exact j
 .have:=Xi s hy
  lia
def Rs(rk:a0S)(X Y R:a0z):Prop:=R.Perm (X++Y)/\Sd rk R
theorem Iv.all(h:Iv rk X Y O i j):(O++X.drop i++Y.drop j).Perm (X++Y):=by
 refine((h.pm.append_right _).append_right _).trans ?_;rw[O3 (X.take i)];refine((RA.append_left _).append_right _).trans ?_;rw[<-O3,PL,O3,PL]
theorem Iv.done(h:Iv rk X Y O i j)(e:j=Y.length\/i=X.length):Rs rk X Y (O++X.drop i++Y.drop j):=by
 refine⟨h.all,?_⟩
 .rcases e with rfl|rfl
  .rw[Rl,PN];exact h.sx
  .rw[Rl,PN];exact h.sy
theorem Iv.last(h:Iv rk X Y O i j)(s:X[i]?=My x)(e:i+1=X.length)(A:∀y∈Y,rk y<rk x):Rs rk X Y (O++Y.drop j++X.drop i):=by
 have k:X.drop i=[x]:=by rw[ZN s,e,Rl]
 refine⟨?_,?_⟩
 .refine Ug.trans ?_ h.all
  rw[O3,O3];exact RA.append_left _
 .rw[k]
  refine PV.mpr ⟨h.sy,Qz _ _,λy hy z a=>?_⟩;cases Po.mp a;rcases PD.mp hy with hy|hy
  .exact(PV.mp h.sx).2.2 y hy x (by rw[k];exact Sz _)
  .exact A y (Sh hy)
abbrev sG(i:QW)(g:Nat):QW:=Vw (kindOf i) (RU i) (QL i) g (UT i)
theorem qd(a:a0v)(i k:Nat):(a.extract i k).toList=(a.toList.drop i).take (k-i):=by
 rw[XR]
theorem Ml(a:a0v)(i:Nat):(a.extract i).toList=a.toList.drop i:=by
 rw[qd,QJ (by rw[Sy,O9];exact OW _)]
theorem Ms(o a b:a0v)(i j:Nat):(o++a.extract i++b.extract j).toList=o.toList++a.toList.drop i++b.toList.drop j:=by rw[RQ,RQ,Ml,Ml]
section
variable{p l d:Type}{c:Prop} [Decidable c]{m n:StateT QW X0 p}{Q:p->QW->Prop}{j:QW}
theorem wC(a:c->UQ M A E s m Q j)(b:¬c->UQ M A E s n Q j):UQ M A E s (if c then m else n) Q j:=by
 split
 .exact a ‹_›
 .exact b ‹_›
theorem wT(h:c)(k:UQ M A E s m Q j):UQ M A E s (if c then m else n) Q j:=wC (λ_=>k) λz=>Pp h z
theorem wF(h:¬c)(k:UQ M A E s n Q j):UQ M A E s (if c then m else n) Q j:=wC (λz=>Pp z h) λ_=>k
theorem B6(a:UQ M A E s m Q j)(b:UQ M A E s n Q j):UQ M A E s (if c then m else n) Q j:=wC (λ_=>a) λ_=>b
theorem wD(a:c->UQ M A E s m Q j)(b:¬c->UQ M A E s n Q j):UQ M A E s (if decide c=OL then m else n) Q j:=wC (λh=>a (QP h)) λh=>b λz=>h (Pf z)
theorem wE{x y:Nat}(a:x=y->UQ M A E s m Q j)(b:x≠y->UQ M A E s n Q j):UQ M A E s (if(x==y)=OL then m else n) Q j:=wC (λh=>a (beq_iff_eq.mp h)) λh=>b λz=>h (beq_iff_eq.mpr z)
theorem i2{F:l->StateT QW X0 p}(x y:l)(e:m=F x)(h:∀y,UQ M A E s (F y) Q j):UQ M A E s (if c then m else F y) Q j:=B6 (e▸h x) (h y)
theorem jn{F:l->d->StateT QW X0 p}(o:l)(i:d)(V:l->d->Prop)(h:∀o i,V o i->UQ M A E s (F o i) Q j)(a:c->(∀o i,V o i->UQ M A E s (F o i) Q j)->UQ M A E s m Q j)(b:¬c->V o i):UQ M A E s (if c then m else F o i) Q j:=wC (λq=>a q h) λq=>h _ _ (b q)
theorem jx(F:Unit->l->d->StateT QW X0 p)(V:l->d->Prop)(h:∀o i,V o i->UQ M A E s (F () o i) Q j)(k:(∀o i,V o i->UQ M A E s (F () o i) Q j)->UQ M A E s m Q j):UQ M A E s m Q j:=k h
theorem l0{c:l}(I:Nat->l->QW->Prop)(P:l->QW->Prop)(h:I 0 c j)
  (m:∀i c j,i<b->I i c j->UQ M A E s (f i c) (λr a=>match r with| .done e=>P e a| .yield e=>I (i+1) e a) j) (d:∀c j,I b c j->P c j) (k:∀c j,P c j->UQ M A E s (g c) Q j):UQ M A E s (X7 [0:b] c f>>=g) Q j:=
 lp I P h (λi c j _=>m i c j) (λc j z=>d c j (by rw[Nat.zero_max]at z;exact z)) k
end
structure Mc (U:P6->Prop) (rk:a0S) (a b:a0v) (x y:P6):Prop where
 ua:∀x∈a.toList,U x
 ub:∀y∈b.toList,U y
 sa:Sd rk a.toList
 sb:Sd rk b.toList
 ne:∀x∈a.toList,∀y∈b.toList,rk x≠rk y
 hx:a.toList[a.size-1]?=My x
 hy:b.toList[0]?=My y
 lx:∀y∈b.toList,rk y<rk x
 ly:∀x∈a.toList,rk y<rk x
theorem L1{a:a0v}{i:Nat}(h:i<a.size):∃x,a.toList[i]?=My x/\x∈a.toList:=⟨_,ON (by rw[O9];exact h),Qr _⟩
section
variable{a b o:a0v}{x0 y0:P6}
def Go(rk:a0S)(a b:a0v)(n:Nat)(r:Option a0v)(o:a0v)(i j:Nat):Prop:=match r with
 |some R=>Rs rk a.toList b.toList R.toList
 |none=>Iv rk a.toList b.toList o.toList i j/\i+1<a.size/\j<b.size/\n<=i+j
theorem Iv.dn(v:Iv rk a.toList b.toList o.toList i j)(e:j=b.size\/i=a.size):Rs rk a.toList b.toList (o++a.extract i++b.extract j).toList:=by
 rw[Ms];exact v.done (by rw[O9,O9];exact e)
theorem Mc.last(m:Mc U rk a b x0 y0)(v:Iv rk a.toList b.toList o.toList i j)(e:i+1=a.size):Rs rk a.toList b.toList (o++b.extract j++a.extract i).toList:=by
 rw[Ms];exact v.last (x:=x0) (by rw[<-m.hx,<-e];rfl) (by rw[O9];exact e) m.lx
theorem Iv.pa(v:Iv rk a.toList b.toList o.toList i j)(k:a.toList[i]?=My x)(s:∀y∈b.toList.drop j,rk x<rk y):Iv rk a.toList b.toList (o.push x).toList (i+1) j:=by
 rw[TN];exact v.px k s
theorem Iv.ca(v:Iv rk a.toList b.toList o.toList i j)(s:∀x∈(a.toList.drop i).take k,∀y∈b.toList.drop j,rk x<rk y):Iv rk a.toList b.toList (o++a.extract i (i+k)).toList (i+k) j:=by
 rw[RQ,qd,Rn];exact v.ad s
theorem Mb(C:Cm M A E s κ U rk){left:Bool}{b:QW}(m:i<a.size)(e:kindOf b=κ)(f:U key)(j:∀x∈a.toList,U x)(o:∀x∈a.toList,rk x≠rk key)(D:Sd rk a.toList)
  (h:∀k,i+k<=a.size->(∀x∈(a.toList.drop i).take k,rk x<rk key)->(∀x∈a.toList.drop (i+k),rk key<rk x)->Q (My k) b):UQ M A E s ((sortPriv% PySem.Builtin.gallop) left key a i (a.size-i) 0) Q b:=by
 have l:(a.toList.drop i).length=a.size-i:=by rw[Sy,O9]
 refine gal C (QJ (XW l)) l e f (λz c=>⟨j z (Sh c),o z (Sh c)⟩) D.drop (by lia) λk n g d=>h k (by lia) g ?_;rw[VT]at d;exact d
theorem sA{n i j:Nat}(h:n<=i+j):n+1<=i+1+j:=by lia
theorem sK{n i j k:Nat}(h:n<=i+j):n<=i+k+j:=by lia
theorem sL{n k i:Nat}(h:i+k<=n)(c:i+k+1≠n)(d:i+k≠n):i+k+1<n:=by lia
theorem k0{k:Nat}(h:¬k>0):k=0:=by lia
theorem mlo(C:Cm M A E s κ U rk)(m:Mc U rk a b x0 y0){D:QW}(V:kindOf D=κ)(h:∀(R:a0v) (g:Nat),Rs rk a.toList b.toList R.toList->Q R (sG D g)):UQ M A E s ((sortPriv% PySem.Builtin.mergeLo) a b) Q D:=by
 refine Ps (Wk (Ro ⟨rfl,Ps (ll m.hy ?_)⟩));have v:Iv rk a.toList b.toList #[y0].toList 0 1:=(Iv.px (rk:=rk) (X:=b.toList) (Y:=a.toList) (O:=[]) (i:=0) (j:=0) ⟨.refl _,m.sb,m.sa⟩ m.hy m.ly).sw;have b1:=(OT.mp m.hy).1;have a1:=(OT.mp m.hx).1;rw[O9]at a1 b1;refine wE (λe=>Pt (h _ (We D) (v.dn (.inl e)))) λq1=>wE (λe=>Pt (h _ (We D) (m.last v e))) λq2=>Ps (VG ?_);refine l0 (λn c d=>(∃g,sG D g=d)/\c.1=OI/\Go rk a b (n+1) c.1 c.2.1 c.2.2.1 c.2.2.2.1) (λc d=>(∃g,sG D g=d)/\∃R,c.1=My R/\Rs rk a.toList b.toList R.toList) ⟨⟨We D,rfl⟩,rfl,v,Qm (P5 (Ql _) a1) q2,Qm b1 q1,OW _⟩ ?_ ?_ ?_
 .rintro n ⟨_,o,i,j,S⟩ _ hn ⟨⟨g,rfl⟩,rfl,v,f,l,u⟩
  refine l0 (λt c d=>sG D g=d/\c.1=OI/\Go rk a b (n+1+t) c.1 c.2.1 c.2.2.1 c.2.2.2.1) (λc d=>sG D g=d/\Go rk a b (n+1+1) c.1 c.2.1 c.2.2.1 c.2.2.2.1) ⟨rfl,rfl,v,f,l,u⟩ ?_ ?_ ?_
  .rintro t ⟨_,o,i,j,P,T⟩ _ ht ⟨rfl,rfl,v,f,l,u⟩
   obtain⟨x,G,I⟩:=L1 (QZ f);obtain⟨y,B,J⟩:=L1 l;have h4:n+1<=i+j:=Pj (RH _ t) u;refine Ps (ll B (Ps (ll G (Ps (C.lt (m.ub y J) (m.ua x I) V (wD (λq=>Ps (ll B ?_)) λq=>Ps (ll G ?_)))))))
   .have F:=(Iv.pa (Iv.sw v) B (m.sa.hd G q)).sw
    exact wE (λe=>Pt ⟨rfl,F.dn (.inl e)⟩) λq=>B6 (Pt ⟨rfl,F,f,Qm l q,Vz h4⟩) (Pt ⟨rfl,rfl,F,f,Qm l q,Vz u⟩)
   .have F:=Iv.pa v G (m.sb.hd B (Qm (Th q) (m.ne x I y J)))
    exact wE (λe=>Pt ⟨rfl,m.last F e⟩) λq=>B6 (Pt ⟨rfl,F,Qm f q,l,sA h4⟩) (Pt ⟨rfl,rfl,F,Qm f q,l,sA u⟩)
  .rintro⟨_,o,i,j,P,T⟩ _ ⟨rfl,rfl,v,f,l,u⟩
   exact⟨rfl,v,f,l,Pj (UO (P5 (Ql _) hn) _) u⟩
  rintro⟨r,o,i,j,P,T⟩ _ ⟨rfl,L⟩;cases r with
  |some R=>exact Pt ⟨⟨g,rfl⟩,R,rfl,L⟩
  |none=>?_
  refine Ps (Wk (Ro ⟨rfl,l0 (λt c d=>(∃g,sG D g=d)/\c.1=OI/\Go rk a b (n+1+1) c.1 c.2.1 c.2.2.1 c.2.2.2.1) (λc d=>(∃g,sG D g=d)/\Go rk a b (n+1+1) c.1 c.2.1 c.2.2.1 c.2.2.2.1) ⟨⟨g,rfl⟩,rfl,L⟩ ?_ (λc D z=>⟨z.1,z.2.2⟩) ?_⟩))
  .rintro t ⟨_,o,i,j,S,P,T⟩ _ ht ⟨⟨g,rfl⟩,rfl,v,f,l,u⟩
   obtain⟨y,B,J⟩:=L1 l;apply i2 (S-1) S
   .rfl
   intro p;refine Ps (Ua (Ps (ll B (Ps (Mb C (i:=i) (QZ f) V (m.ub y J) m.ua (λz H=>m.ne z H y J) m.sa λk W g1 Z=>?_)))));apply jn o i (λo i=>Iv rk a.toList b.toList o.toList i j/\(∀x∈a.toList.drop i,rk y<rk x)/\i+1<a.size/\n+1+1<=i+j)
   .rintro o i ⟨v,Z,f,u⟩
    refine Ps (ll B ?_);have v:=(Iv.pa (Iv.sw v) B Z).sw;refine wE (λe=>Pt ⟨⟨_,rfl⟩,v.dn (.inl e)⟩) λq3=>?_;have l2:j+1<b.size:=Qm l q3;have l3:n+1+1<=i+(j+1):=Nat.le_succ_of_le u;obtain⟨x,G,I⟩:=L1 (QZ f);refine Ps (ll G (Ps (Mb C (i:=j+1) l2 V (m.ua x I) m.ub (λz H=>(m.ne x I z H).symm) m.sb λk W g3 N=>?_)));show UQ M A E s (if k>0 then _ else _) _ _;generalize o.push y=o at v⊢;generalize j+1=j at v g3 N W l2 l3⊢;apply jn o j (λo j=>Iv rk a.toList b.toList o.toList i j/\(∀z∈b.toList.drop j,rk x<rk z)/\j<b.size/\n+1+1<=i+j)
    .rintro o j ⟨v,N,l,u⟩
     refine Ps (ll G ?_);have v:=Iv.pa v G N;exact wE (λe=>Pt ⟨⟨_,rfl⟩,m.last v e⟩) λq=>B6 (Pt ⟨⟨_,rfl⟩,v,Qm f q,l,Nat.le_of_succ_le (sA u)⟩) (Pt ⟨⟨_,rfl⟩,rfl,v,Qm f q,l,Nat.le_of_succ_le (sA u)⟩)
    .intro q K
     have w:=(Iv.ca (Iv.sw v) λz H w hw=>Pm (g3 z H) (m.sa.hd G (OW _) w hw)).sw;exact wE (λe=>Pt ⟨⟨_,rfl⟩,w.dn (.inl e)⟩) λq=>K _ _ ⟨w,N,Qm W q,Pj l3 (UO (RH _ _) _)⟩
    .intro q
     cases k0 q;exact⟨v,N,l2,l3⟩
   .intro q K
    have w:=Iv.ca v λz H w hw=>Pm (g1 z H) (m.sb.hd B (OW _) w hw);exact wE (λe=>Pt ⟨⟨_,rfl⟩,m.last w e⟩) λq3=>wE (λe=>Pt ⟨⟨_,rfl⟩,w.dn (.inr e)⟩) λq4=>K _ _ ⟨w,Z,sL W q3 q4,sK u⟩
   .intro q
    cases k0 q;exact⟨v,Z,f,u⟩
  rintro⟨r,o,i,j,S,P,T⟩ _ ⟨⟨g,rfl⟩,L⟩;cases r with
  |some R=>exact Pt ⟨⟨g,rfl⟩,R,rfl,L⟩
  |none=>exact Ps (Ua (Pt ⟨⟨_,rfl⟩,rfl,L⟩))
 .rintro⟨_,o,i,j,S⟩ _ ⟨⟨g,rfl⟩,rfl,v,f,l,u⟩
  exact Pp u (Nat.not_le_of_lt (Sk (Nat.add_lt_add (QZ f) l)))
 .rintro⟨_,o,i,j,S⟩ _ ⟨⟨g,rfl⟩,R,rfl,hR⟩
  exact Pt (h R g hR)
end
end
section
variable{M:Ww}{A:P7}{E:a0d}{s:OV}{κ:W0}{U:P6->Prop}{rk:a0S}
structure Jv (rk:a0S) (X Y O:a0z) (i j:Nat):Prop where
 pm:O.Perm (X.drop i++Y.drop j)
 sx:Sd rk (X.take i++O)
 sy:Sd rk (Y.take j++O)
variable{X Y O:a0z}{i j k:Nat}{x:P6}
theorem Jv.sw(h:Jv rk X Y O i j):Jv rk Y X O j i:=⟨h.pm.trans RA,h.sy,h.sx⟩
theorem Jv.ad(h:Jv rk X Y O i j)(f:i<=X.length)(a:k<=i)(D:∀x∈(X.take i).drop k,∀y∈Y.take j,rk y<rk x):Jv rk X Y ((X.take i).drop k++O) k j:=by
 have e:X.take i++O=X.take k++((X.take i).drop k++O):=by
  rw[<-O3];have:=PL k (X.take i);rw[VU,RT a]at this;rw[this]
 have s:=h.sx;rw[e]at s;refine⟨?_,s,?_⟩
 .have b:X.drop k=(X.take i).drop k++X.drop i:=by
   conv=>lhs;rw[<-PL i X]
   rw[Uw (by rw[PR];lia)]
  rw[b,O3];exact h.pm.append_left _
 .obtain⟨c,g,d⟩:=PV.mp h.sy
  refine PV.mpr ⟨c,(PV.mp s).2.1,λy A x hx=>?_⟩;rcases PD.mp hx with hx|hx
  .exact D x hx y A
  .exact d y A x hx
theorem xr(h:X[i]?=My x):X.take (i+1)=X.take i++[x]:=by rw[Vg,h];rfl
theorem Jv.px(h:Jv rk X Y O (i+1) j)(s:X[i]?=My x)(A:∀y∈Y.take j,rk y<rk x):Jv rk X Y (x::O) i j:=by
 have b:=(OT.mp s).1;have e:(X.take (i+1)).drop i=[x]:=by
  rw[xr s,Uw (by rw[PR];lia),XJ (by rw[PR];lia)];rfl
 have:=h.ad (k:=i) (by lia) (Vo _) λz a y D=>by
  rw[e]at a;cases Po.mp a;exact A y D
 rw[e]at this;exact this
theorem Sd.tl(s:Sd rk X)(h:X[i]?=My x)(j:rk x<=n):∀y∈X.take (i+1),rk y<=n:=λy hy=>by
 rw[xr h]at hy;have s:=s.take (i:=i+1);rw[xr h]at s;rcases PD.mp hy with hy|hy
 .have:=(PV.mp s).2.2 y hy x (Sz _)
  lia
 .cases Po.mp hy
  exact j
theorem Jv.all(h:Jv rk X Y O i j):(X.take i++Y.take j++O).Perm (X++Y):=by
 refine(h.pm.append_left _).trans ?_;rw[O3,<-O3 (Y.take j)];refine((RA.append_right _).append_left _).trans ?_;rw[O3,<-O3,PL,PL]
theorem Jv.done(h:Jv rk X Y O i j)(e:j=0\/i=0):Rs rk X Y (X.take i++Y.take j++O):=by
 refine⟨h.all,?_⟩;rcases e with rfl|rfl
 .rw[TZ,PN];exact h.sx
 .rw[TZ,RO];exact h.sy
theorem Jv.fst(h:Jv rk X Y O i 1)(hy:Y[0]?=My x)(j:∀y∈X,rk x<rk y):Rs rk X Y (Y.take 1++X.take i++O):=by
 have a:Y.take 1=[x]:=by rw[xr (i:=0) hy];rfl
 refine⟨(RA.append_right _).trans h.all,?_⟩;rw[a,O3];refine PV.mpr ⟨Qz _ _,h.sx,λz b y hy=>?_⟩;cases Po.mp b;rcases PD.mp hy with hy|hy
 .exact j y (QR hy)
 .exact(PV.mp h.sy).2.2 x (by rw[a];exact Sz _) y hy
theorem Mn(a:a0v)(i:Nat):(a.extract 0 i).toList=a.toList.take i:=by rw[qd];rfl
theorem Mu(o a b:a0v)(i j:Nat):(a.extract 0 i++b.extract 0 j++o.reverse).toList=a.toList.take i++b.toList.take j++o.toList.reverse:=by rw[RQ,RQ,Mn,Mn,XS]
section
variable{a b o:a0v}{X Y:P6}
def Gh(rk:a0S)(a b:a0v)(n:Nat)(r:Option a0v)(o:a0v)(i j:Nat):Prop:=match r with
 |some R=>Rs rk a.toList b.toList R.toList
 |none=>Jv rk a.toList b.toList o.toList.reverse i j/\0<i/\i<=a.size/\1<j/\j<=b.size/\i+j+n<=a.size+b.size
theorem Jv.dn(v:Jv rk a.toList b.toList o.toList.reverse i j)(e:j=0\/i=0):Rs rk a.toList b.toList (a.extract 0 i++b.extract 0 j++o.reverse).toList:=by
 rw[Mu];exact v.done e
theorem Mc.fst(m:Mc U rk a b X Y)(v:Jv rk a.toList b.toList o.toList.reverse i j)(e:j=1):Rs rk a.toList b.toList (b.extract 0 j++a.extract 0 i++o.reverse).toList:=by
 subst e;rw[Mu];exact v.fst m.hy m.ly
theorem Jv.pa(v:Jv rk a.toList b.toList o.toList.reverse (i+1) j)(k:a.toList[i]?=My x)(s:∀y∈b.toList.take j,rk y<rk x):Jv rk a.toList b.toList (o.push x).toList.reverse i j:=by
 rw[TN,UE];exact v.px k s
theorem Jv.ca(v:Jv rk a.toList b.toList o.toList.reverse i j)(c:i<=a.size)(d:k<=i)(s:∀x∈(a.toList.take i).drop k,∀y∈b.toList.take j,rk y<rk x):Jv rk a.toList b.toList (o++(a.extract k i).reverse).toList.reverse k j:=by
 rw[RQ,UE,XS,List.reverse_reverse,qd,<-List.drop_take];exact v.ad (by rw[O9];exact c) d s
theorem Ma(C:Cm M A E s κ U rk){left:Bool}{b:QW}(m:0<i)(n:i<=a.size)(f:kindOf b=κ)(g:U key)(j:∀x∈a.toList,U x)(o:∀x∈a.toList,rk x≠rk key)(D:Sd rk a.toList)
  (h:∀k,k<=i->(∀x∈a.toList.take k,rk x<rk key)->(∀x∈(a.toList.take i).drop k,rk key<rk x)->Q (My k) b):UQ M A E s ((sortPriv% PySem.Builtin.gallop) left key a 0 i (i-1)) Q b:=by
 refine gal C (L:=a.toList.take i) rfl (by rw[PR,O9];lia) f g (λz c=>⟨j z (QR c),o z (QR c)⟩) D.take (by omega) λk d e l=>h k d ?_ l;rw[VU,RT d]at e;exact e
theorem t1{i j m N:Nat}(h:i+1+j+m<=N):i+j+(m+1)<=N:=by lia
theorem t2{i j m N:Nat}(h:i+(j+1)+m<=N):i+j+(m+1)<=N:=by lia
theorem t3{i m N:Nat}(t:Nat)(h:i+(m+t)<=N):i+m<=N:=by lia
theorem t4{i j k m N:Nat}(h:i+j+m<=N)(l:k<=i):k+j+m<=N:=by lia
theorem t5{i j k m N:Nat}(h:i+j+m<=N)(l:k<=j):i+k+m<=N:=by lia
theorem t6{j:Nat}(h:1<j+1)(q:j≠1):1<j:=by lia
theorem t7{k i:Nat}(h:¬i-k>0)(l:k<=i):k=i:=by lia
theorem t8{k:Nat}(h:k≠1)(l:k≠0):1<k:=by lia
theorem mhi(C:Cm M A E s κ U rk)(m:Mc U rk a b X Y){D:QW}(hk:kindOf D=κ)(h:∀(R:a0v) (g:Nat),Rs rk a.toList b.toList R.toList->Q R (sG D g)):UQ M A E s ((sortPriv% PySem.Builtin.mergeHi) a b) Q D:=by
 refine Ps (Wk (Ro ⟨rfl,Ps (ll m.hx ?_)⟩));have b1:=(OT.mp m.hy).1;have a1:=(OT.mp m.hx).1;rw[O9]at a1 b1;have v:Jv rk a.toList b.toList #[X].toList.reverse (a.size-1) b.size:=by
  refine Jv.px (O:=[]) ?_ m.hx λy hy=>m.lx y (QR hy);rw[show a.size-1+1=a.toList.length by rw[O9];lia,<-O9];refine⟨?_,?_,?_⟩
  .rw[Rl,Rl];exact .refl _
  .rw[QE,PN];exact m.sa
  .rw[QE,PN];exact m.sb
 have i0:a.size-1+b.size+1<=a.size+b.size:=by lia
 refine wE (λe=>Pt (h _ (We D) (v.dn (.inr e)))) λq1=>wE (λe=>Pt (h _ (We D) (m.fst v e))) λq2=>Ps (VG ?_);refine l0 (λn c d=>(∃g,sG D g=d)/\c.1=OI/\Gh rk a b (n+1) c.1 c.2.2.2.1 c.2.1 c.2.2.1) (λc d=>(∃g,sG D g=d)/\∃R,c.1=My R/\Rs rk a.toList b.toList R.toList) ⟨⟨We D,rfl⟩,rfl,v,R9 q1,Nat.sub_le _ _,t8 q2 (RK b1),OW _,i0⟩ ?_ ?_ ?_
 .rintro n ⟨_,i,j,o,S⟩ _ hn ⟨⟨g,rfl⟩,rfl,v,H,l,B,u,f⟩
  refine l0 (λt c d=>sG D g=d/\c.1=OI/\Gh rk a b (n+1+t) c.1 c.2.2.2.1 c.2.1 c.2.2.1) (λc d=>sG D g=d/\Gh rk a b (n+1+1) c.1 c.2.2.2.1 c.2.1 c.2.2.1) ⟨rfl,rfl,v,H,l,B,u,f⟩ ?_ ?_ ?_
  .rintro t ⟨_,i,j,o,P,T⟩ _ ht ⟨rfl,rfl,v,H,l,B,u,f⟩
   obtain⟨i,rfl⟩:∃p,i=p+1:=⟨i-1,(TL H).symm⟩;obtain⟨j,rfl⟩:∃p,j=p+1:=⟨j-1,(TL (Qo B)).symm⟩;obtain⟨x,G,W⟩:=L1 l;obtain⟨y,J,Z⟩:=L1 u;refine Ps (ll J (Ps (ll G (Ps (C.lt (m.ub y Z) (m.ua x W) hk (wD (λq=>Ps (ll G ?_)) λq=>Ps (ll J ?_)))))))
   .have N:=Jv.pa v G λz I=>P5 (m.sb.tl J (OW _) z I) q
    exact wE (λe=>Pt ⟨rfl,N.dn (.inr e)⟩) λq=>B6 (Pt ⟨rfl,N,R9 q,Qo l,B,u,t1 (t3 t f)⟩) (Pt ⟨rfl,rfl,N,R9 q,Qo l,B,u,t1 f⟩)
   .have N:=(Jv.pa (Jv.sw v) J λz I=>P5 (m.sa.tl G (OW _) z I) (Qm (Th q) (m.ne x W y Z))).sw
    exact wE (λe=>Pt ⟨rfl,m.fst N e⟩) λq=>B6 (Pt ⟨rfl,N,H,l,t6 B q,Qo u,t2 (t3 t f)⟩) (Pt ⟨rfl,rfl,N,H,l,t6 B q,Qo u,t2 f⟩)
  .rintro⟨_,i,j,o,P,T⟩ _ ⟨rfl,rfl,v,H,l,B,u,f⟩
   exact Pp f (by dsimp only at*;lia)
  rintro⟨r,i,j,o,P,T⟩ _ ⟨rfl,V⟩;cases r with
  |some R=>exact Pt ⟨⟨g,rfl⟩,R,rfl,V⟩
  |none=>?_
  refine Ps (Wk (Ro ⟨rfl,l0 (λt c d=>(∃g,sG D g=d)/\c.1=OI/\Gh rk a b (n+1+1) c.1 c.2.2.2.1 c.2.1 c.2.2.1) (λc d=>(∃g,sG D g=d)/\Gh rk a b (n+1+1) c.1 c.2.2.2.1 c.2.1 c.2.2.1) ⟨⟨g,rfl⟩,rfl,V⟩ ?_ (λc D z=>⟨z.1,z.2.2⟩) ?_⟩))
  .rintro t ⟨_,i,j,o,S,P,T⟩ _ ht ⟨⟨g,rfl⟩,rfl,v,H,l,B,u,f⟩
   obtain⟨j,rfl⟩:∃p,j=p+1:=⟨j-1,(TL (Qo B)).symm⟩;obtain⟨y,J,Z⟩:=L1 u;apply i2 (S-1) S
   .rfl
   intro p;refine Ps (Ua (Ps (ll J (Ps (Ma C (i:=i) H l hk (m.ub y Z) m.ua (λz I=>m.ne z I y Z) m.sa λk L g1 g2=>?_)))))
   dsimp -zeta only
   extract_lets kk P nb F
   refine jx F (λi o=>Jv rk a.toList b.toList o.toList.reverse i (j+1)/\(∀x∈a.toList.take i,rk x<rk y)/\0<i/\i<=a.size/\i+(j+1)+(n+1+1)<=a.size+b.size) ?_ λK=>?_
   .rintro i o ⟨v,g1,H,l,f⟩
    refine Ps (ll J ?_);have v:=(Jv.pa (Jv.sw v) J g1).sw;refine wE (λe=>Pt ⟨⟨_,rfl⟩,m.fst v e⟩) λq3=>?_;have l2:1<j:=t6 B q3;obtain⟨i,rfl⟩:∃p,i=p+1:=⟨i-1,(TL H).symm⟩;obtain⟨x,G,W⟩:=L1 l;refine Ps (ll G (Ps (Ma C (i:=j) (QZ l2) (Qo u) hk (m.ua x W) m.ub (λz I=>(m.ne x W z I).symm) m.sb λk L g3 g4=>?_)))
    dsimp -zeta only
    extract_lets kk2 T na F
    refine jx F (λj o=>Jv rk a.toList b.toList o.toList.reverse (i+1) j/\(∀z∈b.toList.take j,rk z<rk x)/\1<j/\j<=b.size/\i+1+j+(n+1+1)<=a.size+b.size) ?_ λK=>?_
    .rintro j o ⟨v,g3,B,u,f⟩
     refine Ps (ll G ?_);have v:=Jv.pa v G g3;exact wE (λe=>Pt ⟨⟨_,rfl⟩,v.dn (.inr e)⟩) λq=>B6 (Pt ⟨⟨_,rfl⟩,v,R9 q,Qo l,B,u,t3 1 (t1 f)⟩) (Pt ⟨⟨_,rfl⟩,rfl,v,R9 q,Qo l,B,u,t3 1 (t1 f)⟩)
    clear_value F
    refine wC (λq=>?_) λq=>?_
    .have w:=(Jv.ca (Jv.sw v) (Qo u) L λz I w hw=>P5 (m.sa.tl G (OW _) w hw) (g4 z I)).sw
     have l3:i+1+k+(n+1+1)<=a.size+b.size:=t5 f (Nat.le_succ_of_le L);have l4:=Pj L (Qo u);refine wE (λe=>Pt ⟨⟨_,rfl⟩,m.fst w e⟩) λq1=>wE (λe=>Pt ⟨⟨_,rfl⟩,w.dn (.inl e)⟩) λq2=>?_;exact K k (o.push y++(b.extract k j).reverse) ⟨w,g3,t8 q1 q2,l4,l3⟩
    .cases t7 q L
     exact K _ _ ⟨v,g3,l2,Qo u,t3 1 (t2 f)⟩
   clear_value F
   refine wC (λq=>?_) λq=>?_
   .have w:=Jv.ca v l L λz I w hw=>P5 (m.sb.tl J (OW _) w hw) (g2 z I)
    exact wE (λe=>Pt ⟨⟨_,rfl⟩,w.dn (.inr e)⟩) λq3=>K _ _ ⟨w,g1,R9 q3,Pj L l,t4 f L⟩
   .cases t7 q L
    exact K _ _ ⟨v,g1,H,l,f⟩
  rintro⟨r,i,j,o,S,P,T⟩ _ ⟨⟨g,rfl⟩,V⟩;cases r with
  |some R=>exact Pt ⟨⟨g,rfl⟩,R,rfl,V⟩
  |none=>exact Ps (Ua (Pt ⟨⟨_,rfl⟩,rfl,V⟩))
 .rintro⟨_,i,j,o,S⟩ _ ⟨⟨g,rfl⟩,rfl,v,H,l,B,u,f⟩
  exact Pp f (by dsimp only at*;lia)
 .rintro⟨_,i,j,o,S⟩ _ ⟨⟨g,rfl⟩,R,rfl,hR⟩
  exact Pt (h R g hR)
end
end
section
variable{M:Ww}{A:P7}{E:a0d}{s:OV}{κ:W0}{U:P6->Prop}{rk:a0S}
theorem wr:∀(R:a0z) (n b:Nat) (c:a0v) (P T S:a0z),c.toList=P++T++S->P.length=b+n->T.length=R.length->((R.zipIdx n).foldl (λa (p,j)=>a.setIfInBounds (b+j) p) c).toList=P++R++S
 |[],n,b,c,P,T,S,h,h1,h2=>by
  obtain rfl:T=[]:=Rm.mp h2;exact h
 |x::R,n,b,c,P,[],S,h,h1,h2=>by simp at h2
 |x::R,n,b,c,P,t::T,S,h,h1,h2=>by
  have e:(c.setIfInBounds (b+n) x).toList=(P++[x])++T++S:=by
   rw[UR,h,<-h1,O3,XT _ _ (OW _),Ti];simp
  have:=wr R (n+1) b (c.setIfInBounds (b+n) x) (P++[x]) T S e (by rw[O1,h1];rfl) (by simpa using h2);rw[Wv,WP];rw[this];simp
theorem wset{x D:QW}(h:Q ⟨⟩ x):UQ M A E s (set x:StateT QW X0 PUnit) Q D:=by
 unfold UQ;rw[StateT.run_set];exact OJ ⟨rfl,h⟩
variable{X Y:a0z}
theorem Sd.app(s:Sd rk X)(A:Sd rk Y)(h:∀x∈X,∀y∈Y,rk x<rk y):Rs rk X Y (X++Y):=⟨.refl _,PV.mpr ⟨s,A,h⟩⟩
theorem mat(C:Cm M A E s κ U rk){D:QW}{P S:a0z}(c:kindOf D=κ)(O:UT D=OI)(ha:(RU D).toList=P++X++Y++S)(u:∀x∈X++Y,U x)(ne:∀x∈X,∀y∈Y,rk x≠rk y)(K:Sd rk X)(V:Sd rk Y)(T:X≠[])(W:Y≠[])(p1:(QL D)[i]?=My (P.length,X.length,pw))(p2:(QL D)[i+1]?=My (P.length+X.length,Y.length,pw2))
  (h:∀(Z:a0z) (a:a0v) (g:Nat),Rs rk X Y Z->a.toList=P++Z++S->Q OL (Vw (kindOf D) a (((QL D).setIfInBounds i (P.length,X.length+Y.length,pw)).eraseIdxIfInBounds (i+1)) g (UT D))):UQ M A E s (mergeAt' i) Q D:=by
 have lx:=Su.mpr T;have ly:=Su.mpr W;have n:∀x∈X,U x:=λx G=>u x (PD.mpr (.inl G));have o:∀x∈Y,U x:=λx G=>u x (PD.mpr (.inr G));have d:(RU D).toList.drop P.length=X++Y++S:=by rw[ha,O3,O3,List.drop_left,O3]
 have p:(RU D).toList.drop (P.length+X.length)=Y++S:=by rw[<-VT,d,O3,List.drop_left]
 obtain⟨y,f⟩:∃y,Y[0]?=My y:=⟨Y[0],ON ly⟩;obtain⟨x,ex⟩:∃x,X[X.length-1]?=My x:=⟨X[X.length-1],ON (by omega)⟩;have v:=Pd f;have B:=Pd ex;have eY:(RU D).toList[P.length+X.length]?=My y:=by
  have:=SH (xs:=(RU D).toList) (i:=P.length+X.length) (j:=0);rw[p,Rw ly,f]at this;exact this.symm
 have eX:(RU D).toList[P.length+(X.length-1)]?=My x:=by
  rw[<-SH,d,O3,Rw (by omega),ex]
 unfold mergeAt';refine Ps (VG ?_)
 dsimp only
 rw[p1,p2];refine Ps (wset (Ps (ll eY (Ps (gal C (L:=X) (by rw[d,O3,List.take_left]) rfl c (o y v) (λz hz=>⟨n z hz,ne z hz y v⟩) K lx λk k1 l F=>?_)))));have H:∀z∈Y,rk y<=rk z:=V.hd (i:=0) f (OW _);refine wE (λq1=>?_) λq1=>?_
 .rw[QJ (by lia)]at l
  exact Pt (h (X++Y) _ _ (K.app V λx G y hy=>Pm (l x G) (H y hy)) (by rw[ha,O3 P]))
 have q:∀z∈X,rk z<=rk x:=λz hz=>K.tl ex (OW _) z (by rw[QJ (by lia)];exact hz);refine Ps (ll (x:=x) (by rw[<-eX];congr 1;lia) (Ps (gal C (L:=Y) (by rw[p,List.take_left]) rfl c (n x B) (λz hz=>⟨o z hz,(ne x B z hz).symm⟩) V (by lia) λm m1 I J=>?_)));refine wE (λq2=>?_) λq2=>?_
 .cases q2
  exact Pt (h (X++Y) _ _ (K.app V λz hz y hy=>P5 (q z hz) (J y hy)) (by rw[ha,O3 P]))
 have t:((RU D).extract (P.length+k) (P.length+X.length)).toList=X.drop k:=by
  rw[qd,<-VT,d,O3,Uw k1,WS (by rw[Sy];lia)]
 have ty:((RU D).extract (P.length+X.length) (P.length+X.length+m)).toList=Y.take m:=by
  rw[qd,p,Rn,WE m1]
 have b:∀(R:a0v) (g:Nat),Rs rk (X.drop k) (Y.take m) R.toList->UQ M A E s (modify (λs=>Vw (kindOf s) (Xb (λa x=>a.setIfInBounds (P.length+k+x.snd) x.fst) (RU s) R.toList.zipIdx) (QL s) (We s) (UT s))>>=λ_=>get>>=λr=>Ry (UT r).isNone) Q (Vw (kindOf D) (RU D) (((QL D).setIfInBounds i (P.length,X.length+Y.length,pw)).eraseIdxIfInBounds (i+1)) g (UT D)):=λR g ⟨r1,r2⟩=>by
  refine Ps (Ua (Ps (VG ?_)));have hz:Rs rk X Y (X.take k++R.toList++Y.drop m):=by
   have aa:∀z,z∈R.toList->z∈X.drop k\/z∈Y.take m:=λz hz=>PD.mp (r1.mem_iff.mp hz);refine⟨((r1.append_left _).append_right _).trans (by rw[<-O3,PL,O3,PL]),?_⟩;refine PV.mpr ⟨PV.mpr ⟨K.take,r2,λz hz w hw=>?_⟩,V.drop,λz hz w hw=>?_⟩
   .rcases aa w hw with hw|hw
    .have:=l z hz
     have:=F w hw;lia
    .exact Pm (l z hz) (H w (QR hw))
   .have gw:=J w hw
    rcases PD.mp hz with hz|hz
    .have:=q z (QR hz)
     lia
    .rcases aa z hz with hz|hz
     .have:=q z (Sh hz)
      lia
     .have:=I z hz
      lia
  have e:=wr R.toList 0 (P.length+k) (RU D) (P++X.take k) (X.drop k++Y.take m) (Y.drop m++S) (by
   rw[ha];simp only[O3];rw[<-O3 (Y.take m),PL,<-O3 (X.take k),PL]) (by rw[O1,PR];lia) (r1.length_eq.symm)
  have:=h _ _ g hz (e.trans (by simp only[O3]));rw[O]at this⊢;exact Pt this
 have sz:((RU D).extract (P.length+k) (P.length+X.length)).size=X.length-k:=by rw[<-O9,t,Sy]
 have N:Mc U rk ((RU D).extract (P.length+k) (P.length+X.length)) ((RU D).extract (P.length+X.length) (P.length+X.length+m)) x y:=by
  refine⟨?_,?_,?_,?_,?_,?_,?_,?_,?_⟩
  all_goals simp only[t,ty,sz]
  .exact λz hz=>n z (Sh hz)
  .exact λz hz=>o z (QR hz)
  .exact K.drop
  .exact V.take
  .exact λx G y hy=>ne x (Sh G) y (QR hy)
  .rw[SH,<-ex];congr 1;lia
  .rw[TC,OZ (R9 q2),f]
  .exact I
  .exact F
 rw[<-t,<-ty]at b;exact B6 (Ps (mlo C N c b)) (Ps (mhi C N c b))
theorem mir{a:a0v}{P X S:a0z}(h:a.toList=P++X++S):(mirror a P.length (P.length+X.length) ((P.length+X.length-P.length)/2)).toList=P++X.reverse++S:=by
 have s:P.length+X.length<=a.size:=by
  rw[<-O9,h,O1,O1];exact RH _ _
 refine TX λk=>?_;rw[Qd,getElem?_mirror_all s];simp only[<-Qd,h,SZ,O1,UD]
 repeat' split
 all_goals first|rfl|(exfalso;lia)|skip
 rw[List.getElem?_reverse (by lia)];congr 1;lia
theorem bub{a:a0v}{P Y S:a0z}(h:a.toList=P++Y++z::S):(bubble a (P.length+Y.length) Y.length).toList=P++z::Y++S:=by
 have s:P.length+Y.length<a.size:=by
  rw[<-O9,h,O1,O1,Pb];lia
 refine TX λk=>?_;rw[Qd,getElem?_bubble s _ (Nat.le_add_left _ _)];simp only[<-Qd,h,SZ,O1,Pb]
 repeat' split
 all_goals first|rfl|(exfalso;lia)|skip
 .rw[show P.length+Y.length-(P.length+Y.length)=0 by lia,show k-P.length=0 by lia];rfl
 .rw[show k-P.length=k-1-P.length+1 by lia,TH]
 .rw[show k-(P.length+Y.length)=k-(P.length+(Y.length+1))+1 by lia,TH]
theorem Z8(C:Cm M A E s κ U rk){D:QW}(a:kindOf D=κ)(b:(RU D).toList[i]?=My x)(c:(RU D).toList[j]?=My y)(d:U x)(e:U y)(h:Q (My (decide (rk x<rk y))) D):UQ M A E s (ltAt' i j) Q D:=by
 rw[ltAt'_eq];exact Ps (VG (Ps (ll b (Ps (ll c (C.lt d e a h))))))
variable{P T:a0z}{i:Nat}{x y:P6}
theorem Sd.sn(h:Sd rk (T.take (i+1)))(A:T[i]?=My x)(a:T[i+1]?=My y)(s:rk x<rk y):Sd rk (T.take (i+2)):=by
 rw[xr a];refine PV.mpr ⟨h,Qz _ _,λz hz w b=>?_⟩;cases Po.mp b;rw[xr A]at h hz;rcases PD.mp hz with hz|hz
 .exact Wp ((PV.mp h).2.2 z hz x (Sz _)) s
 .cases Po.mp hz
  exact s
theorem Sd.rn(h:Sd rk (T.take (i+1)).reverse)(A:T[i]?=My x)(a:T[i+1]?=My y)(s:rk y<rk x):Sd rk (T.take (i+2)).reverse:=by
 rw[xr a,UE];refine R5.mpr ⟨λz hz=>?_,h⟩;rw[xr A,UE]at h hz;rcases O6.mp hz with rfl|hz
 .exact s
 .exact Wp s (Xi h hz)
theorem xh(s:(T.map rk).Nodup)(a:T[i]?=My x)(b:T[j]?=My y)(c:i<j):rk x≠rk y:=by
 obtain⟨d,rfl⟩:=OT.mp a;obtain⟨e,rfl⟩:=OT.mp b;have:=Tg.mp (QY.mp s) i j d e c;exact this
theorem lJ(k:Nat):(P++T)[P.length+k]?=T[k]?:=by rw[Qw (RH _ _),Rn]
theorem cnt(C:Cm M A E s κ U rk){K:QW}(r:kindOf K=κ)(V:(RU K).toList=P++T)(u:∀x∈T,U x)(nd:(T.map rk).Nodup)(N:T≠[])
  (h:∀(n:Nat) (f:a0z) (a:a0v),1<=n->n<=T.length->f.Perm T->Sd rk (f.take n)->a.toList=P++f->Q (My n) (VL K a)):UQ M A E s (countRun' P.length T.length) Q K:=by
 have Y:=Su.mpr N;have p:∀{T:a0z} i,i<T.length->∃x,T[i]?=My x/\x∈T:=λi g=>⟨_,ON g,Qr g⟩;have t:∀{K:QW} {f:a0z} {i:Nat} {x y:P6} {Q:a0C->QW->Prop},kindOf K=κ->(RU K).toList=P++f->f.Perm T->f[i]?=My x->f[i+1]?=My y->Q (My (decide (rk y<rk x))) K->UQ M A E s (ltAt' (P.length+(i+1)) (P.length+(i+1)-1)) Q K:=λ{K f i x y Q} r V J D b k=>
  Z8 C r (by rw[V,lJ,b]) (by rw[V,show P.length+(i+1)-1=P.length+i by rfl,lJ,D]) (u y (J.mem_iff.mp (Pd b))) (u x (J.mem_iff.mp (Pd D))) k
 have v:∀{i:Nat} {x y:P6},T[i]?=My x->T[i+1]?=My y->¬rk y<rk x->rk x<rk y:=λD b q=>Qm (Th q) (xh nd D b (Um _));have z:∀{n:Nat},1<=n->∃k,n=k+1:=λ{n} h=>⟨n-1,(TL h).symm⟩;rw[countRun'_eq];refine lp (λi c d=>K=d/\c.1=OI/\c.2=i/\Sd rk (T.take i)) (λc d=>K=d/\c.1=OI/\1<=c.2/\c.2<=T.length/\Sd rk (T.take c.2)/\(c.2=T.length\/∃x y,T[c.2-1]?=My x/\T[c.2]?=My y/\rk y<rk x)) ⟨rfl,rfl,rfl,?_⟩ ?_ ?_ ?_
 .obtain⟨x,D,_⟩:=p 0 Y
  rw[xr (i:=0) D];exact Qz _ _
 .rintro i ⟨_,n⟩ _ j g ⟨rfl,rfl,rfl,G⟩
  obtain⟨i,rfl⟩:∃k,n=k+1:=z j;obtain⟨x,D,_⟩:=p (T:=T) i (QZ g);obtain⟨y,b,_⟩:=p (T:=T) (i+1) g;exact Ps (t r V (.refl _) D b (wD (λq=>Pt ⟨rfl,rfl,j,Qo g,G,.inr ⟨x,y,D,b,q⟩⟩) λq=>Pt ⟨rfl,rfl,rfl,G.sn D b (v D b q)⟩))
 .rintro⟨_,n⟩ _ ⟨rfl,rfl,e,G⟩
  rw[WF Y]at e G;cases e;exact⟨rfl,rfl,Y,OW _,G,.inl rfl⟩
 rintro⟨_,n⟩ _ ⟨rfl,rfl,l,o,G,O⟩;refine wE (λ_=>Pt (h n T (RU K) l o (.refl _) G V)) λq1=>wC (λq2=>?_) λq2=>?_
 .have q2:1<n:=q2
  have o:n<=T.length:=o;have l:0<n:=l;obtain⟨x,D,B⟩:=p (T:=T) 0 Y;obtain⟨y,b,F⟩:=p (T:=T) (n-1) (Pm (Nat.sub_lt l Nat.one_pos) o);refine Ps (Z8 C r (by rw[V,show P.length=P.length+0 from rfl,lJ,D]) (x:=x) (y:=y) (by rw[V,Nat.add_sub_assoc l,lJ,b]) (u x B) (u y F) (wT (Pf ?_) (Pt (h n T (RU K) l o (.refl _) G V))));have D:(T.take n)[0]?=My x:=by rw[TC,OZ l,D]
  have b:(T.take n)[n-1]?=My y:=by rw[TC,OZ (Nat.sub_lt l Nat.one_pos),b]
  obtain⟨j,rfl⟩:=OT.mp D;obtain⟨R,rfl⟩:=OT.mp b;exact Tg.mp G 0 (n-1) j R (Nat.sub_pos_of_lt q2)
 cases Nat.le_antisymm (Th q2) l;obtain⟨x,y,D,b,H⟩:=O.resolve_left q1;refine Ps (Wk (Ro ⟨rfl,lp (λi c d=>K=d/\c.1=OI/\c.2.1=i/\c.2.2=0/\Sd rk (T.take i).reverse) (λc d=>K=d/\c.1=OI/\1<=c.2.1/\c.2.1<=T.length/\c.2.2=0/\Sd rk (T.take c.2.1).reverse) ⟨rfl,rfl,rfl,rfl,Sd.rn (i:=0) (by rw[xr (i:=0) D];exact Qz _ _) D b H⟩ ?_ ?_ ?_⟩))
 .rintro i ⟨_,n,m⟩ _ j g ⟨rfl,rfl,rfl,rfl,G⟩
  have j:=Qo j;obtain⟨i,rfl⟩:∃k,n=k+1:=z j;obtain⟨x,D,B⟩:=p (T:=T) i (QZ g);obtain⟨y,b,F⟩:=p (T:=T) (i+1) g;exact Ps (t r V (.refl _) D b (wD (λq=>Pt ⟨rfl,rfl,rfl,rfl,G.rn D b q⟩) λq=>Ps (Z8 C r (x:=x) (y:=y) (by rw[V];exact(lJ i).trans D) (by rw[V];exact(lJ (i+1)).trans b) (u x B) (u y F) (wT (Pf (v D b q)) (Pt ⟨rfl,rfl,j,Qo g,rfl,G⟩)))))
 .rintro⟨_,n,m⟩ _ ⟨rfl,rfl,e,rfl,G⟩
  rw[WF (Qm Y q1)]at e G;cases e;exact⟨rfl,rfl,Y,OW _,rfl,G⟩
 rintro⟨_,n,_⟩ _ ⟨rfl,rfl,l,o,rfl,G⟩;have w:=mir (a:=RU K) (P:=P) (X:=T.take n) (S:=T.drop n) (by rw[V,O3,PL]);rw[PR,RT o,O3]at w;have pm:((T.take n).reverse++T.drop n).Perm T:=(List.reverse_perm _|>.append_right _).trans (by rw[PL]);have W:((T.take n).reverse++T.drop n).take n=(T.take n).reverse:=WS (by rw[UD,PR,RT o]);rw[<-W]at G;generalize (T.take n).reverse++T.drop n=f at w pm G;have L:=pm.length_eq;have I:(f.map rk).Nodup:=(pm.map rk).nodup_iff.mpr nd;refine wF (Qg 0) (Ps (Ua ?_));refine lp (λi c d=>VL K (mirror (RU K) P.length (P.length+n) ((P.length+n-P.length)/2))=d/\c.1=OI/\c.2=i/\Sd rk (f.take i)) (λc d=>VL K (mirror (RU K) P.length (P.length+n) ((P.length+n-P.length)/2))=d/\c.1=OI/\1<=c.2/\c.2<=T.length/\Sd rk (f.take c.2)) ⟨rfl,rfl,rfl,G⟩ ?_ ?_ ?_
 .rintro i ⟨_,k⟩ _ j g ⟨rfl,rfl,rfl,G⟩
  have j:=Pj l j;obtain⟨i,rfl⟩:∃Z,k=Z+1:=z j;rw[<-L]at g;obtain⟨x,D,_⟩:=p (T:=f) i (QZ g);obtain⟨y,b,_⟩:=p (T:=f) (i+1) g;rw[L]at g;exact Ps (t r w pm D b (wD (λq=>Pt ⟨rfl,rfl,j,Qo g,G⟩) λq=>Pt ⟨rfl,rfl,rfl,G.sn D b (Qm (Th q) (xh I D b (Um _)))⟩))
 .rintro⟨_,k⟩ _ ⟨rfl,rfl,e,G⟩
  rw[WF o]at e G;cases e;exact⟨rfl,rfl,Y,OW _,G⟩
 rintro⟨_,k⟩ _ ⟨rfl,rfl,l,o,G⟩;exact Pt (h k f _ l o pm G w)
theorem bin(C:Cm M A E s κ U rk){K:QW}(B:kindOf K=κ)(ha:(RU K).toList=P++T)(t:∀x∈T,U x)(nd:(T.map rk).Nodup)(Z:1<=ok)(on:ok<=n)(hn:n<=T.length)(G:Sd rk (T.take ok))
  (h:∀(b:a0z) (a:a0v),b.Perm T->Sd rk (b.take n)->a.toList=P++b->Q OL (VL K a)):UQ M A E s (binarySort' P.length n ok) Q K:=by
 rw[binarySort'_eq];rw[show Yb ok 1=ok by lia];refine lp (λk c d=>c.1=OI/\∃(b:a0z) (a:a0v),VL K a=d/\b.Perm T/\Sd rk (b.take k)/\a.toList=P++b) (λc d=>c.1=OI/\∃(b:a0z) (a:a0v),VL K a=d/\b.Perm T/\Sd rk (b.take n)/\a.toList=P++b) ⟨rfl,T,RU K,rfl,.refl _,G,ha⟩ ?_ ?_ ?_
 .rintro k ⟨_,u⟩ _ v F ⟨rfl,b,a,rfl,V,G,e⟩
  have lT:=V.length_eq;have p:(b.map rk).Nodup:=(V.map rk).nodup_iff.mpr nd;obtain⟨z,o⟩:∃z,b[k]?=My z:=⟨_,ON (by lia)⟩;have H:=t z (V.mem_iff.mp (Pd o));have I:∀x∈(b.take k).drop k,rk z<rk x:=λx hx=>by
   rw[XJ (by rw[PR];lia)]at hx;cases hx
  dsimp only at*
  refine lp (λi c d=>VL K a=d/\c.1=OI/\c.2.1<=c.2.2/\c.2.2<=k/\c.2.2-c.2.1+i<=k/\(∀x∈b.take c.2.1,rk x<rk z)/\∀x∈(b.take k).drop c.2.2,rk z<rk x) (λc d=>VL K a=d/\c.1=OI/\c.2.1<=k/\(∀x∈b.take c.2.1,rk x<rk z)/\∀x∈(b.take k).drop c.2.1,rk z<rk x) ⟨rfl,rfl,Ql _,OW _,OW _,λx hx=>(by rw[TZ]at hx;cases hx),I⟩ ?_ ?_ ?_
  .rintro i ⟨_,l,r⟩ _ _ F ⟨rfl,rfl,v,f,J,g,j⟩
   dsimp only at*
   by_cases q:l≥r
   .rw[OZ q]
    obtain rfl:l=r:=by lia
    exact Pt ⟨rfl,rfl,f,g,j⟩
   rw[OY q];obtain⟨x,ex⟩:∃x,b[(l+r)/2]?=My x:=⟨_,ON (by lia)⟩;refine Ps (Z8 C B (by rw[e,lJ,o]) (by rw[e,lJ,ex]) H (t x (V.mem_iff.mp (Pd ex))) ?_)
   dsimp only
   have m:(b.take k)[(l+r)/2]?=My x:=by rw[TC,OZ (by lia),ex]
   by_cases q2:rk z<rk x
   .rw[OZ (Pf q2)]
    exact Pt ⟨rfl,rfl,by dsimp only;lia,by dsimp only;lia,by dsimp only;lia,g,G.hd m q2⟩
   .rw[OY (λz=>q2 (QP z))]
    have ne:=xh p ex o (by lia);refine Pt ⟨rfl,rfl,by dsimp only;lia,f,by dsimp only;lia,λy hy=>?_,j⟩;exact P5 (G.tl m (OW _) y (by rw[VU,RT (by lia)];exact hy)) (by lia)
  .rintro⟨_,l,r⟩ _ ⟨rfl,rfl,v,f,J,g,j⟩
   dsimp only at*
   obtain rfl:l=r:=by lia
   exact⟨rfl,rfl,f,g,j⟩
  rintro⟨_,l,r⟩ _ ⟨rfl,rfl,f,g,j⟩
  dsimp only at*
  rw[moveDown'_eq];have w:b.take l++(b.take k).drop l=b.take k:=by
   have:=PL l (b.take k);rw[VU,RT f]at this;exact this
  have L:b=b.take l++(b.take k).drop l++z::b.drop (k+1):=by
   rw[w,<-ZN o,PL]
  have l1:(b.take l).length=l:=by rw[PR];lia
  have l2:((b.take k).drop l).length=k-l:=by rw[Sy,PR];lia
  rw[<-w]at G;generalize b.take l=X at*;generalize (b.take k).drop l=D at*;generalize b.drop (k+1)=S at*;subst L;refine Ps (Ua (Pt ⟨rfl,X++z::(D++S),_,rfl,?_,?_,?_⟩))
  .refine Ug.trans ?_ V
   rw[O3];exact List.perm_middle.symm.append_left _
  .obtain⟨N,O,R⟩:=PV.mp G
   have W:(X++z::(D++S)).take (k+1)=X++z::D:=by
    rw[show X++z::(D++S)=(X++z::D)++S by simp,WS (by rw[O1,Pb];lia)]
   rw[W];refine PV.mpr ⟨N,R5.mpr ⟨j,O⟩,λx hx y hy=>?_⟩;rcases O6.mp hy with rfl|hy
   .exact g x hx
   .exact R x hx y hy
  .have:=bub (a:=a) (P:=P++X) (Y:=D) (S:=S) (z:=z) (by rw[e];simp)
   rw[O1,show P.length+X.length+D.length=P.length+k by lia]at this;show(bubble a (P.length+k) (P.length+k-(P.length+l))).toList=_;rw[show P.length+k-(P.length+l)=D.length by lia,this];simp
 .rintro⟨_,u⟩ _ ⟨rfl,b,a,rfl,V,G,e⟩
  exact⟨rfl,b,a,rfl,V,by rw[show Yb ok n=n by lia]at G;exact G,e⟩
 rintro⟨_,u⟩ _ ⟨rfl,b,a,rfl,V,G,e⟩;exact Pt (h b a V G e)
def eU:Nat->List a0z->a0h
 |_,[]=>[]
 |n,r::rs=>(n,r.length)::eU (n+r.length) rs
theorem jZ:∀(n:Nat) (i R:List a0z),eU n (i++R)=eU n i++eU (n+i.flatten.length) R
 |n,[],R=>rfl
 |n,r::i,R=>by
  show(n,r.length)::eU (n+r.length) (i++R)=(n,r.length)::(eU (n+r.length) i++_);rw[jZ,Rb,O1,Nat.add_assoc]
theorem nc:∀(n:Nat) (i:List a0z),(eU n i).length=i.length
 |_,[]=>rfl
 |n,r::i=>Qb (·+1) (nc (n+r.length) i)
abbrev p2(q:Nat×Nat×Nat):Nat×Nat:=(q.1,q.2.1)
theorem LN{s a:Type}(f:s->a):∀(l:List s) (i:Nat),(l.eraseIdx i).map f=(l.map f).eraseIdx i
 |[],_=>rfl
 |_::_,0=>rfl
 |x::l,i+1=>Qb (f x::·) (LN f l i)
structure RI (κ:W0) (rk:a0S) (L:a0z) (rs:List a0z) (T:a0z) (st:QW):Prop where
 kd:kindOf st=κ
 fl:UT st=OI
 ar:(RU st).toList=rs.flatten++T
 pm:(RU st).toList.Perm L
 sd:∀r∈rs,Sd rk r/\r≠[]
 pe:(QL st).toList.map p2=eU 0 rs
variable{L:a0z}{rs:List a0z}{st:QW}
theorem RI.len(h:RI κ rk L rs T st):(QL st).size=rs.length:=by
 rw[<-O9,<-OH (f:=p2),h.pe,nc]
theorem RI.mg(C:Cm M A E s κ U rk)(p:∀x∈L,U x)(V:(L.map rk).Nodup)(h:RI κ rk L rs T st){i:Nat}(t:i+1<rs.length)(k:∀c f,RI κ rk L c T f->c.length+1=rs.length->c.flatten.length=rs.flatten.length->Q OL f):UQ M A E s (mergeAt' i) Q st:=by
 obtain⟨R,X,Y,R2,rfl,rfl⟩:∃R X Y R2,rs=R++X::Y::R2/\R.length=i:=⟨rs.take i,rs[i],rs[i+1],rs.drop (i+2),by
  rw[<-Qa,<-Qa,PL],by rw[PR];lia⟩
 have K:=h.ar;have D:=h.pe;have z:=h.pm;have l:=h.sd X (by simp);have n:=h.sd Y (by simp);simp only[YE,Rb,O3]at K;rw[jZ]at D;have G:=nc 0 R;have m:∃w,(QL st)[R.length]?=My (R.flatten.length,X.length,w):=by
  have:((QL st).toList.map p2)[R.length]?=My (R.flatten.length,X.length):=by
   rw[D,Qw (by lia),G,Ti];show My (0+R.flatten.length,X.length)=_;rw[Q0]
  rw[OS,Qd]at this;obtain⟨⟨u,v,w⟩,e,d⟩:=SF.mp this;cases d;exact⟨w,e⟩
 have d:∃w,(QL st)[R.length+1]?=My (R.flatten.length+X.length,Y.length,w):=by
  have:((QL st).toList.map p2)[R.length+1]?=My (R.flatten.length+X.length,Y.length):=by
   rw[D,Qw (by lia),G,Rn];show My (0+R.flatten.length+X.length,Y.length)=_;rw[Q0]
  rw[OS,Qd]at this;obtain⟨⟨u,v,w⟩,e,d⟩:=SF.mp this;cases d;exact⟨w,e⟩
 obtain⟨q,m⟩:=m;obtain⟨B,d⟩:=d;have b:=z;rw[K]at b;have F:∀x∈X,∀y∈Y,rk x≠rk y:=by
  have:=(b.map rk).nodup_iff.mpr V;simp only[Pw]at this;have:=(Si.mp (Si.mp this).2.1).2.2;exact λx hx y H=>this _ (OR.mpr ⟨x,hx,rfl⟩) _ (PD.mpr (.inl (OR.mpr ⟨y,H,rfl⟩)))
 refine mat C (P:=R.flatten) (X:=X) (Y:=Y) (S:=R2.flatten++T) h.kd h.fl (by rw[K];simp) (λx hx=>p x (b.mem_iff.mp (by simp at hx⊢;rcases hx with hx|hx<;>simp[hx]))) F l.1 n.1 l.2 n.2 m d λZ a g j o=>k (R++Z::R2) _ ⟨h.kd,h.fl,?_,?_,?_,?_⟩ ?_ ?_
 .show a.toList=_
  rw[o];simp
 .show a.toList.Perm L
  refine Ug.trans ?_ b;rw[o,O3];refine Xa _ ?_;rw[<-O3 X];exact j.1.append_right _
 .intro r hr
  rcases PD.mp hr with hr|hr
  .exact h.sd r (by simp[hr])
  .rcases O6.mp hr with rfl|hr
   .exact⟨j.2,λe=>l.2 (by have:=j.1.length_eq;rw[e]at this;simp at this;exact Rm.mp (by lia))⟩
   .exact h.sd r (by simp[hr])
 .show Q2 p2 (((QL st).setIfInBounds R.length (R.flatten.length,X.length+Y.length,q)).eraseIdxIfInBounds (R.length+1)).toList=_
  rw[Array.toList_eraseIdxIfInBounds,LN,UR,TY,D,XT _ _ (by lia),G,Ti];show(eU 0 R++(R.flatten.length,X.length+Y.length)::(0+R.flatten.length+X.length,Y.length)::eU (0+R.flatten.length+X.length+Y.length) R2).eraseIdx (R.length+1)=_;rw[List.eraseIdx_append_of_length_le (by lia),G,Rn,jZ];show eU 0 R++(R.flatten.length,X.length+Y.length)::eU (0+R.flatten.length+X.length+Y.length) R2=eU 0 R++(0+R.flatten.length,Z.length)::eU (0+R.flatten.length+Z.length) R2;have:=j.1.length_eq;rw[O1]at this;rw[this,Q0,Nat.add_assoc R.flatten.length]
 .simp only[O1,Pb]
  rfl
 .have:=j.1.length_eq
  simp at this⊢;lia
theorem RI.tl(h:RI κ rk L rs T st){b:a0z}{a:a0v}(i:b.Perm T)(c:a.toList=rs.flatten++b):RI κ rk L rs b (VL st a):=⟨h.kd,h.fl,c,by
 show a.toList.Perm L;rw[c];refine(i.append_left _).trans ?_;rw[<-h.ar];exact h.pm,h.sd,h.pe⟩
theorem RI.pw(h:RI κ rk L rs T st):RI κ rk L rs T (setPending st ((QL st).modify k λx=>(x.1,x.2.1,w))):=⟨h.kd,h.fl,h.ar,h.pm,h.sd,by
 show Q2 p2 ((QL st).modify k λx=>(x.1,x.2.1,w)).toList=_;rw[<-h.pe,Array.toList_modify];refine TX λj=>?_;rw[OS,OS,List.getElem?_modify];cases(QL st).toList[j]? with
 |none=>rfl
 |some q=>by_cases z:k=j<;>simp[z]⟩
theorem RI.pu(h:RI κ rk L rs T st)(b:1<=n)(a:n<=T.length)(s:Sd rk (T.take n)){i:Nat}(el:i=rs.flatten.length):RI κ rk L (rs++[T.take n]) (T.drop n) (setPending st ((QL st).push (i,n,0))):=by
 refine⟨h.kd,h.fl,?_,h.pm,λr hr=>?_,?_⟩
 .show(RU st).toList=_
  rw[h.ar];simp
 .rcases PD.mp hr with hr|hr
  .exact h.sd r hr
  .cases Po.mp hr
   exact⟨s,λe=>(by have:=Qb TK e;rw[PR,Sc]at this;lia)⟩
 .show Q2 p2 ((QL st).push (i,n,0)).toList=_
  rw[TN,Pw,h.pe,jZ,Q0,<-el];show eU 0 rs++[(i,n)]=eU 0 rs++[(i,(T.take n).length)];rw[PR,RT a]
theorem AM:∀{rs:List a0z},(∀r∈rs,Sd rk r/\r≠[])->rs.length<=rs.flatten.length
 |[],_=>OW _
 |r::rs,h=>by
  have:=AM (rs:=rs) λx i=>h x (OO _ i);have:=Su.mpr (h r OU).2;rw[Rb,O1,Pb];lia
theorem srt(C:Cm M A E s κ U rk)(W:kindOf st=κ)(Z:UT st=OI)(v:QL st=#[])(G:(RU st).toList=L)(F:∀x∈L,U x)(K:(L.map rk).Nodup)(h:∀f,UT f=OI->(RU f).toList.Perm L->Sd rk (RU f).toList->Q () f):UQ M A E s sortRuns' Q st:=by
 have X:(RU st).size=L.length:=by rw[<-G,O9]
 rw[sortRuns'_eq];refine Ps (VG ?_)
 dsimp only
 rw[X];refine lp (λt c f=>c.1=OI/\∃rs T,RI κ rk L rs T f/\c.2=rs.flatten.length/\(t<=c.2\/L.length<=c.2)) (λc f=>c.1=OI/\∃rs,RI κ rk L rs [] f) ⟨rfl,[],L,⟨W,Z,G,by rw[G],λ_ Y=>(by cases Y),by rw[v];rfl⟩,rfl,.inl (Ql _)⟩ ?_ ?_ ?_
 .rintro t ⟨_,lo⟩ st _ ht ⟨rfl,rs,T,d,rfl,hl⟩
  dsimp only at*
  have o:=d.pm.length_eq;rw[d.ar,O1]at o;by_cases q:rs.flatten.length≥L.length
  .rw[OZ q]
   obtain rfl:T=[]:=Rm.mp (by lia);exact Pt ⟨rfl,rs,d⟩
  rw[OY q];have H:L.length-rs.flatten.length=T.length:=by lia
  have O:∀{w:a0z},w.Perm T->(∀x∈w,U x)/\(w.map rk).Nodup:=λ{w} v=>by
   have:=d.pm;rw[d.ar]at this;exact⟨λx z=>F x (this.mem_iff.mp (PD.mpr (.inr (v.mem_iff.mp z)))),(v.map rk).nodup_iff.mpr (by
    have:=(this.map rk).nodup_iff.mpr K;rw[Pw]at this;exact(Si.mp this).2.1)⟩
  rw[H];obtain⟨u0,I⟩:=O (.refl _);refine Ps (cnt C (P:=rs.flatten) d.kd d.ar u0 I (λe=>(by rw[e]at H;simp only[Sc]at H;lia)) λn l a B m S y ea=>?_);have d:=d.tl S ea;have aa:=S.length_eq
  dsimp only
  by_cases V:n<minRun' L.length L.length 0;rw[OZ V];refine Ps (Wk (Ro ⟨rfl,?_⟩));obtain⟨u1,nd1⟩:=O S;refine Ps (bin C (P:=rs.flatten) d.kd d.ar u1 nd1 B (by lia) (by lia) y λR a2 p y J=>?_);rw[OY (by decide)];have d:=d.tl p J;have ab:=p.length_eq;have B:1<=SC T.length (minRun' L.length L.length 0):=by lia
  have m:SC T.length (minRun' L.length L.length 0)<=R.length:=by lia
  generalize VL (VL st a) a2=st at d⊢;generalize SC T.length (minRun' L.length L.length 0)=n at B m y⊢;generalize R=l at d m y
  rotate_left
  rw[OY V];have m:n<=l.length:=by lia
  generalize VL st a=st at d⊢
  all_goals
   refine Ps (VG ?_);have u:∀{g:List a0z} {st:QW},RI κ rk L g l st->g.flatten.length=rs.flatten.length->UQ M A E s ((modify λs=>setPending s ((QL s).push (rs.flatten.length,n,0)))>>=λ_=>Ry (Uc ((OI:Option Unit),rs.flatten.length+n))) (λr f=>match r with| .done c'=>c'.1=OI/\∃rs,RI κ rk L rs [] f| .yield c'=>c'.1=OI/\∃rs T,RI κ rk L rs T f/\c'.2=rs.flatten.length/\(t+1<=c'.2\/L.length<=c'.2)) st:=λ{g st} d i=>by
    refine Ps (Ua (Pt ⟨rfl,_,_,d.pu B m y i.symm,?_,?_⟩))
    .rw[YE,O1,i]
     show rs.flatten.length+n=rs.flatten.length+(l.take n++[]).length;rw[PN,PR,RT m]
    .show t+1<=rs.flatten.length+n\/L.length<=rs.flatten.length+n
     lia
   cases(QL st).back? with
   |none=>exact u d rfl
   |some b=>
    obtain⟨b1,b2,b3⟩:=b
    dsimp only
    refine lp (λ_ c f=>c.1=OI/\∃g,RI κ rk L g l f/\g.flatten.length=rs.flatten.length) (λc f=>c.1=OI/\∃g,RI κ rk L g l f/\g.flatten.length=rs.flatten.length) ⟨rfl,rs,d,rfl⟩ ?_ (λ_ _ h=>h) ?_
    .rintro _ ⟨_,_⟩ st _ _ ⟨rfl,g,d,i⟩
     refine Ps (VG ?_);have rl:=d.len;by_cases D:(QL st).size>1
     .rw[OZ D,getElem?_pos (QL st) ((QL st).size-2) (by lia)]
      dsimp only
      refine B6 (Pt ⟨rfl,g,d,i⟩) (Ps (d.mg C F K (by lia) λj N k _ l2=>?_));exact Pt ⟨rfl,j,k,l2.trans i⟩
     .rw[OY D]
      exact Pt ⟨rfl,g,d,i⟩
    .rintro⟨_,_⟩ st ⟨rfl,g,d,i⟩
     exact Ps (Ua (u d.pw i))
 .rintro⟨_,lo⟩ st ⟨rfl,rs,T,d,el,hl⟩
  dsimp only at*
  have o:=d.pm.length_eq;rw[d.ar,O1,<-el]at o;obtain rfl:T=[]:=Rm.mp (by lia);exact⟨rfl,rs,d⟩
 .rintro⟨_,lo⟩ st ⟨rfl,rs,d⟩
  have o:=d.pm.length_eq;rw[d.ar,PN]at o;have fl:=AM d.sd;refine lp (λt c f=>c.1=OI/\∃rs,RI κ rk L rs [] f/\rs.length+t<=L.length) (λc f=>c.1=OI/\∃rs,RI κ rk L rs [] f/\rs.length<=1) ⟨rfl,rs,d,by lia⟩ ?_ ?_ ?_
  .rintro t ⟨_,_⟩ st _ ht ⟨rfl,rs,d,i⟩
   refine Ps (VG ?_);have rl:=d.len;by_cases D:(QL st).size<=1
   .rw[OZ D]
    exact Pt ⟨rfl,rs,d,by lia⟩
   .rw[OY D]
    have dc:∀(c:Prop) [Decidable c],(if c then(QL st).size-2-1 else(QL st).size-2)+1<rs.length:=λc _=>by split<;>lia
    refine Ps (d.mg C F K (dc _) λj N k l1 _=>?_);exact Pt ⟨rfl,j,k,by lia⟩
  .rintro⟨_,_⟩ st ⟨rfl,rs,d,i⟩
   exact⟨rfl,rs,d,by lia⟩
  .rintro⟨_,_⟩ st ⟨rfl,rs,d,i⟩
   refine Pt (h st d.fl d.pm ?_);rw[d.ar]
   match rs,i,d.sd with
   |[],_,_=>exact Uv
   |[r],_,y=>
    have:=(y r OU).1;simpa using this
   |_::_::_,i,_=>simp at i
end
end L2.Hb
namespace L2.Hs
open PySem.W
noncomputable def bR:a0e->a0e->Bool
 |[],[]=>OQ
 |[],_::_=>OL
 |_::_,[]=>OQ
 |a::as,b::bs=>if a=b then bR as bs else decide (a<b)
theorem gq:∀x,bR x x=OQ
 |[]=>rfl
 |a::as=>by unfold bR;rw[OZ rfl];exact gq as
theorem oV:∀{x y z},bR x y=OL->bR y z=OL->bR x z=OL
 |[],[],_,h,_=>by cases h
 |[],_::_,[],_,h=>by cases h
 |[],_::_,_::_,_,_=>rfl
 |_::_,[],_,h,_=>by cases h
 |_::_,_::_,[],_,h=>by cases h
 |a::as,b::bs,c::cs,h1,h2=>by
  unfold bR at h1 h2⊢;by_cases E:a=b
  .rw[OZ E]at h1
   by_cases D:b=c
   .rw[OZ D]at h2
    rw[OZ (E.trans D)];exact oV h1 h2
   .rw[OY D]at h2
    rw[OY (by rw[E];exact D),E];exact h2
  .rw[OY E]at h1
   have d:=QP h1;by_cases D:b=c
   .rw[OY (by rw[<-D];exact E),<-D];exact h1
   .rw[OY D]at h2
    have e:=QP h2;rw[OY (by lia)];exact Pf (by lia)
theorem ma:∀{x y},bR x y=OQ->bR y x=OQ->x=y
 |[],[],_,_=>rfl
 |[],_::_,h,_=>by cases h
 |_::_,[],_,h=>by cases h
 |a::as,b::bs,h1,h2=>by
  unfold bR at h1 h2;by_cases q:a=b
  .rw[OZ q]at h1
   rw[OZ q.symm]at h2;rw[q,ma h1 h2]
  .rw[OY q]at h1
   rw[OY (Ne.symm q)]at h2;have:=Yd h1;have:=Yd h2;lia
theorem uP{D:Type}{p q:D->Bool}:∀{L:List D},(∀l∈L,p l=OL->q l=OL)->∀{i},i∈L->p i=OQ->q i=OL->L.countP p<L.countP q
 |[],_,i,h,_,_=>by cases h
 |a::L,hpq,i,hi,h1,h2=>by
  have E:L.countP p<=L.countP q:=List.countP_mono_left λl b=>hpq l (OO a b);rcases O6.mp hi with rfl|hi
  .rw[List.countP_cons_of_neg (by rw[h1];exact O4),List.countP_cons_of_pos h2]
   exact Vz ‹_›
  .have ih:=uP (λl b=>hpq l (OO a b)) hi h1 h2
   rw[List.countP_cons,List.countP_cons];have:(if p a=OL then 1 else 0)<=(if q a=OL then 1 else 0):=by
    by_cases z:p a=OL
    .rw[OZ z,OZ (hpq a OU z)];exact OW 1
    .rw[OY z];exact Ql _
   lia
def K_(K:LI)(k:a0e):Nat:=K.countP λj=>bR j k
section
variable{K:LI}{k l:a0e}
theorem Iz(a:k∈K)(h:bR k l=OL):K_ K k<K_ K l:=uP (λ_ _ z=>oV z h) a (gq _) h
theorem oF(b:k∈K)(c:l∈K):decide (K_ K k<K_ K l)=bR k l:=by
 cases h:bR k l with
 |true=>exact Pf (Iz b h)
 |false=>
  refine PY λz=>?_;cases a:bR l k with
  |true=>exact Nat.lt_asymm z (Iz c a)
  |false=>exact Qg _ (ma h a▸z)
theorem K8(a:k∈K)(b:l∈K)(h:K_ K k=K_ K l):k=l:=by
 refine ma ?_ ?_
 .rw[<-oF a b,h];exact PY (Qg _)
 .rw[<-oF b a,h];exact PY (Qg _)
abbrev Up(l:LI):Prop:=l.Pairwise λa b=>bR a b=OL
theorem lR:∀{l m:LI},Up l->Up m->(∀x,x∈l↔x∈m)->l=m
 |[],[],_,_,_=>rfl
 |[],b::m,_,_,h=>by have:=(h b).mpr OU;cases this
 |a::l,[],_,_,h=>by have:=(h a).mp OU;cases this
 |a::l,b::m,h1,h2,h=>by
  obtain⟨c,p2⟩:=R5.mp h1;obtain⟨D,E⟩:=R5.mp h2;have e:a=b:=by
   rcases O6.mp ((h a).mp OU)with z|z
   .exact z
   .rcases O6.mp ((h b).mpr OU)with w|w
    .exact w.symm
    .have:=oV (D a z) (c b w)
     rw[gq]at this;cases this
  subst e;congr 1;refine lR p2 E λx=>⟨λk=>?_,λk=>?_⟩
  .rcases O6.mp ((h x).mp (OO a k))with rfl|z
   .have:=c x k;rw[gq]at this;cases this
   .exact z
  .rcases O6.mp ((h x).mpr (OO a k))with rfl|z
   .have:=D x k;rw[gq]at this;cases this
   .exact z
variable{aa:PM}{w:P0}{A:P7}{E:a0d}{s:OV}
theorem vU{b:Bool}:∀{K G:a0e} {D E:a0g} (i:Nat),ItemsAre (VC aa w) K D->ItemsAre (VC aa w) G E->∀n m:Nat,(decide (n+D.length<m+E.length)=decide (K.length<G.length))->Q (bR K G) s->KatLex aa w A OL (decide (n+D.length<m+E.length)) Q (D.zip E) i s
 |[],G,D,E,i,hx,hy,n,m,e,q=>by
  cases hx;cases hy with
  |nil=>rw[Vh];exact kat_nil (by rw[e];exact q)
  |cons c d=>rw[Vh];exact kat_nil (by rw[e];exact q)
 |x::K,G,D,E,i,hx,hy,n,m,e,q=>by
  cases hx with
  |@cons _ u _ us' c d=>
   cases hy with
   |nil=>rw[YX];exact kat_nil (by rw[e];exact q)
   |@cons y v ys' vs' h3 h4=>
    obtain⟨t1,rfl⟩:=Vc c;obtain⟨t2,rfl⟩:=Vc h3;rw[Rj];refine kat_cons (wpAny_eqBool_int ?_);unfold bR at q;by_cases z:x=y
    .rw[OZ z]at q
     rw[show(x==y)=OL by rw[Tl];exact z];refine kat_yes ?_;have f:∀k l:Nat,decide (k+(us'.length+1)<l+(vs'.length+1))=decide (k+1+us'.length<l+1+vs'.length):=λk l=>decide_eq_decide.mpr (by lia);rw[Pb,Pb,f];refine vU (b:=b) (i+1) d h4 (n+1) (m+1) ?_ q;rw[<-f,<-Pb (a:=S6 x t1),<-Pb (a:=S6 y t2),e,Pb,Pb];exact decide_eq_decide.mpr (by lia)
    .rw[OY z]at q
     rw[show(x==y)=OQ by rw[VN];exact z];refine kat_no ?_;cases g:(OL&&i==0)with
     |true=>exact oneLt_int q
     |false=>exact kat_one _ _ (lt_int (show PySem.W.BoolBack Q (.bool _) s from q))
theorem zH(k:(gt aa w).is s.heap q x)(l:(gt aa w).is s.heap r y)(h:Q (bR q r) s):O8 (Px aa w) A (keyLt' (Zt OL) (.ref x) (.ref y)) Q E s:=by
 obtain⟨m,n,o,d,i,e,a⟩:=k;obtain⟨o2,i2,p,f,j,g,c⟩:=l;refine kat_lt d e f g ?_;have:=vU (A:=A) (b:=OL) (Q:=Q) (s:=s) 0 a c 0 0 (by rw[Q0,Q0,a.length,c.length]) h;rw[Q0,Q0,O9,O9]at this;exact this
structure ZT (aa:PM) (w:P0) (A:P7) (is:Qt->a0e->OM->Prop):Prop where
 fr:∀{h h':Qt} {k:a0e} {x:OM},is h k x->(∀b o,o.cls= .type "tuple"->h.get? b=My o->h'.get? b=My o)->is h' k x
 tup:∀{h:Qt} {k:a0e} {x:OM},is h k x->∃o its n i t,h.get? x=My o/\o.cls= .type "tuple"/\o.data= .seq its n/\its[0]?=My (.int i t)
 fn:∀{h:Qt} {k k':a0e} {x:OM},is h k x->is h k' x->k=k'
 lt:∀{E:a0d} {s:OV} {Q:Bool->OV->Prop} {x y:OM} {xs ys:a0e},is s.heap xs x->is s.heap ys y->Q (bR xs ys) s->O8 (Px aa w) A (keyLt' (Zt OL) (.ref x) (.ref y)) Q E s
theorem vg(S:ZT aa w A is):∀{a:a0p},(∀k∈a,is s.heap k.1 k.2)->∃l:a0g,KatTups s.heap (a.map λk=>Pa k.2) l/\l.length=a.length/\∀v∈l,∃n t,v=S6 n t
 |[],_=>⟨[],trivial,rfl,λv hv=>by cases hv⟩
 |k::a,h=>by
  obtain⟨l,b,c,d⟩:=vg S λf g=>h f (OO k g);obtain⟨o,D,n,i,t,j,m,E,e⟩:=S.tup (h k OU);refine⟨_::l,KatTups.cons j m E e b,by rw[Pb,Pb,c],λv hv=>?_⟩;rcases O6.mp hv with rfl|hv
  .exact⟨i,t,rfl⟩
  .exact d v hv
abbrev isI(aa:PM)(w:P0)(h:Qt)(k:a0e)(x:OM):Prop:=(gt aa w).is h k x/\1<=k.length
theorem wP:ZT aa w A (isI aa w) where
 fr:=λ⟨⟨o,s,n,b,a,f,d⟩,l⟩ k=>⟨⟨o,s,n,k _ _ a b,a,f,d⟩,l⟩
 tup:=λ⟨⟨o,s,n,b,a,f,d⟩,l⟩=>by
  have c:=d.length;have g:0<s.size:=by rw[<-O9,<-c];lia
  obtain⟨i,t,e⟩:=items_int d s[0] (by rw[<-Sb];exact Qr _);exact⟨o,s,n,i,t,b,a,f,by rw[getElem?_pos s 0 g,e]⟩
 fn:=λb a=>(gt aa w).inj b.1 a.1
 lt:=λD E h=>zH D.1 E.1 h
theorem tK{s w:Type}{f:s->w}{A h:List w}(p:A.Perm h):∀{k:List s},h=k.map f->∃c:List s,c.Perm k/\A=c.map f:=by
 induction p with
 |nil=>
  intro k e;cases k with
  |nil=>exact⟨[],.refl _,rfl⟩
  |cons _ _=>cases e
 |cons x _ D=>
  intro k e;cases k with
  |nil=>cases e
  |cons a k=>
   cases e;obtain⟨c,d,g⟩:=D rfl;exact⟨a::c,d.cons a,by rw[g];rfl⟩
 |swap x y l=>
  intro k e
  match k,e with
  |[],e=>cases e
  |[_],e=>cases e
  |a::b::k,e=>
   cases e;exact⟨b::a::k,.swap _ _ _,rfl⟩
 |trans _ _ ih1 ih2=>
  intro k e;obtain⟨c,d,g⟩:=ih2 e;obtain⟨i,j,m⟩:=ih1 g;exact⟨i,j.trans d,m⟩
def xE(a:a0p)(v:OP):a0e:=match a.find? λy=>decide (v= .ref y.2)with
 |some y=>y.1
 |none=>[]
theorem qy(S:ZT aa w A is){c:a0p}(J:s.heap.get? a=My (RV "list" (c.map λk=>Pa k.2).toArray n))(d:∀k∈c,is s.heap k.1 k.2)(nd:(c.map (·.1)).Nodup)(ab:c.length<=1000)
  (h:∀(G:Qt) (j:a0p) (n':Nat),j.Perm c->Up (j.map (·.1))->G.get? a=My (RV "list" (j.map λk=>Pa k.2).toArray n')->(∀b o,b≠a->s.heap.get? b=My o->G.get? b=My o)->P (.done (.ret .none)) {s with heap:=G}):
  O8 (Px aa w) A (Builtin.«list.sort» ⟨[.ref a],[]⟩) P E s:=by
 have M:a<s.heap.objs.size:=Pq J;rw[list_sort_plain];refine OG (listItems_at J rfl ?_);refine OG (TU J rfl ?_ (by simp[Q6];lia) (by simp));obtain⟨U,N⟩:∃U,(s.heap.update a (Qx λ_=>#[])).get? a=My (RV "list" #[] U):=⟨_,get?_update_seq J (λ_=>#[])⟩;refine OG (seqEpoch_at N rfl ?_);refine OG (Yi ?_ (by simp[Q6];lia));refine OG (YT ?_ (Ql _));refine QG ?_;generalize p:(c.map λk=>Pa k.2)=vs at*;have O:vs.length=c.length:=by rw[<-p,OH]
 have g:(((s.heap.update a (Qx λ_=>#[])).push (RV "tuple" vs.toArray 0)).push (RV "list" #[] 0)).get? a=My (RV "list" #[] U):=by
  rw[Zi _ _ _ (by rw[size_push',Heap.size_update];exact Qc (Sk M)),Zi _ _ _ (by rw[Heap.size_update];exact Qc M)];exact N
 have D:∀b o,b≠a->s.heap.get? b=My o->(((s.heap.update a (Qx λ_=>#[])).push (RV "tuple" vs.toArray 0)).push (RV "list" #[] 0)).get? b=My o:=λb o B e=>by
  refine OK _ (OK _ ?_);rw[Rr _ _ _ _ B];exact e
 show O8 (Px aa w) A _ P E {s with heap:=((s.heap.update a (Qx λ_=>#[])).push (RV "tuple" vs.toArray 0)).push (RV "list" #[] 0)};generalize ac:((s.heap.update a (Qx λ_=>#[])).push (RV "tuple" vs.toArray 0)).push (RV "list" #[] 0)=h6 at g D
 dsimp only
 have R:∀(j:a0p) (u:a0H),j.Perm c->Up (j.map (·.1))->u=(j.map λk=>Pa k.2).toArray->P (.done (.ret .none)) {s with heap:=h6.update a (Qx λ_=>u)}:=λj u F p2 e=>by
  refine h _ j _ F p2 (by rw[<-e];exact get?_update_seq g λ_=>u) λb o B W=>?_;rw[Rr _ _ _ _ B];exact D b o B W
 by_cases H:vs.toArray.size<2
 .rw[OZ H,OZ H]
  refine OG (OJ ?_);rw[StateT.run_pure];refine OG (OJ ?_)
  dsimp only
  refine OG (seqEpoch_at g rfl ?_);have X:((RU (Vw general' (vs.toArray.zip vs.toArray) #[] 7 OI)).map (·.2))=vs.toArray:=by
   show(vs.toArray.zip vs.toArray).map (·.2)=_;apply Ze.mp;rw[Zf,Zg];exact List.map_snd_zip (OW _)
  rw[X];refine OG (TU g rfl ?_ (by simp) (by simp[Q6];lia));simp only[SS,Ph,Qj];refine OJ (R c _ (.refl _) ?_ (by rw[p]));have f:c.length<2:=by rw[<-O];simpa using H
  match c,f with
  |[],_=>exact Uv
  |[k],_=>exact Qz _ _
  |_::_::_,f=>simp at f;lia
 .rw[OY H,OY H]
  have ad:2<=c.length:=by rw[<-O];simp at H;omega
  have m:∀k∈c,is h6 k.1 k.2:=λk Y=>S.fr (d k Y) λb o hc B=>D b o (λz=>by
   subst z;rw[J]at B;cases B;exact Pp (Sm.inj hc) (by decide)) B
  obtain⟨fs,t1,t2,t3⟩:=vg S (s:={s with heap:=h6}) m;rw[p]at t1;refine OG (kat_kind (T:= .type "int") t1 (by lia) (λv hv=>?_) rfl ?_)
  .obtain⟨x,t,rfl⟩:=t3 v hv
   exact Looks.of_pure rfl
  show O8 _ _ (StateT.run sortRuns' (Vw (Zt OL) (vs.toArray.zip vs.toArray) #[] 7 OI)>>=_) _ _ _;have ez:(vs.toArray.zip vs.toArray).toList=c.map λk=>(Pa k.2,Pa k.2):=by
   rw[Zg,<-p];show List.zip (c.map _) (c.map _)=_;rw[List.zip_map',]
  have I:∀k∈c,xE c (Pa k.2)=k.1:=λk d=>by
   unfold xE;cases e:c.find? λy=>decide (Pa k.2=Pa y.2)with
   |none=>exact Pp (List.find?_eq_none.mp e k d) (by simp)
   |some y=>
    have y0:=List.find?_some e;have y1:k.2=y.2:=Pa.inj (QP y0);have Z:=m y (Xg e);rw[<-y1]at Z;exact S.fn Z (m k d)
  have mk:∀k∈c,k.1∈c.map (·.1):=λk d=>OR.mpr ⟨k,d,rfl⟩;have C:Hb.Cm (Px aa w) A E {s with heap:=h6} (Zt OL) (λx=>∃k∈c,x=(Pa k.2,Pa k.2)) (λx=>K_ (c.map (·.1)) (xE c x.1)):=⟨by
   rintro _ _ st Q ⟨k,d,rfl⟩ ⟨l,f,rfl⟩ hs q;show UQ _ _ _ _ (lt' _ _) Q st;rw[lt'_eq];refine Ps (VG ?_);rw[hs];refine Ps (Wk (SD (S.lt (m k d) (m l f) ⟨rfl,?_⟩)));rw[I k d,I l f,oF (mk k d) (mk l f)]at q;exact Pt q⟩
  refine OG (Qk (Hb.srt C (L:=c.map λk=>(Pa k.2,Pa k.2)) (Q:=λ_ i=>UT i=OI/\(RU i).toList.Perm (c.map λk=>(Pa k.2,Pa k.2))/\Hb.Sd (λx=>K_ (c.map (·.1)) (xE c x.1)) (RU i).toList) rfl rfl rfl ez ?_ ?_ λi q1 q2 q3=>⟨q1,q2,q3⟩) (λr s' hr=>?_) λ_ _ e=>e)
  .intro x hx
   obtain⟨k,d,rfl⟩:=OR.mp hx;exact⟨k,d,rfl⟩
  .rw[O0]
   refine QY.mpr ((QY.mp nd).imp_of_mem λ{k l} d f ne e=>ne ?_);simp only[VO,I k d,I l f]at e;exact K8 (mk k d) (mk l f) e
  .obtain⟨⟨⟩,i⟩:=r
   obtain⟨rfl,V,pm,K⟩:=hr;obtain⟨j,F,e⟩:=tK pm rfl
   dsimp only at V e K⊢
   have X:(RU i).map (·.2)=(j.map λk=>Pa k.2).toArray:=by
    apply Ze.mp;rw[Zf,e,O0];rfl
   rw[X];refine OG (seqEpoch_at g rfl ?_);refine OG (TU g rfl ?_ (by simp) (by simp[Q6,F.length_eq];lia));rw[V];simp only[SS,Ph,Qj];refine OJ (R j _ F ?_ rfl);rw[e]at K;refine QY.mpr ((QY.mp K).imp_of_mem λ{k l} d f z=>?_);have d:=F.mem_iff.mp d;have f:=F.mem_iff.mp f;simp only[I k d,I l f]at z;rw[<-oF (mk k d) (mk l f)];exact Pf z
theorem wQ{D:a0p}(H:A.handled=OI)(S:qo aa w s.heap a D)(I:∀x∈D,1<=x.1.length)(J:D.length<64)
  (h:∀(l:OM) (G:Qt) (f v:Nat) (g:a0p),g.Perm D->Up (g.map (·.1))->G.get? l=My (RV "list" (g.map λk=>Pa k.2).toArray v)->s.heap.objs.size<=l->(∀b o,s.heap.get? b=My o->G.get? b=My o)->s.toks<=f->Q (.ref l) {s with heap:=G,toks:=f}):
  O8 (Px aa w) A (Wq (.builtin "sorted") [.ref a]) Q E s:=by
 obtain⟨o,V,ep,t,L,y,Z,i,B,hx,T,N,j⟩:=S;have C:V.size=D.length:=by rw[<-O9,i,OH]
 have O:t.fits V.size=OL:=T.fits (by rw[OH,C]);refine U1 kind_sorted plain_sorted entry_sorted (args_sorted1 _) ?_;unfold Builtin.«sorted»;refine OG (m:=checkCount "sorted" 1 1 _) (OJ ?_);refine OG (u8 H L y.1 Z T O N j (by lia) λn f vs K p M pv=>?_);rw[i,O0]at pv;obtain⟨q,r,rfl⟩:=tK pv rfl;have P:q.length=D.length:=r.length_eq;refine OG (YT ?_ (by rw[OH,Q6];lia));have c:∀b d,s.heap.get? b=My d->(n.push (RV "list" (q.map λk=>Pa k.2).toArray 0)).get? b=My d:=λb d e=>OK _ (K b d e);have u:(n.push (RV "list" (q.map λk=>Pa k.2).toArray 0)).get? n.objs.size=My (RV "list" (q.map λk=>Pa k.2).toArray 0):=O7 _ rfl;show O8 _ _ _ _ _ {s with heap:=n.push (RV "list" (q.map λk=>Pa k.2).toArray 0),toks:=f};refine OG (QG (P3 slot_list_sort ⟨_,u,rfl⟩ entry_list_sort (qy wP u (λk F=>⟨?_,I k (r.mem_iff.mp F)⟩) ((r.map (·.1)).nodup_iff.mpr B) (by lia) λG g v q1 q2 q3 q4=>⟨_,rfl,?_⟩) (args_list_sort _)))
 .obtain⟨R,its,m,U,W,X,Y⟩:=hx k (r.mem_iff.mp F)
  exact⟨R,its,m,c _ _ U,W,X,Y⟩
 .refine OJ ⟨_,rfl,h n.objs.size G f v g (q1.trans r) q2 q3 p (λb d e=>q4 b d (λz=>?_) (c b d e)) M⟩
  have:=Pq e;exact Pp (z▸this) (Nat.not_lt.mpr p)
end
end L2.Hs
namespace L2.Hs
section
variable{j:PM}{w:P0}
def qp(j:PM)(w:P0)(a:OM)(D:a0p)(h:Qt):Prop:=
 ∃o E G t,h.get? a=My o/\o.ExactSet/\o.data= .set E G t/\(E.toList=D.map λx=>(hsh j w x.1,Pa x.2))/\(D.map (·.1)).Nodup/\(Tb t (D.map λx=>hsh j w x.1))/\t.plain=OL/\t.led=!(w.params.followText "set-order")
noncomputable def lL(j:PM)(w:P0)(a:OM)(D:a0p):HO:= .ext (qp j w a D)
theorem qp.to(S:qp j w a xs h)(D:∀x∈xs,(gt j w).is h x.1 x.2):qo j w h a xs:=by
 obtain⟨o,E,G,t,b,c,d,e,f,g⟩:=S;exact⟨o,E,G,t,b,c,d,e,f,D,g⟩
theorem vt(S:qp j w a d h):bJ j w H h a (lL j w a d):=by
 refine⟨S,?_,λb c z k=>?_⟩
 .obtain⟨o,_,_,_,e,_⟩:=S
  exact⟨o,e⟩
 .obtain⟨o,es,ep,t,e,r⟩:=z
  exact⟨o,es,ep,t,k _ e,r⟩
theorem DZ{k:a0e}:∀{D:a0g},aw (k.map V.int) D->ItemsAre (VC j w) k D:=by
 induction k with
 |nil=>intro D h;cases h;exact .nil
 |cons i k E=>
  intro D h;cases h with
  |cons a b=>
   obtain⟨t,rfl⟩:=a;exact .cons (by simp[VC,X1]) (E b)
variable{X:Cx}
theorem mh{s:OV}{k:a0e}(I:b_ X d f H s)(h:g_ X.K H b (k.map V.int)):(gt X.prog X.w).is s.heap k b:=by
 obtain⟨j,a,⟨o,e,c,n,D⟩,_⟩:=I.tuple h;exact⟨o,j.toArray,n,e,c,D,DZ a⟩
theorem tb0{b:Bool}:Tb (.fresh 0 0 b) []:=⟨.inl rfl,rfl,λi j a b h=>by simp[Y4]at*,λi j h=>by simp[Y4]at h,rfl,by show 0*5<7*3;decide,λi h j c=>by simp at c⟩
theorem kz:∀a:a0p,aw (a.map λz=>V.ref z.2) (a.map λk=>Pa k.2)
 |[]=> .nil
 |_::a=> .cons rfl (kz a)
theorem J1:Mks X (newSet (.type "set")) λD=>lL X.prog X.w D []:=λa s c H E Q I h=>by
 unfold newSet setsByText;refine OG (OG (UL (OJ ?_)))
 dsimp only
 simp only[newObj];refine OG (wpAny_alloc (OJ (h _ (I.laid (t':=s.toks) (λ_ _ q=>OK _ q) (OW _) (vt ?_)) λb o e=>OK _ e)));exact⟨_,#[],0,_,O7 _ rfl,⟨rfl,rfl,rfl⟩,rfl,rfl,.nil,tb0,rfl,rfl⟩
def BC(P:PM)(w:P0)(K:Pl)(D:OM)(e:TE):TB:=λd H Q=>e d H λv c=>∃j k b,c D=My (lL P w D j)/\v= .ref b/\g_ K c b (k.map V.int)/\(∀x∈j,g_ K c x.2 (x.1.map V.int))/\j.length<63/\
 ∀a,(k∈j.map (·.1)->a=j)->(k∉j.map (·.1)->a.Perm ((k,b)::j))->Q d (upd c D (lL P w D a))
theorem tM{D:OM}(p:X.A.units+1<US)(J:z[d+1]?=OI)(L:PE X elt te)(j:X.xe=λ_ _=>False):PB X (.S elt) z scope pos d D (BC X.prog X.w X.K D te):=by
 intro a s y H Q I h k Q' E' N;unfold gN;rw[J];show O8 _ _ ((do let v <-Qu elt X.env;Us elt.pos;let _ <-Wq (.builtin "set.add") [.ref D,v])>>=λ_=>k) _ _ _
 have c:=L a s y H _ I h;rw[j]at c;refine OG (OG (Qk c (λu g l=>?_) λ_ _ f=>f.elim));obtain⟨v,H1,i,r,E,O,b,B,rfl,C,G,hn,q⟩:=l;cases r;have S:qp X.prog X.w D E g.heap:=(i.hok D _ B).1;have P:qo X.prog X.w g.heap D E:=S.to λx h=>mh i (G x h);obtain⟨o,M,V,t,R,T,_⟩:=S;refine OG (RN (OG (P3 F.slot_set_add ⟨o,R,T.1⟩ F.entry_set_add ?_ (F.args_set_add_2 _ _))));unfold Builtin.«set.add» Builtin.Frozenset.oneOther;simp only[List.isEmpty_nil,bind_assoc];unfold Builtin.Frozenset.addrOf setAdd;refine OG (OJ ?_)
 try dsimp only
 refine OG (OJ ?_)
 try dsimp only
 refine OG (QG (OG ((gt X.prog X.w).pyHash p (mh i C) ?_)));refine Nr (s:={g with toks:=g.toks+(gt X.prog X.w).draws O}) p P (mh (s:=g) i C) hn λh' m sb U c1 c2=>?_;show O8 _ _ (ret P4) _ _ _;refine OJ ⟨_,rfl,OJ (N _ y _ (i.write (by rw[B];trivial) (.inl rfl) (λb u n e=>(sb.2 b n).trans e) ?_ (vt ?_)) (q m c1 c2))⟩
 all_goals obtain⟨o,M,V,t,c,l,W,Y,Z,G,h6⟩:=U
 .exact⟨o,c⟩
 .exact⟨o,M,V,t,c,l,W,Y,Z,h6⟩
def kE(c:OM->HO)(j:a0i)(w:a0a)(d:TI)(lp:OM->It->TB):TE:=λa H Q=>d a H λJ b=>∀D,b D=OI->lp D J (jH j w a) (upd b D (c D)) λ_ e=>Q (.ref D) e
theorem JO{d a b:Expr}{f:List Expr}{G:a0P}{E:Scope}{K:Ub}{j z:a0i}{bt:a0a}{g:TG}{tt:TT}{o:a0Y}{p:TI}(r:X.calm=OL)(S:cy X E j z bt)(t:PI X a b p)
  (u:∀(M:a0n) (C:OM) (k:a0q) (s:OV) (H:Hp),PG (aE X j E M C k s H) a g/\dJ (aE X j E M C k s H) f tt/\∀D,PB (aE X j E M C k s H) (.S d) (⟨a,b,f,0⟩::G) E K 0 D (o D))
  (hs:∀x,Qh b X.env x=Ry x:=by intro _;rfl):PE X (.SetComp d (⟨a,b,f,0⟩::G) E K) (kE (λD=>lL X.prog X.w D []) z bt p λD J=>cV J g tt (o D)):=by
 intro i s y H Q I h;refine SE (use:=OI) rfl hs (S.clo I.ok) S.kind S.loc (Qk (t i s y H _ I h) (λv W B=>Qk B (λF Y L=>?_) λ_ _ x=>x) λ_ _ x=>x);obtain⟨it,k,Z,J,H2,e,N,T,l,f2,q⟩:=L;subst e;refine gM (c:= .S d) J1 (RR:=λV C=>X5 (Px X.prog X.w) X.A X.xe OI _ V C) r S u N T l f2 q λD C s' O m P ns R U=>?_;exact⟨m,ns,λh' n=>⟨.ref D,O,P.letgo R n,rfl,U⟩⟩
def vD(P:PM)(w:P0)(K:Pl):a0k->Hp->VK->Prop:=λD H Q=>∃a j,D=[.ref a]/\H a=My (lL P w a j)/\(∀x∈j,g_ K H x.2 (x.1.map V.int)/\1<=x.1.length)/\j.length<64/\
 ∀(l:OM) (b:a0p),H l=OI->b.Perm j->Up (b.map (·.1))->Q (.ref l) (upd H l (.lst (b.map λz=>V.ref z.2)))
theorem u9(d:X.calm=OL):cD X (.builtin "sorted") (vD X.prog X.w X.K):=by
 intro c s j H v y Q I r h;obtain⟨a,M,rfl,n,E,t,q⟩:=h;obtain⟨u,rfl,rfl⟩:=gx r;have S:qp X.prog X.w a M s.heap:=(I.hok a _ n).1;refine wQ (I.ok.hd d) (S.to λx h=>mh I (E x h).1) (λx h=>(E x h).2) t λl A e f b p g i G D m=>?_;refine⟨.ref l,_,I.laid (t':=e) (o:= .lst (b.map λz=>V.ref z.2)) D G ⟨?_,b.map λk=>Pa k.2,f,?_,i⟩,rfl,q l b (I.hok.fresh G) p g⟩
 .rw[OH,p.length_eq,Q6];lia
 .exact kz b
end
end L2.Hs
namespace L2.Pu
open L2.Hs
def gJ(E:Nat)(G:a0a)(K:FL)(M:lk)(S:a0r)(b:FL)(a:a0b->a0l):FD:=λD V=>match K D V with
 |none=>OI
 |some (.error C,β1)=>My (.error C,β1)
 |some (.ok ds,β1)=>match mx M S b ds (jm E G D) β1 with
  |some (.ok os,β2)=>(a os).map λd=>(.ok d,β2)
  |_=>OI
section
variable{K:Pl}{E:a0s}
theorem qu{R:AR}{p:OM->HO}{c:a0b->a0l}{S:a0i}{V:a0a}{s:FL}{g:TG}{M:lk}{tt:a0r}{O:a0Y}{b:FL}(X:cB K g M)(Y:dH M)(hb:∀D,eE K R D (O D) b)
  (r0:∀F H D,R.R F (upd H D (p D)) D []) (hp:∀os d,c os=My d->R.Z os) {P:St} {H:Hp} {Q T:VK} (h:tV K (gJ S.length V s M tt b c) E P H T)
  (k:∀F B f D os d,Fr F B f->¬F.A D->R.R F B D os->c os=My d->(∀v j,To F B j f->bw K F j d v->T v j)->Q (.ref D) B):
  kE p S V (iV K s E) (λD J=>cV J g (g8 K tt E0) (O D)) P H Q:=by
 obtain⟨F,δ,β,fr,U,r,f,e,h⟩:=h;unfold gJ at e;refine⟨F,δ,β,fr,U,?_⟩;split at e
 .cases e
 .rename_i C β1 q
  cases e;exact⟨.error C,_,q,h⟩
 .rename_i ds β1 q
  split at e
  .rename_i os β2 q2
   cases G:c os with
   |none=>rw[G]at e;cases e
   |some d=>
    rw[G]at e;cases e;refine⟨.ok ds,β1,q,λJ I t hJ D m=>?_⟩;have i:¬F.A D:=t.fr.fresh m;have nb:∀b l,F.bg=My (b,l)->D≠b/\D≠l:=λb l z=>⟨λw=>i (w▸(fr.bgA b l z).1),λw=>i (w▸(fr.bgA b l z).2.1)⟩;have t2:=t.fr.upd (p D) m;have L:Fr ⟨λa=>F.A a\/a=D,F.bg⟩ (upd I D (p D)) β1:=by
     refine⟨λa ha z=>?_,λb l z=>let ⟨x,y,w⟩:=fr.bgA b l z;⟨.inl x,.inl y,w⟩,t2.fr.bag⟩
     rcases ha with ha|ha
     .exact t2.fr.occ a ha z
     .subst ha;rw[ao]at z;cases z
    have u:Tr F I ⟨λa=>F.A a\/a=D,F.bg⟩ (upd I D (p D)):=⟨λa ha hs z=>by
     rcases z with z|z
     .exact ha z
     .subst z;exact hs m,λa o ha z=>by rw[bb (aB z m)];exact z,rfl⟩
    refine md (R:=R) (D:=D) (as:=[]) (os:=os) X Y (hb D) L (.inr rfl) nb (pA (U.tr ((t.tr fr).trans u))) (r0 _ _ _) (hJ.tr u) q2 (hp os d G) λaa j t3 ab N=>?_;have W:To F I j f:=by
     refine⟨λa o z n=>t3.kp a o (by rw[bb (aB z m)];exact z) (aB z m) n,λa ha z=>t3.fr.occ a (RM ha) z,fr.bgA,t3.fr.bag⟩
    exact k F j f D os d W.fr i (R.tr (F:=⟨λa=>F.A a\/a=D,F.bg⟩) N (λ_ z=>z) ⟨λa ha _ z=>ha (RM z),λa o _ z=>z,rfl⟩) G λv H3 t4 hv=>h v H3 ((t.trans W).trans t4) hv
  .cases e
noncomputable abbrev iv(k:a0e):D:= .tup (k.map .int)
theorem qg{k:a0e}(h:bw K F H (iv k) v):∃b,v= .ref b/\g_ K H b (k.map V.int):=by
 obtain⟨a,E,rfl,D,c⟩:=bw.sqT h;cases ba.ints k c;exact⟨a,rfl,D⟩
theorem eF(h:iv k=iv l):k=l:=by
 injection h with h
 exact Wa (λa b z=>by injection z)|>.mp h
theorem nd_len{D:Type} [BEq D] [LawfulBEq D]:∀{l m:List D},l.Nodup->(∀x∈l,x∈m)->l.length<=m.length
 |[],_,_,_=>Ql _
 |a::l,m,nd,h=>by
  obtain⟨b,c⟩:=Qn.mp nd;have:=nd_len (m:=m.erase a) c λx E=>(List.mem_erase_of_ne (λ(z:x=a)=>b (z▸E))).mpr (h x (OO a E));rw[List.length_erase_of_mem (h a OU)]at this;have:=List.length_pos_of_mem (h a OU);rw[Pb];lia
noncomputable def RS(P:PM)(w:P0)(K:Pl):AR where
 R:=λF H D G=>∃E,H D=My (lL P w D E)/\(E.map (·.1)).Nodup/\(∀x∈E,bw K F H (iv x.1) (.ref x.2)/\iv x.1∈G)/\∀d∈G,∃k∈E.map (·.1),d=iv k
 Z:=λl=>∃a:LI,a.length<63/\∀d∈l,∃k∈a,d=iv k
 tr:=λh k t=>by
  obtain⟨E,b,c,e,f⟩:=h;exact⟨E,k _ b,c,λx M=>⟨bw.tr t _ _ (e x M).1,(e x M).2⟩,f⟩
 zp:=λh=>by
  obtain⟨a,b,c⟩:=h;exact⟨a,b,λd S=>c d (Sg _ S)⟩
theorem DO{D:OM}:eE K (RS P w K) D (BC P w K D (tV K f E0)) (j2 f):=λF H δ β r O as os Q fr R u I T e U k=>by
 obtain⟨E,W,s,G,ha⟩:=T;obtain⟨d,aa,X,Y⟩:=M.bind_inv e;cases Y;refine⟨F,δ,β,fr,I,E0.run X λv A t J=>?_⟩;have B:=t.kp D _ W u;obtain⟨Z,z1,L⟩:=U;obtain⟨j,ab,rfl⟩:=L d (Qe _ OU);obtain⟨b,rfl,sq⟩:=qg J;have c:∀x∈E,bw K F A (iv x.1) (.ref x.2):=λx h=>bw.tr (t.tr fr) _ _ (G x h).1;have g:E.length<63:=by
  have:=nd_len (m:=Z) s λx C=>by
   obtain⟨y,hy,rfl⟩:=OR.mp C;obtain⟨l,hl,e⟩:=L _ (Sg _ (G y hy).2);rw[eF e];exact hl
  rw[OH]at this;lia
 refine⟨E,j,b,B,rfl,sq,λx h=>?_,g,λi c1 c2=>?_⟩
 .obtain⟨b',e,q⟩:=qg (c x h)
  cases e;exact q
 have N:lm F D A (upd A D (lL P w D i)) r:=by
  refine⟨λa o h n _=>by rw[bb n];exact h,λa h q=>?_,fr.bgA,λb l q=>?_⟩
  .by_cases z:a=D
   .subst z;rw[ao]at q;cases q
   .rw[bb z]at q;exact t.fr.occ a h q
  .rw[bb (u b l q).1.symm,bb (u b l q).2.symm]
   exact t.fr.bag b l q
 have S:=N.tr t.fr R;refine k O _ ((t.toD D).trans N) (I.tr ((t.tr fr).trans S)) ⟨i,ao,?_⟩;by_cases V:j∈E.map (·.1)
 .cases c1 V
  refine⟨s,λx h=>⟨bw.tr S _ _ (c x h),Sg _ (G x h).2⟩,λd hd=>?_⟩;rcases PD.mp hd with hd|hd
  .exact ha d hd
  .exact⟨j,V,Po.mp hd⟩
 .have p:=c2 V
  refine⟨(p.map (·.1)).nodup_iff.mpr (Qn.mpr ⟨V,s⟩),λx h=>?_,λd hd=>?_⟩
  .rcases O6.mp (p.mem_iff.mp h)with rfl|h
   .exact⟨bw.tr S _ _ J,Qe _ OU⟩
   .exact⟨bw.tr S _ _ (c x h),Sg _ (G x h).2⟩
  .rcases PD.mp hd with hd|hd
   .obtain⟨k2,h2,e⟩:=ha d hd
    exact⟨k2,(p.map (·.1)).mem_iff.mpr (OO _ h2),e⟩
   .exact⟨j,(p.map (·.1)).mem_iff.mpr OU,Po.mp hd⟩
def U_(a:LI)(D:a0b):Prop:=Up a/\a.length<63/\(∀k∈a,1<=k.length/\iv k∈D)/\∀d∈D,∃k∈a,d=iv k
theorem U_.eq{D:a0b}(a:U_ d D)(b:U_ ls D):d=ls:=lR a.1 b.1 λx=>⟨λh=>by
 obtain⟨l,c,e⟩:=b.2.2.2 _ (a.2.2.1 x h).2;rw[eF e];exact c,λh=>by
 obtain⟨l,c,e⟩:=a.2.2.2 _ (b.2.2.1 x h).2;rw[eF e];exact c⟩
open Classical in
def fS(D:a0b):a0l:=if h:∃a,U_ a D then My (.lst (h.choose.map iv))else OI
theorem sP{a:LI}{D:a0b}(h:U_ a D):fS D=My (.lst (a.map iv)):=by
 have q:∃a,U_ a D:=⟨a,h⟩;unfold fS;rw[Xw q,q.choose_spec.eq h]
theorem iQ{D:a0b}(h:fS D=My d):∃a,U_ a D/\d= .lst (a.map iv):=by
 unfold fS at h;split at h
 .rename_i q
  cases h;exact⟨_,q.choose_spec,rfl⟩
 .cases h
theorem lB:∀{a:a0p},(∀z∈a,bw K F H (iv z.1) (.ref z.2))->ba K F H ((a.map (·.1)).map iv) (a.map λz=>V.ref z.2)
 |[],_=>ba.nil
 |z::a,h=>ba.cons (h z OU) (lB λx D=>h x (OO z D))
end
section
variable{X:Cx}{E:a0s}{ag bc ab:Expr}{ad:List Expr}{ac:a0P}{aa:Scope}{af p ae:Ub}{Nc cx:a0i}{bt:a0a}{g:TG}{tb:a0Y}
theorem BT(f:Gl X "sorted")(hm:X.mg "sorted"=OI)(k:X.calm=OL)(S:cy X aa Nc cx bt)(n:PI X bc ab (iV X.K it E))
  (o:∀(V:a0n) (C:OM) (i:a0q) (s:OV) (H:Hp),PG (aE X Nc aa V C i s H) bc g/\dJ (aE X Nc aa V C i s H) ad (g8 X.K tt E0)/\∀D,PB (aE X Nc aa V C i s H) (.S ag) (⟨bc,ab,ad,0⟩::ac) aa af 0 D (tb D))
  (r:cB X.K g tg) (t:dH tg) (u:∀D,eE X.K (RS X.prog X.w X.K) D (tb D) b) (hs:∀x,Qh ab X.env x=Ry x:=by intro _;rfl):
  PE X (.Call (.Name "sorted" p) [.SetComp ag (⟨bc,ab,ad,0⟩::ac) aa af] [] ae) (tV X.K (gJ cx.length bt it tg tt b fS) E):=
 (iE (u9 k) f hm (by kernel_rfl) (dX (JO k S n o hs) gF)).imp λU H Q h=>by
  refine qu (Q:=λv A=>vD X.prog X.w X.K [v] A Q) r t u (λF H D=>⟨[],ao,.nil,λx G=>Pp G (by simp),λd hd=>Pp hd (by simp)⟩) (λos d e=>?_) h λF W B D os d fr I J e q=>?_
  .obtain⟨a,s,_⟩:=iQ e
   exact⟨a,s.2.1,s.2.2.2⟩
  .obtain⟨a,s,rfl⟩:=iQ e
   obtain⟨xs,L,nd,G,ha⟩:=J;have j:∀x∈xs,x.1∈a:=λx h=>by
    obtain⟨l,c,e⟩:=s.2.2.2 _ (G x h).2;rw[eF e];exact c
   have hn:xs.length<64:=by
    have:=nd_len (m:=a) nd λy M=>by
     obtain⟨x,h,rfl⟩:=OR.mp M;exact j x h
    rw[OH]at this;have:=s.2.1;lia
   refine⟨D,xs,rfl,L,λx h=>?_,hn,λl N c pm O=>?_⟩
   .obtain⟨Y,e,q⟩:=qg (G x h).1
    cases e;exact⟨q,(s.2.2.1 _ (j x h)).1⟩
   .have P:a=N.map (·.1):=lR s.1 O λy=>by
     refine⟨λM=>?_,λM=>?_⟩
     .obtain⟨Z,R,e⟩:=ha _ (s.2.2.1 y M).2
      rw[eF e];exact(pm.map (·.1)).mem_iff.mpr R
     .obtain⟨x,h,rfl⟩:=OR.mp ((pm.map (·.1)).mem_iff.mp M)
      exact j x h
    rw[P]at q;exact q _ _ (fr.upd _ c) (bw.newL fr c (lB λz T=>(G z (pm.mem_iff.mp T)).1))
end
end L2.Pu
namespace L2.Hs
section
variable{I:PM}{w:P0}{A:P7}{E:a0d}{s:OV}
def ux(I:PM)(w:P0)(h:Qt)(k:d_)(a:OM):Prop:=∃o n t b,h.get? a=My o/\o.cls= .type "tuple"/\o.data= .seq #[.int k.1 t,.ref b] n/\(gt I w).is h k.2 b
theorem ux.ty(x:ux I w s.heap k a):s.TypeIs (.ref a) "tuple":=let ⟨o,_,_,_,ho,hc,_⟩:=x;⟨o,ho,hc⟩
theorem ux.inj(s:ux I w h x a)(A:ux I w h y a):x=y:=by
 obtain⟨o,n,t,b,f,_,D,g⟩:=s;obtain⟨i,l,E,m,d,_,c,e⟩:=A;obtain rfl:o=i:=PH (f.symm.trans d);rw[D]at c;simp only[Data.seq.injEq,Array.mk.injEq,SB,S6.injEq,Pa.injEq]at c;obtain⟨⟨⟨j,_⟩,k,_⟩,_⟩:=c;subst k;exact R6 j ((gt I w).inj g e)
theorem L6(k:a0e):hsh I w k=hI k:=by unfold hsh hI;show tupleKeyHash _ _=_;unfold tupleKeyHash;rfl
theorem L7{k:d_}(g:A.units+1<US)(f:ux I w s.heap k a)(h:Q (hB OL k) {s with toks:=s.toks+(k.2.length+3)}):O8 (Px I w) A (pyHash (.ref a)) Q E s:=by
 have c:=f.ty;obtain⟨o,n,t,b,i,_,G,j⟩:=f;unfold pyHash
 first|unfold pyHashByItsType|skip
 refine OG (wpAny_cRoomFor_or (.inr (QZ ‹_›)) ?_);refine OG (So c F.slot_tuple_hash.lookup ?_);show O8 _ _ (if(My (Value.builtin "tuple.__hash__")==My P4)=OL then _ else _) Q E s;rw[OY (by rw[beq_builtin_none];exact O4)];refine OG (So c F.slot_tuple_hash.lookup ?_);show O8 _ _ (callSpecialIfBoundUnlessNone? (.ref a) "__hash__" _>>=_) Q E s;refine OG (wpAny_callSpecialIfBoundUnlessNone?_slot c F.slot_tuple_hash (P3 F.slot_tuple_hash c F.entry_tuple_hash ?_ (F.args_tuple_hash_1 _)));show O8 _ _ (Builtin.Tuple.tupleItemsOf (.ref a)>>=_) _ _ s;refine OG (WJ i G ?_);refine OG ?_;rw[<-Tu];simp only[SR,SY];refine OG (OG (wpAny_pyHash_int ?_));refine OJ (OG (OG ((gt I w).pyHash g j ?_)));refine OJ (OJ ?_);have D:Q (hB OL k) {s with toks:=s.toks+1+(k.2.length+1)+1}:=by
  have e:s.toks+1+(k.2.length+1)+1=s.toks+(k.2.length+3):=by lia
  rw[e];exact h
 refine wpAny_ret_mkInt ?_;generalize l:Ui _=z;have m:hB OL k=reduceHash z:=by rw[<-l,show(gt I w).hash k.2=hI k.2 from L6 k.2];rfl
 rw[m]at D;show O8 _ _ (if(decide (-(2:Int)^63<=z)&&decide (z<2^63))=OL then _ else _) Q E _;unfold reduceHash at D;by_cases d:(decide (-(2:Int)^63<=z)&&decide (z<2^63))=OL
 .rw[OZ d]
  rw[OZ d]at D;exact OJ D
 .rw[OY d]
  rw[OY d]at D;exact OG (Ro (OJ D))
theorem eq_p(o:A.units+1<US)(D:ux I w s.heap x a)(G:ux I w s.heap y b)(h:Q (decide (x=y)) s):O8 (Px I w) A (eqBool (.ref a) (.ref b)) Q E s:=by
 unfold eqBool
 try with_reducible refine QG ?_
 show O8 _ _ (if(Pa a==Pa b)=OL then _ else _) Q E s;by_cases c:(Pa a==Pa b)=OL
 .rw[OZ c]
  have e:a=b:=by have:=eq_of_beq c;injection this
  subst e;obtain rfl:=D.inj G;exact OG (Ro (OJ (by simpa using h)))
 .rw[OY c]
  refine OG (wpAny_richCompare_same_room (op:= .Eq) D.ty G.ty F.slot_tuple_eq
   (P3 F.slot_tuple_eq D.ty F.entry_tuple_eq ?_ (F.args_tuple_eq_2 _ _)) (QZ ‹_›))
  have g:=G.ty;obtain⟨p,q,r,t,i,_,j,k⟩:=D;obtain⟨u,v,B,C,l,_,m,n⟩:=G;show O8 _ _ (WH (.ref b) (.type "tuple")>>=_) _ _ s;refine OG (Rq g V8 ?_);simp only[R0,Ph,Qj];refine OG (WJ i j ?_);refine OG (WJ l m ?_);refine OG ?_;simp only[Rj,Vh,SR,SY];refine OG (OG ((VC I w).eqBool (a:=x.1) (b:=y.1) (by simp[VC,X1]) (by simp[VC,X1]) ?_));by_cases d:x.1=y.1
  .rw[Pf d]
   refine OJ (OG (OG ((gt I w).eqBool o k n ?_)));by_cases f:x.2=y.2
   .rw[Pf f]
    rw[Pf (R6 d f)]at h;exact OJ (OJ (OJ ⟨_,rfl,(λe=>nomatch e),QS h⟩))
   .rw[PY f]
    rw[PY (λe=>f (Qb _ e))]at h;exact OG (OJ (OJ (OJ (OJ ⟨_,rfl,(λe=>nomatch e),QS h⟩))))
  .rw[PY d]
   rw[PY (λe=>d (Qb _ e))]at h;exact OG (OJ (OJ (OJ (OJ ⟨_,rfl,(λe=>nomatch e),QS h⟩))))
theorem JH(f:(gt I w).is s.heap k a)(h:Q OL s):O8 (Px I w) A (Y8 (m+1) (.ref a)) Q E s:=by
 have g:=XA f;obtain⟨o,c,n,i,_,K,j⟩:=f;unfold Y8;refine OG (So g F.slot_tuple_eq.lookup ?_);show O8 _ _ (WH (.ref a) (.type "tuple")>>=_) _ _ s;refine OG (Rq g V8 ?_);simp only[R0,Ph,Qj];refine OG (Rk i K ?_);refine OG ?_;show O8 _ _ (X7 c _ _) _ _ s;rw[<-Tu];refine UM _ (λD r G=>r.1=OI/\G=s/\∀v∈D,carriedByValue v=OL) _ ?_ ?_ _ _ ⟨rfl,rfl,j.byValue⟩
 .rintro v D r G ⟨d,rfl,b⟩
  rw[eqIsQuiet_byValue _ (b v OU)];refine OG (OJ ?_);simp only[R0,Ph,Qj];exact OJ ⟨rfl,rfl,λu e=>b u (OO _ e)⟩
 .rintro⟨r1,l⟩ G ⟨d,rfl,_⟩
  simp only at d;subst d;exact OJ h
theorem JI(c:ux I w s.heap k a)(h:Q OL s):O8 (Px I w) A (Y8 8 (.ref a)) Q E s:=by
 have d:=c.ty;obtain⟨o,n,t,b,e,_,D,f⟩:=c;unfold Y8;refine OG (So d F.slot_tuple_eq.lookup ?_);show O8 _ _ (WH (.ref a) (.type "tuple")>>=_) _ _ s;refine OG (Rq d V8 ?_);simp only[R0,Ph,Qj];refine OG (Rk e D ?_);refine OG ?_;show O8 _ _ (X7 #[S6 k.1 t,Pa b] _ _) _ _ s;rw[<-Tu];simp only[SR,SY];rw[eqIsQuiet_byValue _ (v:= .int k.1 t) rfl];exact OG (OG (OJ (OJ (OG (OG (JH (m:=6) f (OJ (OJ (OJ h)))))))))
def PKd(I:PM)(w:P0):HeapKind I w d_ where
 is:=ux I w
 hash:=hB OL
 draws:=λk=>k.2.length+3
 room:=λA=>A.units+1<US
 inj:=λs D=>s.inj D
 keeps:=λx f E G=>by
  obtain⟨g,n,t,b,c,i,a,j⟩:=x;refine⟨g,n,t,b,(G.2 _ ?_).trans c,i,a,(gt I w).keeps j f E G⟩;rintro rfl;obtain rfl:=PH (c.symm.trans f);rw[E]at a;exact nomatch a
 pyHash:=λd e h=>L7 d e h
 eqBool:=λd s D h=>eq_p d s D h
 quiet:=λe h=>JI e h
def FKd(I:PM)(w:P0):HeapKind I w d_ where
 is:=λh k a=>k.1=0/\(gt I w).is h k.2 a
 hash:=hB OQ
 draws:=λk=>k.2.length+1
 room:=λA=>A.units+1<US
 inj:=λD G=>R6 (D.1.trans G.1.symm) ((gt I w).inj D.2 G.2)
 keeps:=λx f K M=>⟨x.1,(gt I w).keeps x.2 f K M⟩
 pyHash:=λc d h=>(gt I w).pyHash (QZ c) d.2 h
 eqBool:=λ{A E s x y a b Q} c D G h=>(gt I w).eqBool (QZ c) D.2 G.2 (by
  have e:decide (x.2=y.2)=decide (x=y):=by
   by_cases q:x.2=y.2
   .rw[Pf q,Pf (R6 (D.1.trans G.1.symm) q)]
   .rw[PY q,PY (λz=>q (Qb _ z))]
  rw[e];exact h)
 quiet:=λd h=>(gt I w).quiet d.2 h
def KB(I:PM)(w:P0):Bool->HeapKind I w d_
 |true=>PKd I w
 |false=>FKd I w
theorem p8{b:Bool}:(KB I w b).hash=hB b:=by cases b<;>rfl
theorem p7{b:Bool}{A:P7}(h:A.units+1<US):(KB I w b).room A:=by cases b<;>exact h
def vl(K:Pl)(H:Hp):Bool->d_->OM->Prop
 |true,k,c=>∃e,g_ K H c [.int k.1,.ref e]/\g_ K H e (k.2.map V.int)
 |false,k,c=>k.1=0/\g_ K H c (k.2.map V.int)
abbrev XY(x:d_×OM×V)(y:d_×OM×OP):Prop:=x.1=y.1/\x.2.1=y.2.1/\aJ x.2.2 y.2.2
theorem ic:∀{xs:a0o} {s:a0A},U4 XY xs s->xs.map (·.1)=s.map (·.1)
 |_,_,.nil=>rfl
 |_,_,.cons h t=>by rw[Pc,Pc,h.1,ic t]
theorem yd:∀{s:a0o} {w:a0A},U4 XY s w->∀y∈w,∃x∈s,XY x y
 |_,_,.nil,y,h=>by cases h
 |_,_,.cons (a:=a) h t,y,hy=>by
  rcases O6.mp hy with rfl|hy
  .exact⟨a,OU,h⟩
  .obtain⟨x,hx,e⟩:=yd t y hy
   exact⟨x,OO _ hx,e⟩
noncomputable def tD(xs:a0o)(k:d_):Option V:=(xs.find? λx=>decide (x.1=k)).map (·.2.2)
theorem pI:∀{s:a0o} {w:a0A},U4 XY s w->gZ (tD s k) ((Y5 w k).map (·.2))
 |_,_,.nil=>by simp[tD,Y5,gZ]
 |_,_,.cons (a:=a) (b:=b) h t=>by
  have A:=pI (k:=k) t;unfold tD Y5 at A⊢;rw[SQ,SQ,<-h.1];by_cases q:a.1=k
  .rw[Pf q];exact h.2.2
  .rw[PY q];exact A
theorem pG(h:XY x y):∀{s:a0o} {w:a0A},U4 XY s w->U4 XY (s++[x]) (w++[y])
 |_,_,.nil=> .cons h .nil
 |_,_,.cons h' t=> .cons h' (pG h t)
variable{X:Cx}{a_:a0c}{z:St}{H:Hp}
theorem oX{b:Bool}(I:b_ X a_ z H s)(h:vl X.K H b k c):(KB X.prog X.w b).is s.heap k c:=by
 cases b with
 |true=>
  obtain⟨e,a,d⟩:=h;obtain⟨A,f,⟨o,g,i,n,D⟩,_⟩:=I.tuple a;obtain⟨j,l,rfl,⟨t,rfl⟩,rfl⟩:=wA f;exact⟨o,n,t,e,g,i,D,mh I d⟩
 |false=>exact⟨h.1,mh I h.2⟩
theorem S_{a_:a0c}{z:St}{H:Hp}{s:OV}(I:b_ X a_ z H s):UK<s.heap.objs.size:=Wp (by decide) (show RG<s.heap.objs.size from(I.mod.glob.keeps I.bk).lt)
theorem lC{b:Bool}(I:b_ X a_ z H s)(d:H a=My (cg a b p xs))(e:∀x∈xs,vl X.K H b x.1 x.2.1):∃A,s.heap.DictOfH (KB X.prog X.w b) a A/\U4 XY xs A/\A.length<=Pk/\(a==UK)=OQ:=by
 obtain⟨o,D,A,f,g,h,i,j,k,l,c⟩:x9 a b p xs s.heap:=(I.hok a _ d).1;refine⟨A,⟨o,D,p,f,g,h,?_,λy E=>?_,j⟩,c,l,k⟩
 .rw[i];unfold entryOfKey;rw[p8]
 .obtain⟨x,hx,m,n,_⟩:=yd c y E
  rw[<-m,<-n];exact oX I (e x hx)
def Ld(K:Pl):R2:=λx y H Q=>∃a b w s k c v,x= .ref a/\y= .ref c/\H a=My (cg a b w s)/\(∀x∈s,vl K H b x.1 x.2.1)/\vl K H b k c/\tD s k=My v/\Q v H
theorem oY(l:X.A.units+2<US):A_ X (Ld X.K):=by
 intro g i a_ s z H x y v u Q I m n h w;obtain⟨a,b,G,M,k,c,o,rfl,rfl,t,B,C,J,q⟩:=h;cases m;cases n;obtain⟨D,d,p,_,_⟩:=lC I t B;have f:=pI (k:=k) p;rw[J]at f;cases e:Y5 D k with
 |none=>rw[e]at f;exact f.elim
 |some r=>
  rw[e]at f;exact V0 (x:=r.2) d.typeIs PySem.F.slot_dict_getitem.lookup (wpAny_getItem_heap (Q:=λj E=>j=r.2/\EP X a_ z Q j E) (p7 l) (oX I C) d e ⟨rfl,o,H,I.tok _,f,q⟩) w
theorem ng{b:Bool}:Mks X newDict λD=>cg D b 0 []:=λa_ s z H E Q I h=>Qi (h _ (I.laid (t':=s.toks) (λ_ _ q=>OK _ q) (OW _) (qh ⟨_,#[],[],O7 _ rfl,⟨rfl,rfl,rfl⟩,rfl,rfl,.nil,beq_eq_false_iff_ne.mpr (Ne.symm (Qc (S_ I))),Ql _,.nil⟩)) λb o e=>OK _ e)
def BD(K:Pl)(b:Bool)(D:OM)(e f:TE):TB:=λz H Q=>e z H λx g=>f z g λy a=>∃w s k c,x= .ref c/\a D=My (cg D b w s)/\(∀x∈s,vl K a b x.1 x.2.1)/\vl K a b k c/\k∉s.map (·.1)/\s.length<Pk/\∀d,Q z (upd a D (cg D b d (s++[(k,c,y)])))
theorem jV{D:OM}{b:Bool}(L:X.A.units+1<US)(N:gens[d+1]?=OI)(O:PE X ke tk)(P:PE X ve tv)(a:X.xe=λ_ _=>False):PB X (.D ke ve) gens scope pos d D (BD X.K b D tk tv):=by
 intro a_ s z H Q I h k Q' E' R;unfold gN;rw[N];show O8 _ _ (emC (.D ke ve) (.ref D) X.env>>=λ_=>k) _ _ _;unfold emC;have t:=O a_ s z H _ I h;rw[a]at t;refine OG (OG (Qk t (λu T U=>?_) λ_ _ f=>f.elim));obtain⟨v,W,Y,r,G⟩:=U;have B:=P a_ T z W _ Y G;rw[a]at B;refine OG (QG (Qk B (λu2 s2 Z=>?_) λ_ _ f=>f.elim));obtain⟨v2,H2,i,M,S,V,j,c,rfl,C,hx,hc,hn,hl,q⟩:=Z;cases r;obtain⟨w,dd,p,hz,l⟩:=lC i C hx;have F:=ic p;have e0:Y5 w j=OI:=by
  cases e:Y5 w j with
  |none=>rfl
  |some r=>
   exfalso
   unfold Y5 at e;cases m:w.find? (λx=>decide (x.1=j))with
   |none=>rw[m]at e;cases e
   |some y=>
    have:=List.find?_some m;exact hn (by rw[F];exact OR.mpr ⟨y,Xg m,QP this⟩)
 refine OG (RN (QG (wpAny_dictSet_heap (p7 L) (oX i hc) dd (λh' E sb=>?_) hz)));rw[storedH_new e0]at E;obtain⟨o,es,ep,J,g2,g3,g4,g5,g6⟩:=E;have g:w.length=V.length:=by rw[<-OH (f:=(·.1)),<-F,OH]
 refine R _ z _ (i.write (by rw[C];trivial) (.inl rfl) (λb u n e=>(sb.2 b n).trans e) ⟨o,J⟩ (qh ⟨o,es,_,J,g2,g3,?_,g6,l,?_,pG ⟨rfl,rfl,M⟩ p⟩)) (q ep)
 .rw[g4];unfold entryOfKey;rw[p8]
 .rw[O1,g,Qs];lia
theorem CU{b:Bool}{k l a d:Expr}{f:List Expr}{G:a0P}{E:Scope}{K:Ub}{i cx:a0i}{bt:a0a}{g:TG}{tt:TT}{p:a0Y}{r:TI}(t:X.calm=OL)(S:cy X E i cx bt)(u:PI X a d r)
  (y:∀(M:a0n) (C:OM) (j:a0q) (s:OV) (H:Hp),PG (aE X i E M C j s H) a g/\dJ (aE X i E M C j s H) f tt/\∀D,PB (aE X i E M C j s H) (.D k l) (⟨a,d,f,0⟩::G) E K 0 D (p D))
  (hs:∀x,Qh d X.env x=Ry x:=by intro _;rfl):PE X (.DictComp k l (⟨a,d,f,0⟩::G) E K) (kE (λD=>cg D b 0 []) cx bt r λD J=>cV J g tt (p D)):=by
 intro a_ s z H Q I h;refine SE (use:=OI) rfl hs (S.clo I.ok) S.kind S.loc (Qk (u a_ s z H _ I h) (λv W B=>Qk B (λF Y L=>?_) λ_ _ x=>x) λ_ _ x=>x);obtain⟨it,j,Z,J,H2,e,N,T,n,f2,q⟩:=L;subst e;refine gM (c:= .D k l) ng (RR:=λV C=>X5 (Px X.prog X.w) X.A X.xe OI _ V C) t S y N T n f2 q λD C s' O m P ns R U=>?_;exact⟨m,ns,λh' o=>⟨.ref D,O,P.letgo R o,rfl,U⟩⟩
end
end L2.Hs
namespace L2.Pu
open L2.Hs
def dK:Bool->d_->D
 |true,k=> .tup [.int k.1,iv k.2]
 |false,k=>iv k.2
def u_(b:Bool)(k:d_):Prop:=b=OQ->k.1=0
theorem Mw{b:Bool}(a:u_ b k)(c:u_ b l)(h:dK b k=dK b l):k=l:=by
 cases b with
 |true=>
  simp only[dK,D.tup.injEq,SB,D.int.injEq,and_true]at h;exact R6 h.1 (eF (Qb D.tup h.2))
 |false=>exact R6 ((a rfl).trans (c rfl).symm) (eF h)
section
variable{K:Pl}{F:Fx}{H:Hp}{E:a0s}
theorem uL(h:bw K F H (.tup b) v):∃a D,v= .ref a/\TQ K F H a D/\ba K F H b D:=by
 unfold bw at h;exact h
theorem nY(h:TQ K F H a b)(D:ba K F H c b):bw K F H (.tup c) (.ref a):=by
 unfold bw;exact⟨a,b,rfl,h,D⟩
theorem TQ.sq(h:TQ K F H c a):g_ K H c a:=h.imp (·.2) id
theorem e8.s{b:Bool}(h:e8 K F H b k c):vl K H b k c:=by
 cases b with
 |true=>
  obtain⟨e,a,d⟩:=h;exact⟨e,a.sq,d.sq⟩
 |false=>exact⟨h.1,h.2.sq⟩
theorem e8.z{b:Bool}(h:e8 K F H b k c):u_ b k:=λe=>by subst e;exact h.1
theorem xB{b:Bool}(g:u_ b k)(h:bw K F H (dK b k) v):∃c,v= .ref c/\e8 K F H b k c:=by
 cases b with
 |true=>
  obtain⟨a,D,rfl,q,d⟩:=uL h;obtain⟨i,j,rfl,E,G⟩:=ba.two d;cases E.int;obtain⟨e,S,rfl,M,f⟩:=uL G;cases ba.ints k.2 f;exact⟨a,rfl,e,q,M⟩
 |false=>
  obtain⟨a,D,rfl,q,d⟩:=uL h;cases ba.ints k.2 d;exact⟨a,rfl,g rfl,q⟩
theorem xf{b:Bool}(h:e8 K F H b k c):bw K F H (dK b k) (.ref c):=by
 cases b with
 |true=>
  obtain⟨e,a,d⟩:=h;exact nY a (ba.cons rfl (ba.cons (nY d (ba.ofInts k.2)) ba.nil))
 |false=>exact nY h.2 (ba.ofInts k.2)
abbrev uT(b:Bool)(p:d_×D):D:= .tup [dK b p.1,p.2]
def Dk(b:Bool)(E:List (d_×D))(F:a0b):Prop:=F=E.map (uT b)/\(E.map (·.1)).Nodup/\E.length<=Pk/\∀p∈E,u_ b p.1
theorem JS{b:Bool}{p q:d_×D}(a:u_ b p.1)(c:u_ b q.1)(h:uT b p=uT b q):p=q:=by
 simp only[uT,D.tup.injEq,SB,and_true]at h;exact R6 (Mw a c h.1) h.2
theorem jW{b:Bool}:∀{l m:List (d_×D)},(∀p∈l,u_ b p.1)->(∀p∈m,u_ b p.1)->l.map (uT b)=m.map (uT b)->l=m
 |[],[],_,_,_=>rfl
 |[],_::_,_,_,h=>by cases h
 |_::_,[],_,_,h=>by cases h
 |p::l,q::m,hl,hm,h=>by
  rw[Pc,Pc,SB]at h;rw[JS (hl p OU) (hm q OU) h.1,jW (λx E=>hl x (OO _ E)) (λx E=>hm x (OO _ E)) h.2]
theorem Dk.eq{b:Bool}{D:a0b}(x:Dk b l D)(y:Dk b m D):l=m:=jW x.2.2.2 y.2.2.2 (x.1.symm.trans y.1)
open Classical in
def j8(b:Bool)(E:a0b):a0l:=if h:∃D,Dk b D E then My (.dct b (h.choose.map (·.1)) (h.choose.map (·.2)))else OI
theorem wn{b:Bool}{kvs:List (d_×D)}{E:a0b}(h:Dk b kvs E):j8 b E=My (.dct b (kvs.map (·.1)) (kvs.map (·.2))):=by
 have q:∃kvs,Dk b kvs E:=⟨kvs,h⟩;unfold j8;rw[Xw q,q.choose_spec.eq h]
theorem uN{b:Bool}{E:a0b}(h:j8 b E=My d):∃D,Dk b D E/\d= .dct b (D.map (·.1)) (D.map (·.2)):=by
 unfold j8 at h;split at h
 .rename_i q
  cases h;exact⟨_,q.choose_spec,rfl⟩
 .cases h
noncomputable def RD(K:Pl)(b:Bool):AR where
 R:=λF H D S=>∃M,∃a:List ((d_×Pu.D)×OM×V),S=a.map (λz=>uT b z.1)/\H D=My (cg D b M (a.map λz=>(z.1.1,z.2)))/\∀z∈a,e8 K F H b z.1.1 z.2.1/\bw K F H z.1.2 z.2.2
 Z:=λl=>∃G E,Dk b G (l++E)
 tr:=λh k t=>by
  obtain⟨M,a,e,f,c⟩:=h;exact⟨M,a,e,k _ f,λz d=>⟨(c z d).1.tr t,bw.tr t _ _ (c z d).2⟩⟩
 zp:=λh=>by
  obtain⟨G,E,h⟩:=h;exact⟨G,_,by rw[<-O3];exact h⟩
def EU(f g:FD):FL:=λD=>M.bind (f D) λk=>M.bind (g D) λv=>M.ret [.tup [k,v]]
theorem ny{b:Bool}{D:OM}:eE K (RD K b) D (BD K b D (tV K f E0) (tV K g E0)) (EU f g):=λF H δ β A σ as os Q fr hA y B hR e hz k=>by
 obtain⟨ep,d,rfl,hD,S⟩:=hR;obtain⟨O,V,e1,e2⟩:=M.bind_inv e;obtain⟨P,ab,e3,e4⟩:=M.bind_inv e2;cases e4;obtain⟨E,aa,C,R,z3,T⟩:=hz;have I:∀p∈d.map (·.1),u_ b p.1:=λp m=>by
  obtain⟨z,h,rfl⟩:=OR.mp m;exact(S z h).1.z
 have J:d.length<E.length:=by
  have:=Qb TK C;simp at this;lia
 have ez:(d.map (·.1)).map (uT b)=(E.take d.length).map (uT b):=by
  rw[V5,<-C,O3,WE (by simp),QJ (by simp),O0];rfl
 have ek:=jW I (λp m=>T p (QR m)) ez;have el:uT b E[d.length]= .tup [O,P]:=by
  have U:(E.map (uT b))[d.length]?=My (.tup [O,P]):=by
   rw[<-C,O3,Qw (by simp)];simp
  rw[OS,ON J]at U;exact PH U
 have r:=T _ (Qr J);generalize m:E[d.length]=p at el r;obtain⟨j,vv⟩:=p;simp only[uT,Pu.D.tup.injEq,SB,and_true]at el;obtain⟨rfl,rfl⟩:=el;have u:j∉d.map (·.1.1):=λhm=>by
  have h2:E.take d.length++(j,vv)::E.drop (d.length+1)=E:=by
   rw[<-m,<-Qa J,PL]
  rw[<-h2,<-ek,Pw,Pc,Si]at R;refine R.2.2 j ?_ j OU rfl;rw[O0];exact hm
 refine⟨F,δ,β,fr,B,E0.run e1 λv H1 t hv=>⟨F,δ,V,t.fr,B.tr (t.tr fr),E0.run e3 λW X t2 L=>?_⟩⟩;have N:=bw.tr (t2.tr t.fr) _ _ hv;obtain⟨c,rfl,Y⟩:=xB r N;have i:=(t.tr fr).trans (t2.tr t.fr);refine⟨ep,_,j,c,rfl,t2.kp D _ (t.kp D _ hD y) y,λx h=>?_,Y.s,?_,?_,λw=>?_⟩
 .obtain⟨z,h',rfl⟩:=OR.mp h
  exact((S z h').1.tr i).s
 .rw[O0];exact u
 .rw[OH];exact Pm ‹_› ‹_›
 have Z:lm F D X (upd X D (cg D b w ((d.map λz=>(z.1.1,z.2))++[(j,c,W)]))) A:=by
  refine⟨λa o h n _=>by rw[bb n];exact h,λa h q=>?_,fr.bgA,λb l q=>?_⟩
  .by_cases z:a=D
   .subst z;rw[ao]at q;cases q
   .rw[bb z]at q;exact t2.fr.occ a h q
  .rw[bb (y b l q).1.symm,bb (y b l q).2.symm]
   exact t2.fr.bag b l q
 have G:=Z.tr t2.fr hA;refine k σ _ (((t.trans t2).toD D).trans Z) (B.tr (i.trans G)) ⟨w,d++[((j,vv),c,W)],by rw[Pw];rfl,by rw[Pw];exact ao,λz h=>?_⟩;rcases PD.mp h with h|h
 .exact⟨(S z h).1.tr (i.trans G),bw.tr (i.trans G) _ _ (S z h).2⟩
 .cases Po.mp h
  exact⟨Y.tr G,bw.tr G _ _ L⟩
theorem uM{F:Fx}{H:Hp}{E:Type}{f:E->D}{g:E->V}:∀{a:List E},(∀z∈a,bw K F H (f z) (g z))->ba K F H (a.map f) (a.map g)
 |[],_=>ba.nil
 |z::a,h=>ba.cons (h z OU) (uM λx G=>h x (OO z G))
end
theorem uK{K:Pl}{E:a0s}{kb:Bool}{S:a0i}{V:a0a}{g:TG}{c:a0Y}{v:FL}{M:lk}{w:a0r}{b:FL}(i:cB K g M)(j:dH M)(k:∀D,eE K (RD K kb) D (c D) b){f:St}{H:Hp}{Q:VK}(h:tV K (gJ S.length V v M w b (j8 kb)) E f H Q):
  kE (λD=>cg D kb 0 []) S V (iV K v E) (λD J=>cV J g (g8 K w E0) (c D)) f H Q:=by
 refine qu i j k (λF H D=>⟨0,[],rfl,ao,λx G=>Pp G (by simp)⟩) (λy d e=>?_) h λF u l D y d fr a m e q=>?_
 .obtain⟨kvs,s,_⟩:=uN e
  exact⟨kvs,[],by rw[PN];exact s⟩
 .obtain⟨kvs,s,rfl⟩:=uN e
  obtain⟨A,n,rfl,o,G⟩:=m;have r:kvs=n.map (·.1):=jW s.2.2.2 (λp t=>by
   obtain⟨z,h,rfl⟩:=OR.mp t;exact(G z h).1.z) (by rw[<-s.1,O0];rfl)
  refine q _ _ (To.refl fr) ?_;unfold bw;subst r;refine⟨D,A,_,rfl,⟨a,o⟩,by simp,λx h=>?_,?_⟩
  .obtain⟨z,h',rfl⟩:=OR.mp h
   exact(G z h').1
  .rw[O0,O0]
   exact uM λz h=>(G z h).2
section
variable{X:Cx}{E:a0s}{A w t m:Expr}{p:List Expr}{n:a0P}{l:Scope}{q:Ub}{u B:a0i}{I:a0a}{g:TG}{z:a0Y}
theorem Jk{kb:Bool}(c:X.calm=OL)(S:cy X l u B I)(d:PI X t m (iV X.K r E))
  (e:∀(G:a0n) (C:OM) (a:a0q) (s:OV) (H:Hp),PG (aE X u l G C a s H) t g/\dJ (aE X u l G C a s H) p (g8 X.K v E0)/\∀D,PB (aE X u l G C a s H) (.D A w) (⟨t,m,p,0⟩::n) l q 0 D (z D))
  (f:cB X.K g o) (i:dH o) (j:∀D,eE X.K (RD X.K kb) D (z D) b) (M:∀x,Qh m X.env x=Ry x:=by intro _;rfl):
  PE X (.DictComp A w (⟨t,m,p,0⟩::n) l q) (tV X.K (gJ B.length I r o v b (j8 kb)) E):=
 (CU (b:=kb) c S d e M).imp λk H Q h=>uK f i j h
noncomputable def gR:a0b->Option a0e
 |[]=>My []
 | .int i::r=>(gR r).map (i::·)
 |_=>OI
def jp:Bool->D->Option d_
 |false,.tup ds=>(gR ds).map λl=>(0,l)
 |true,.tup [.int i,.tup ds]=>(gR ds).map λl=>(i,l)
 |_,_=>OI
theorem pL:∀(l:a0e),gR (l.map .int)=My l
 |[]=>rfl
 |i::l=>by show(gR (l.map .int)).map _=_;rw[pL l];rfl
theorem k_:∀{n:a0b} {l:a0e},gR n=My l->n=l.map .int
 |[],l,h=>by cases h;rfl
 | .int i::r,l,h=>by
  have g:(gR r).map (i::·)=My l:=h;cases q:gR r with
  |none=>rw[q]at g;cases g
  |some m=>rw[q]at g;cases g;rw[k_ q];rfl
 | .non::_,_,h=>by cases h
 | .bl _::_,_,h=>by cases h
 | .str _::_,_,h=>by cases h
 | .ty _::_,_,h=>by cases h
 | .txt::_,_,h=>by cases h
 | .lst _::_,_,h=>by cases h
 | .tup _::_,_,h=>by cases h
 | .scr _::_,_,h=>by cases h
 | .obj _ _ _::_,_,h=>by cases h
 | .bag::_,_,h=>by cases h
 | .adr _::_,_,h=>by cases h
 | .dct _ _ _::_,_,h=>by cases h
theorem jF{b:Bool}(h:u_ b k):jp b (dK b k)=My k:=by
 cases b with
 |true=>show(gR _).map _=_;rw[pL];rfl
 |false=>show(gR _).map _=_;rw[pL];exact Qb My (R6 (h rfl).symm rfl)
theorem uk{b:Bool}(h:jp b d=My k):u_ b k/\d=dK b k:=by
 unfold jp at h;split at h
 .rename_i ds
  cases q:gR ds with
  |none=>rw[q]at h;cases h
  |some l=>rw[q]at h;cases h;exact⟨λ_=>rfl,by rw[k_ q];rfl⟩
 .rename_i i ds
  cases q:gR ds with
  |none=>rw[q]at h;cases h
  |some l=>rw[q]at h;cases h;exact⟨λz=>(by cases z),by rw[k_ q];rfl⟩
 .cases h
noncomputable def D_(a:a0G)(g:a0b)(k:d_):a0l:=((a.zip g).find? λp=>decide (p.1=k)).map (·.2)
variable{K:Pl}{F:Fx}{H:Hp}
def RelD(K:Pl)(F:Fx)(H:Hp):a0l->Option V->Prop
 |none,v=>v=OI
 |some d,v=>∃u,v=My u/\bw K F H d u
theorem zL:∀{l:a0o} {g:a0b},ba K F H g (l.map (·.2.2))->RelD K F H (D_ (l.map (·.1)) g k) (tD l k)
 |[],g,_=>by unfold D_ tD;rfl
 |x::l,g,h=>by
  cases g with
  |nil=>cases h
  |cons d g=>
   obtain⟨u,r,e,a,b⟩:=h;rw[Pc,SB]at e;obtain⟨rfl,rfl⟩:=e;have m:=zL (k:=k) b;unfold D_ tD at m⊢;rw[Pc,Rj,SQ,SQ];by_cases q:x.1=k
   .rw[Pf q];exact⟨_,rfl,a⟩
   .rw[PY q];exact m
def xV:D->D->a0l
 | .dct b ks vs,y=>(jp b y).bind (D_ ks vs)
 |_,_=>OI
theorem xz:bi K (Ld K) xV:=λF H D Q E g d w y fr h i e k=>by
 unfold xV at e;split at e
 .rename_i b j vs
  cases q:jp b g with
  |none=>rw[q]at e;cases e
  |some f=>
   rw[q]at e;have l:D_ j vs f=My d:=e;obtain⟨m,rfl⟩:=uk q;obtain⟨c,rfl,n⟩:=xB m i;unfold bw at h;obtain⟨a,z,A,rfl,o,rfl,p,r⟩:=h;have:=zL (k:=f) r;rw[l]at this;obtain⟨u,t,v⟩:=this;exact⟨a,b,z,A,f,c,u,rfl,rfl,o.2,λx B=>(p x B).s,n.s,t,k u H (To.refl fr) v⟩
 .cases e
variable{o e:Expr}{c:List Expr}{b a:Ub}
end
end L2.Pu
namespace L2.Hs
section
variable{prog:PM}{w:P0}{A:P7}{E:a0d}{s:OV}{d z v:OM}{Z:PF}{es:Array RY}{ep i:Nat}{ok ov:OP}
theorem x3(a:s.TypeIs (.ref d) "dict")(i:(d==UK)=OQ)(h:Q (.ref s.heap.objs.size) {s with heap:=s.heap.push {cls:= .type "dict_items",data:= .fields #[.ref d]}}):O8 (Px prog w) A (Wq (.builtin "dict.items") [.ref d]) Q E s:=by
 refine P3 F.slot_dict_items a F.entry_dict_items ?_ (F.args_dict_items_1 _);unfold Builtin.«dict.items»;refine OG ?_;unfold Builtin.Dict.noArgs;refine OG (wpAny_notOrdered_dict a ?_);show O8 _ _ (Ry d) _ _ s;refine OJ ?_;show O8 _ _ (Tv d>>=_) _ _ s;unfold Tv;rw[OY (by rw[i];exact O4)];exact OG (OJ (OG (Qi (OJ ⟨_,rfl,h⟩))))
theorem xH(a:s.heap.IsItemsView v d)(e:s.heap.get? d=My Z)(i:Z.data= .dict es ep)
  (h:Q (.ref s.heap.objs.size) {s with heap:=s.heap.push {cls:= .type "dict_itemiterator",data:= .fields #[.none,.bool OQ,.ref d,.int 0 0,.int es.size 0,.int ep 0,.none,.none]}}):O8 (Px prog w) A (VZ (.ref v)) Q E s:=by
 obtain⟨o,b,f,c⟩:=id a;refine Uu a.typeIs YA (P3 YA a.typeIs F.entry_dict_items_iter ?_ (F.args_dict_items_iter_1 _));unfold Builtin.«dict_items.__iter__»;refine OG (OJ (OG ?_));unfold Builtin.Dict_items.dictOf;refine OG (QT b c (x:= .ref d) rfl (OJ (OG ?_)));unfold Builtin.Dict_items.newIterator;refine OG (Sw e i (OG (T4 e i ?_)));simp only[show Ru "dict_itemiterator"=OL from by decide,Qq];refine Qi (OJ ⟨_,rfl,"dict_itemiterator",_,⟨_,O7 _ rfl,rfl⟩,Re.lookup,?_⟩)
  (by simp only[sizeOk,UY,Pg,O1,Pb,Sc,Q6];decide)
 simpa[SW,UY]using h
theorem xF(a:Vq s.heap z d i es.size ep ok ov)(h:Q (.ref z) s):O8 (Px prog w) A (VZ (.ref z)) Q E s:=by
 have c:s.TypeIs (.ref z) "dict_itemiterator":=⟨_,a,rfl⟩;refine Uu c W9 (P3 W9 c (b:=Builtin.«dict_keyiterator.__iter__») (X6 (id':="dict_keyiterator.__iter__") (by kernel_rfl) rfl (by decide +kernel) (by kernel_rfl)) ?_ (F.args_dict_itemiterator_iter_1 _));show O8 _ _ (ret (.ref z)) _ _ s;exact OJ ⟨_,rfl,"dict_itemiterator",_,c,Re.lookup,h⟩
theorem xG{e:RY}(l:Vq s.heap z d i es.size ep ok ov)(X:s.heap.get? d=My Z)(S:Z.data= .dict es ep)(K:es[i]?=My e)
  (Y:∀D,IsItemIterOut D z d (i+1) es.size ep e.key e.val s.heap.objs.size->D.get? s.heap.objs.size=My {cls:= .type "tuple",data:= .seq #[e.key,e.val]}->D.objs.size=s.heap.objs.size+1->
   (∀b o,b≠z->s.heap.get? b=My o->D.get? b=My o)->Q (My (.ref s.heap.objs.size)) {s with heap:=D}):O8 (Px prog w) A (S7 (.ref z)) Q E s:=by
 obtain⟨m,g,P,R,G⟩:=s;have t:Shared.TypeIs ⟨m,g,P,R,G⟩ (.ref z) "dict_itemiterator":=⟨_,l,rfl⟩;have T:i<es.size:=by
  rcases Wo i es.size with h|h
  .exact h
  .simp[RW h]at K
 obtain rfl:es[i]=e:=by rw[S8 T]at K;exact PH K
 unfold S7;refine OG (SD (wpAny_callSpecial?_slot (name:=Q5 "__next__") t Re
  (P3 Re t WX ?_ (WM _))))
 refine OG (OJ (OG (OG ?_)))
 first|refine OG (SO t (OJ ?_))|refine OG (TD t (OJ ?_))
 refine OG (Ut l rfl ?_);simp only[show Ru "dict_itemiterator"=OL from by decide,Qq];show O8 _ _ (if(Pa d==P4)=OL then _ else _) _ _ _;rw[OY (show ¬((Pa d==P4)=OL)from O4)];refine OG (OJ (OG (Sw X S ?_)));rw[OY (by simp)];refine OG (OJ (OG (T4 X S ?_)));rw[OY (by simp)];refine OJ ?_;simp only[show ¬((i:Int)<0)from by lia,Qj,Qv,S8 T];refine OG ?_
 first|refine OG (SO t (OJ ?_))|refine OG (TD t (OJ ?_))
 refine OG (V1 t ?_);show O8 _ _ (Wg (.ref z) 3 (SW ((i:Int)+1))>>=_) _ _ ⟨m,g,P,R,G⟩;refine OG (QU l (by simp) λv a c=>?_)
 replace c:PQ z m v:=c
 replace a:Vq v z d (i+1) es.size ep ok ov:=by
  have e:((i+1:Nat):Int)=(i:Int)+1:=rfl
  unfold Vq;rw[e];simpa[SW]using a
 have k:Shared.TypeIs ⟨v,g,P,R,G⟩ (.ref z) "dict_itemiterator":=⟨_,a,rfl⟩;refine OG (QG (OG (V1 k (OG (V1 k ?_)))));show O8 _ _ (Vm (.ref z) 6 es[i].key es[i].val) _ _ ⟨v,g,P,R,G⟩;unfold Vm;refine OG (Yi ?_);have f:Vq (v.push {cls:= .type "tuple",data:= .seq #[es[i].key,es[i].val]}) z d (i+1) es.size ep ok ov:=OK _ a;have j:v.objs.size=m.objs.size:=c.1;have W:z≠m.objs.size:=Qc (Pq l);have u:(v.push {cls:= .type "tuple",data:= .seq #[es[i].key,es[i].val]}).get? m.objs.size=My {cls:= .type "tuple",data:= .seq #[es[i].key,es[i].val]}:=by rw[<-j];exact O7 _ rfl
 have y:(v.push {cls:= .type "tuple",data:= .seq #[es[i].key,es[i].val]}).objs.size=m.objs.size+1:=by rw[Q1,j]
 have B:∀b o,b≠z->m.get? b=My o->(v.push {cls:= .type "tuple",data:= .seq #[es[i].key,es[i].val]}).get? b=My o:=λb o U e=>OK _ (c.extBut b o U e);generalize v.push {cls:= .type "tuple",data:= .seq #[es[i].key,es[i].val]}=h₂ at*;show O8 _ _ (UZ (.ref z)>>=_) _ _ ⟨h₂,g,P,R,G⟩;rw[j];refine OG ?_;unfold UZ;refine OG (QT f rfl (x:= .none) rfl (OJ ?_));simp only[Qq];refine OG (QT f rfl (x:=ok) rfl (OG (QT f rfl (x:=ov) rfl ?_)));refine OG (QU f (by simp) λn C F=>?_);refine OG (QU C (by simp) λp H I=>?_);refine OG (QU H (by simp) λq J L=>?_);refine OG (QU J (by simp) λr N O=>?_);have M:=((show PQ z h₂ n from F).trans (show PQ z n p from I)).trans ((show PQ z p q from L).trans (show PQ z q r from O));exact OG (Wh (OJ (OJ ⟨_,rfl,OJ (Y r N (M.extBut _ _ W.symm u) (by rw[M.1,y]) λb o U e=>M.extBut b o U (B b o U e))⟩)))
theorem z5(g:A.handled=OI)(c:Vq s.heap z d i es.size ep ok ov)(f:s.heap.get? d=My Z)(v:Z.data= .dict es ep)(G:es.size<=i)
  (h:∀D,VS z s.heap D->Q OI {s with heap:=D}):O8 (Px prog w) A (S7 (.ref z)) Q E s:=by
 have e:s.TypeIs (.ref z) "dict_itemiterator":=⟨_,c,rfl⟩;unfold S7;refine OG (SD (wpAny_callSpecial?_slot (name:=Q5 "__next__") e Re
  (P3 Re e WX ?_ (WM _))))
 refine OG (OJ (OG (OG ?_)))
 first|refine OG (SO e (OJ ?_))|refine OG (TD e (OJ ?_))
 refine OG (Ut c rfl ?_);simp only[show Ru "dict_itemiterator"=OL from by decide,Qq];show O8 _ _ (if(Pa d==P4)=OL then _ else _) _ _ s;rw[OY (show ¬((Pa d==P4)=OL)from O4)];refine OG (OJ (OG (Sw f v ?_)));rw[OY (by simp)];refine OG (OJ (OG (T4 f v ?_)));rw[OY (by simp)];refine OJ ?_;simp only[show ¬((i:Int)<0)from by lia,Qj,Qv,RW G];refine OG ?_
 first|refine OG (SO e (OJ ?_))|refine OG (TD e (OJ ?_))
 show O8 _ _ (Wg (.ref z) 2 .none>>=_) _ _ s;refine OG (SN c rfl (by simp) ?_);show O8 _ _ (Xn (.type "StopIteration") []>>=_) _ _ _;refine OG ?_;simp only[Xn,newTuple];refine OG (Qi ?_ (by size_fits));refine OG (m:=SM _ _) (SU (a:=P4) (by first|rfl|(simp only[SM];rfl)) ?_)
 refine Qi ?_ (by size_fits);simp only[Ye];refine OG (WB ?_);rw[show A.in1.handled=OI from g];refine OG (OJ (Xx ?_));refine OG (Rq (T:="StopIteration") (b:=OL) ⟨_,O7 _ rfl,rfl⟩ Wf ?_);exact OJ (h _ (((QK ..).extBut.push _).push _))
theorem zY(v:(d==UK)=OQ)(a:s.heap.get? d=My Z)(c:Z.cls= .type "dict")(i:Z.data= .dict es ep)
  (h:Q (.ref s.heap.objs.size) {s with heap:=s.heap.push {cls:= .type "dict_keyiterator",data:= .fields #[.ref d,.int 0 0,.int es.size 0,.int ep 0]}}):O8 (Px prog w) A (VZ (.ref d)) Q E s:=by
 have b:s.TypeIs (.ref d) "dict":=⟨Z,a,c⟩;refine Uu b F.slot_dict_iter (P3 F.slot_dict_iter b F.entry_dict_iter ?_ (F.args_dict_iter_1 _));unfold Builtin.«dict.__iter__» Builtin.Dict.dictSlotNone;refine OG (OG (wpAny_notOrdered_dict b ?_));show O8 _ _ (Ry (Pa d)) _ _ s;refine OJ ?_;show O8 _ _ (Tv d>>=_) _ _ s;unfold Tv;rw[OY (by rw[v];exact O4)];refine OG (OJ (OG (Sw a i (OG (T4 a i (OG (Qi (OJ ⟨_,rfl,"dict_keyiterator",_,⟨_,O7 _ rfl,rfl⟩,RX.lookup,?_⟩))))))));simpa[SW]using h
theorem zX{e:RY}(c:s.heap.IsKeyIter z d i es.size ep)(j:s.heap.get? d=My Z)(D:Z.data= .dict es ep)(G:es[i]?=My e)
  (k:∀v,v.IsKeyIter z d (i+1) es.size ep->PQ z s.heap v->Q (My e.key) {s with heap:=v}):O8 (Px prog w) A (S7 (.ref z)) Q E s:=by
 obtain⟨o,g,l,f⟩:=id c;have b:=c.typeIs;obtain⟨h,rfl⟩:=Qf.mp G;unfold S7;refine OG (SD (wpAny_callSpecial?_slot (name:=Q5 "__next__") b RX (P3 RX b W8 ?_ (WW _))));refine OG (OJ (OG (OG ?_)))
 first|refine OG (SV b (OJ ?_))|refine OG (TV b (OJ ?_))
 refine OG (Ut g f ?_);simp only[show Ru "dict_keyiterator"=OQ from by decide,Ph,Qj];show O8 _ _ (if(Pa d==P4)=OL then _ else _) _ _ s;rw[OY (show ¬((Pa d==P4)=OL)from O4)];refine OG (OJ (OG (Sw j D ?_)));rw[OY (by simp)];refine OG (OJ (OG (T4 j D ?_)));rw[OY (by simp)];refine OJ ?_;simp only[show ¬((i:Int)<0)from by lia,Qj,Qv,S8 h];refine OG ?_
 first|refine OG (SV b (OJ ?_))|refine OG (TV b (OJ ?_))
 refine OG (wpAny_isOneOf_keyiter b ?_);show O8 _ _ (Wg (.ref z) 1 (SW ((i:Int)+1))>>=_) _ _ s;refine OG (SN g f (by simp) ?_);have a:(s.heap.update z (XB (·.setIfInBounds 1 (SW ((i:Int)+1))))).IsKeyIter z d (i+1) es.size ep:=⟨_,R8 _ g (Uh (Q3 f _)),(Vp ..).trans l,by rw[Q3 f];simp[SW]⟩;refine OG (QG (OG (wpAny_isOneOf_keyiter (s:={s with heap:=s.heap.update z (XB (·.setIfInBounds 1 (SW ((i:Int)+1))))}) a.typeIs ?_)));show O8 _ _ (Ry es[i].key) _ _ _;exact OJ (OJ ⟨_,rfl,OJ (k _ a (QK ..))⟩)
theorem DV(j:A.handled=OI)(e:s.heap.IsKeyIter z d i es.size ep)(f:s.heap.get? d=My Z)(v:Z.data= .dict es ep)(G:es.size<=i)
  (k:∀D,VS z s.heap D->Q OI {s with heap:=D}):O8 (Px prog w) A (S7 (.ref z)) Q E s:=by
 obtain⟨o,g,l,h⟩:=id e;have c:=e.typeIs;unfold S7;refine OG (SD (wpAny_callSpecial?_slot (name:=Q5 "__next__") c RX (P3 RX c W8 ?_ (WW _))));refine OG (OJ (OG (OG ?_)))
 first|refine OG (SV c (OJ ?_))|refine OG (TV c (OJ ?_))
 refine OG (Ut g h ?_);simp only[show Ru "dict_keyiterator"=OQ from by decide,Ph,Qj];show O8 _ _ (if(Pa d==P4)=OL then _ else _) _ _ s;rw[OY (show ¬((Pa d==P4)=OL)from O4)];refine OG (OJ (OG (Sw f v ?_)));rw[OY (by simp)];refine OG (OJ (OG (T4 f v ?_)));rw[OY (by simp)];refine OJ ?_;simp only[show ¬((i:Int)<0)from by lia,Qj,Qv,RW G];refine OG ?_
 first|refine OG (SV c (OJ ?_))|refine OG (TV c (OJ ?_))
 show O8 _ _ (Wg (.ref z) 0 .none>>=_) _ _ s;refine OG (SN g h (by simp) ?_);show O8 _ _ (Xn (.type "StopIteration") []>>=_) _ _ _;refine OG ?_;simp only[Xn,newTuple];refine OG (Qi ?_ (by size_fits));refine OG (m:=SM _ _) (SU (a:=P4) (by first|rfl|(simp only[SM];rfl)) ?_)
 refine Qi ?_ (by size_fits);simp only[Ye];refine OG (WB ?_);rw[show A.in1.handled=OI from j];refine OG (OJ (Xx ?_));refine OG (Rq (T:="StopIteration") (b:=OL) ⟨_,O7 _ rfl,rfl⟩ Wf ?_);exact OJ (k _ (((QK ..).extBut.push _).push _))
def KIt(h:Qt)(I d:OM)(es:Array RY)(ep i:Nat):Prop:=h.IsKeyIter I d i es.size ep/\∃Z,h.get? d=My Z/\Z.data= .dict es ep
theorem yg(p:A.handled=OI)(j:I≠d):Walks prog w A I [I,d] [I] es.size (λi v=>∃e,es[i]?=My e/\v=e.key) (λi h=>KIt h I d es ep i) where
 sub:=λb a=>by simp at a;simp[a]
 frame:=λ_ _ _ D m=>by
  obtain⟨⟨o,q,r⟩,Z,c,f⟩:=D;exact⟨⟨o,m I (by simp) o q,r⟩,Z,m d (by simp) Z c,f⟩
 item:=λi s Q E t D g=>by
  obtain⟨D,Z,c,f⟩:=D;have n:es[i]?=My es[i]:=getElem?_pos es i t;exact zX D c f n λG k K=>g _ G s.toks ⟨_,n,rfl⟩ ⟨k,Z,K.extBut d Z (Ne.symm j) c,f⟩ λb o a e=>K.extBut b o (λz=>a (by simp[z])) e
 done:=λs Q E D g=>by
  obtain⟨D,Z,c,f⟩:=D;exact DV p D c f (OW _) λG l=>g G s.toks λb o a e=>l b o (λz=>a (by simp[z])) e
 self:=λ_ _ _ _ D g=>wpAny_pyIter_keyiter D.1 g
end
end L2.Hs
namespace L2.Hs
open PySem.SetTable
section
variable{prog:PM}{w:P0}{A:P7}{E:a0d}{s:OV}
theorem uR{o:PF}{es:Array RY}(z:A.handled=OI)(hs:(a==UK)=OQ)(O:s.heap.get? a=My o)(y:o.cls= .type "dict")(S:o.data= .dict es ep)
  (aa:es.size<=1000)
  (hQ:∀M P V,(∀b o,s.heap.get? b=My o->M.get? b=My o)->s.heap.objs.size<=M.objs.size->s.toks<=P->V=es.toList.map (·.key)->Q V {s with heap:=M,toks:=P}):O8 (Px prog w) A (collect (.ref a)) Q E s:=by
 unfold collect;refine OG (Yj (U7 YV ?_));rw[Uf YW _];show O8 _ A.in1 (newList []>>=λl=>Wz (.builtin "list.__iadd__" ⟨[l,.ref a],[]⟩)) _ _ s;refine OG (Qi ?_);refine OJ ⟨WA Vt _,U7 F.entry_list_iadd ?_⟩;rw[Uf Vt _];have x:=Pq O;have h:(s.heap.push {cls:= .type "list",data:= .seq ([]:a0g).toArray}).get? a=My o:=OK _ O;have B:(s.heap.push {cls:= .type "list",data:= .seq ([]:a0g).toArray}).get? s.heap.objs.size=My {cls:= .type "list",data:= .seq ([]:a0g).toArray}:=O7 _ rfl;have r:s.heap.objs.size≠a:=RK x;have v:SX (.ref s.heap.objs.size) (.ref a)=OQ:=by simp[SX,r]
 have C:(⟨s.heap.push {cls:= .type "list",data:= .seq ([]:a0g).toArray},s.gens,s.drawn,s.toks,s.os⟩:OV).TypeIs (.ref a) "dict":=⟨o,h,y⟩;show O8 _ A.in1 (SA (.ref s.heap.objs.size) (.ref a) (.ref s.heap.objs.size)) _ _ _;unfold SA;refine OG (W6 C ?_);rw[OY (by rw[v];decide)];refine OG (zY hs h y S ?_);refine OG (QG ?_);unfold V4;have n:(⟨(s.heap.push {cls:= .type "list",data:= .seq ([]:a0g).toArray}).push {cls:= .type "dict_keyiterator",data:= .fields #[.ref a,.int 0 0,.int es.size 0,.int ep 0]},s.gens,s.drawn,s.toks,s.os⟩:OV).TypeIs (.ref a) "dict":=⟨o,OK _ h,y⟩;refine OG (So n F.slot_dict_len.lookup ?_)
 (generalize t:("dict.__len__":String)=id0;wp_delta;rw[show splitId id0=My ("dict","__len__")from by subst t;decide +kernel];subst t)
 refine OG (Rq (b:=OL) n (by rw[Ur];kernel_rfl) ?_);rw[OY (by decide)];show O8 _ _ (if _ then _ else _) _ _ _;rw[OZ (by decide)];refine OG (W6 n ?_);refine OJ ?_;rw[OZ (by decide)];refine OG (Ro ?_);have R:(s.heap.push {cls:= .type "list",data:= .seq ([]:a0g).toArray}).objs.size=s.heap.objs.size+1:=by rw[size_push']
 generalize j:(s.heap.push {cls:= .type "list",data:= .seq ([]:a0g).toArray}).push {cls:= .type "dict_keyiterator",data:= .fields #[.ref a,.int 0 0,.int es.size 0,.int ep 0]}=f;have T:f.get? s.heap.objs.size=My (RV "list" #[] 0):=by rw[<-j];exact OK _ B
 have gI:f.get? (s.heap.objs.size+1)=My {cls:= .type "dict_keyiterator",data:= .fields #[.ref a,.int 0 0,.int es.size 0,.int ep 0]}:=by rw[<-j,<-R];exact O7 _ rfl
 have ga:f.get? a=My o:=by rw[<-j];exact OK _ h
 have p:∀b g,s.heap.get? b=My g->f.get? b=My g:=λb g e=>by rw[<-j];exact OK _ (OK _ e)
 unfold Ws;refine OG (OG (TU T rfl ?_ (by show 0<=_;decide) (by show 1<=_;decide)));obtain⟨U,X⟩:∃U,(f.update s.heap.objs.size (Qx λD=>D.push P4)).get? s.heap.objs.size=My (RV "list" #[P4] U):=⟨_,get?_update_seq T λD=>D.push P4⟩;refine TU X rfl ?_ (by show 1<=Pk;decide) (by show 0<=_;decide);obtain⟨H,Y⟩:∃H,((f.update s.heap.objs.size (Qx λD=>D.push P4)).update s.heap.objs.size (Qx λD=>D.pop)).get? s.heap.objs.size=My (RV "list" #[] H):=⟨_,get?_update_seq X λD=>D.pop⟩;have c:∀b g,b≠s.heap.objs.size->f.get? b=My g->((f.update s.heap.objs.size (Qx λD=>D.push P4)).update s.heap.objs.size (Qx λD=>D.pop)).get? b=My g:=λb g q e=>by
  rw[Rr _ _ _ _ q,Rr _ _ _ _ q];exact e
 generalize (f.update s.heap.objs.size (Qx λD=>D.push P4)).update s.heap.objs.size (Qx λD=>D.pop)=h4 at Y c;have J:s.heap.objs.size+1≠a:=RK (Sk x);have st:KIt h4 (s.heap.objs.size+1) a es ep 0:=⟨⟨_,c _ _ (by lia) gI,rfl,rfl⟩,o,c a o (Ne.symm r) ga,S⟩;have W:=yg (prog:=prog) (w:=w) (A:=A.in1) (I:=s.heap.objs.size+1) (d:=a) (es:=es) (ep:=ep) z J;show O8 _ _ (Wz _) _ _ _;rw[R];refine OJ ⟨WA F.plain_extend_loop _,codeAny_extend_loopS W.toS (by rw[Q6];lia) s.heap.objs.size (by simp;omega) _ es.size 0 _ #[] H rfl (Ql _) st Y (ItemsOf.nil _) λG k c' K u m=>?_⟩;show O8 _ A (load s.heap.objs.size>>=_) _ _ G;refine OG (wpAny_load u ?_);refine OJ ?_;have L:G={s with heap:=G.heap,toks:=G.toks}:=by
  have v:=K.gens;have f:=K.drawn;have Z:=K.os;obtain⟨a1,a2,a3,a4,a5⟩:=G;simp only at v f Z;subst v f Z;rfl
 rw[L];refine hQ _ _ _ (λb g e=>?_) (Qo (Pq u)) K.toks ?_
 .have q:=Pq e
  exact K.heap b g (by simp only[O6,QD,Tz,Zr];exact⟨Qc q,Qc (Sk q)⟩) (c b g (Qc q) (p b g e))
 .refine Td (by rw[O9,OH,O9,m.1]) λi q1 q2=>?_
  have N:i<k.size:=by simpa using q1
  obtain⟨e,he,hv⟩:=m.2 i _ (getElem?_pos k i N);rw[Sb,hv,Te,Sb];obtain⟨z1,z2⟩:=Qf.mp he;rw[z2]
theorem u4{o:PF}{K:Array RY}{xs:a0p}(u:A.handled=OI)(V:(a==UK)=OQ)(v:s.heap.get? a=My o)(y:o.cls= .type "dict")(I:o.data= .dict K T)(t:K.toList.map (·.key)=xs.map λk=>Pa k.2)(q:(xs.map (·.1)).Nodup)(S:∀{B:P7},B.units<=A.units+3->ZT prog w B is)(J:∀x∈xs,is s.heap x.1 x.2)(C:xs.length<=1000)
  (h:∀(l:OM) (D:Qt) (g r:Nat) (i:a0p),i.Perm xs->Up (i.map (·.1))->D.get? l=My (RV "list" (i.map λk=>Pa k.2).toArray r)->s.heap.objs.size<=l->(∀b o,s.heap.get? b=My o->D.get? b=My o)->s.toks<=g->Q (.ref l) {s with heap:=D,toks:=g}):
  O8 (Px prog w) A (Wq (.builtin "sorted") [.ref a]) Q E s:=by
 have F:K.size=xs.length:=by rw[<-O9,<-OH (f:=λe:RY=>e.key),t,OH]
 refine U1 kind_sorted plain_sorted entry_sorted (args_sorted1 _) ?_;unfold Builtin.«sorted»;refine OG (m:=checkCount "sorted" 1 1 _) (OJ ?_);refine OG (uR u V v y I (by lia) λj g R G n M pv=>?_);rw[t]at pv;subst pv;refine OG (YT ?_ (by rw[OH,Q6];lia));have c:∀b d,s.heap.get? b=My d->(j.push (RV "list" (xs.map λk=>Pa k.2).toArray 0)).get? b=My d:=λb d e=>OK _ (G b d e);have p:(j.push (RV "list" (xs.map λk=>Pa k.2).toArray 0)).get? j.objs.size=My (RV "list" (xs.map λk=>Pa k.2).toArray 0):=O7 _ rfl;show O8 _ _ _ _ _ {s with heap:=j.push (RV "list" (xs.map λk=>Pa k.2).toArray 0),toks:=g};refine OG (QG (P3 slot_list_sort ⟨_,p,rfl⟩ entry_list_sort (qy (S ?_) p (λk H=>(S (RH A.units 3)).fr (J k H) λb o _=>c b o) q (by omega) λD i r L N O P=>⟨_,rfl,?_⟩) (args_list_sort _)))
 .first|(show A.units+1<=A.units+3;lia)|(show A.units+2<=A.units+3;exact Vo _)|(show A.units+3<=A.units+3;lia)|(show A.units<=A.units+3;lia)
 .refine OJ ⟨_,rfl,h j.objs.size D g r i L N O n (λb d e=>P b d (λz=>?_) (c b d e)) M⟩
  have:=Pq e;exact Pp (z▸this) (Nat.not_lt.mpr n)
open PySem.W (kat_lt kat_cons kat_yes kat_no kat_nil kat_one)
theorem zP:∀l m:a0e,HT.lexLt l m=bR l m
 |[],[]=>rfl
 |[],_::_=>rfl
 |_::_,[]=>rfl
 |a::l,b::m=>by rw[HT.lexLt_cons,zP l m];rfl
theorem ut(h:PySem.ItemsAre (VC prog w) b c):Uj c b:=by
 induction h with
 |nil=>exact .nil
 |cons a _ s=>
  obtain⟨t,rfl⟩:=Vc a;exact .cons _ t s
theorem lt_p{x y:d_}(j:A.units+1<US)(D:ux prog w s.heap x a)(G:ux prog w s.heap y b)(h:Q (bR (x.1::x.2) (y.1::y.2)) s):O8 (Px prog w) A (keyLt' (Zt OL) (.ref a) (.ref b)) Q E s:=by
 obtain⟨o,n,t,c,k,_,K,i⟩:=D;obtain⟨F,H,M,I,e,_,f,d⟩:=G;refine kat_lt k K e f ?_;unfold bR at h;refine kat_cons (wpAny_eqBool_int ?_);by_cases z:x.1=y.1
 .rw[OZ z]at h
  rw[show(x.1==y.1)=OL by rw[Tl];exact z];refine kat_yes (kat_cons ((gt prog w).eqBool (QZ j) i d ?_));by_cases g:x.2=y.2
  .rw[Pf g]
   rw[g,gq]at h;exact kat_yes (kat_nil h)
  .rw[PY g]
   obtain⟨l,J,m,p,q,r,u⟩:=i;obtain⟨o2,i2,v,f1,f2,B,C⟩:=d;exact kat_no (kat_one _ _ (HT.lt_tupInts ⟨l,p,q,m,r⟩ ⟨o2,f1,f2,v,B⟩ (ut u) (ut C) (QZ ‹_›) (by rw[zP];exact h)))
 .rw[OY z]at h
  rw[show(x.1==y.1)=OQ by rw[VN];exact z];exact kat_no (oneLt_int h)
abbrev kl(b:Bool)(k:d_):a0e:=cond b (k.1::k.2) k.2
def isB(prog:PM)(w:P0)(b:Bool)(h:Qt)(k:a0e)(x:OM):Prop:=∃y,k=kl b y/\(KB prog w b).is h y x/\1<=k.length
theorem NQ(p:A.units+1<US):∀b,ZT prog w A (isB prog w b)
 |false=>⟨λ⟨y,e,⟨z,g⟩,l⟩ k=>⟨y,e,⟨z,((wP (A:=A)).fr (k:=y.2) ⟨g,by rw[e]at l;exact l⟩ k).1⟩,l⟩,λ⟨y,e,⟨z,g⟩,l⟩=>(wP (A:=A)).tup (k:=y.2) ⟨g,by rw[e]at l;exact l⟩,λ⟨y,e,⟨_,g⟩,_⟩ ⟨q,a,⟨_,s⟩,_⟩=>by rw[e,a];exact(gt prog w).inj g s,λ⟨y,e,⟨_,g⟩,_⟩ ⟨q,a,⟨_,s⟩,_⟩ h=>zH g s (by rw[e,a]at h;exact h)⟩
 |true=>⟨λ⟨y,e,⟨o,n,t,b,d,c,f,r,D,m,u,j,v,B⟩,l⟩ k=>⟨y,e,⟨o,n,t,b,k _ _ c d,c,f,r,D,m,k _ _ j u,j,v,B⟩,l⟩,λ⟨y,e,⟨o,n,t,b,d,c,f,_⟩,l⟩=>⟨o,_,n,y.1,t,d,c,f,rfl⟩,λ⟨y,e,E,_⟩ ⟨z,a,i,_⟩=>by rw[e,a,ux.inj E i],λ⟨y,e,E,_⟩ ⟨z,a,i,_⟩ h=>lt_p p E i (by rw[e,a]at h;exact h)⟩
theorem Ob{b:Bool}{l:a0G}(s:l.Nodup)(h:b=OQ->∀x∈l,x.1=0):(l.map (kl b)).Nodup:=QY.mpr (s.imp_of_mem λ{x y} w A D e=>D (by
 cases b with
 |true=>exact R6 (S5 e).1 (S5 e).2
 |false=>exact R6 ((h rfl x w).trans (h rfl y A).symm) e))
end
section
variable{X:Cx}
abbrev kA(b:Bool)(y:d_×OM×V):a0e×OM:=(kl b y.1,y.2.1)
def m7(K:Pl):a0k->Hp->VK->Prop:=λE H Q=>∃a b G D,E=[.ref a]/\H a=My (cg a b G D)/\(∀x∈D,vl K H b x.1 x.2.1/\1<=(kl b x.1).length)/\D.length<=1000/\
 ∀(l:OM) (c:a0p),H l=OI->c.Perm (D.map (kA b))->Up (c.map (·.1))->Q (.ref l) (upd H l (.lst (c.map λz=>V.ref z.2)))
theorem HE{b:Bool}:∀{xs:a0o} {D:a0A},U4 XY xs D->xs.map (kA b)=D.map λy=>(kl b y.1,y.2.1)
 |_,_,.nil=>rfl
 |_,_,.cons h t=>by
  rw[Pc,Pc,HE t];unfold kA;rw[h.1,h.2.1]
theorem iM(m:X.calm=OL)(R:X.A.units+64<US):cD X (.builtin "sorted") (m7 X.K):=by
 intro g s T H xs us Q I r h;obtain⟨a,b,ep,S,rfl,ha,E,hn,q⟩:=h;obtain⟨u,rfl,n⟩:=gx r;cases n;obtain⟨U,⟨o,es,t,v,w,B,C,W,F⟩,p,Y,f⟩:=lC I ha λx h=>(E x h).1;have i:=HE (b:=b) p;have J:=ic p;refine u4 (xs:=S.map (kA b)) (I.ok.hd m) f v w.1 B ?_ ?_ (λhB=>NQ (by lia) b) ?_ (by rw[OH];exact hn) λl h' L N c j O P M D Z=>?_
 .rw[C,i,O0,O0];rfl
 .have:=Ob (b:=b) F λe x d=>by
   subst e;rw[<-J]at d;obtain⟨y,G,rfl⟩:=OR.mp d;exact(E y G).1.1
  rw[O0]at this;rw[i,O0];exact this
 .intro x d
  obtain⟨y,G,rfl⟩:=OR.mp d;exact⟨y.1,rfl,oX I (E y G).1,(E y G).2⟩
 .refine⟨.ref l,_,I.laid (t':=L) (o:= .lst (c.map λz=>V.ref z.2)) D M ⟨?_,c.map λk=>Pa k.2,N,?_,P⟩,rfl,q l c (I.hok.fresh M) j O⟩
  .rw[OH,j.length_eq,OH,Q6];lia
  .exact kz c
end
end L2.Hs
namespace L2.Pu
section
variable{X:Cx}{E:a0s}{K:Pl}{a b:Expr}{es:List Expr}{s:Ub}
theorem To.none(t:To F H H1 f)(h:H1 p=OI):H p=OI:=by
 cases q:H p with
 |none=>rfl
 |some o=>
  have:H1 p=My o:=t.kp p o q λb l e=>by
   obtain⟨c,d⟩:=t.fr.bag b l e;exact⟨λw=>(by subst w;rw[c]at h;cases h),λw=>(by subst w;rw[d]at h;cases h)⟩
  rw[this]at h;cases h
noncomputable def Fx.but(F:Fx)(a:OM):Fx:=⟨λc=>F.A c\/c=a,F.bg⟩
theorem Fx.tr_but{F:Fx}(fr:Fr F H g)(d:H p=OI)(a:∀c o,H c=My o->H1 c=My o):Tr F H (F.but p) H1:=⟨λc e f z=>by
 rcases z with z|z
 .exact e z
 .subst z;exact f d,λc o _ h=>a c o h,rfl⟩
theorem Fx.tr_of{F:Fx}:Tr (F.but p) H F H:=⟨λc h _ z=>h (RM z),λ_ _ _ h=>h,rfl⟩
def ck(K:Pl)(F:Fx)(s H:Hp)(D:a0b)(v:V):Prop:=∃a b,v= .ref a/\s a=OI/\H a=My (.lst b)/\ba K (F.but a) H D b
def C_(K:Pl)(f:FL)(E:a0s):TE:=λc H Q=>∃F a b,Fr F H b/\hO K F H a c/\run (ck K F H) F E c (f a) H Q b
def ZH(K:Pl)(f:Dn->M a0t)(E:a0s):TE:=λc H Q=>∃F a b,Fr F H b/\hO K F H a c/\run (gO K F H) F E c (f a) H Q b
noncomputable def Z3(ds:a0b):a0D:=if ds.length<=Pk then My ds else OI
theorem ck.new(t:To F H H1 f)(d:H1 p=OI)(a:ba K F H1 g e):ck K F H (upd H1 p (.lst e)) g (.ref p):=
 ⟨p,e,rfl,t.none d,ao,ba.tr (Fx.tr_but t.fr d λc o h=>by rw[bb (aB h d)];exact h) _ _ a⟩
theorem ba.rep(h:ba K F H c d):∀n:Nat,ba K F H (Pr n c).flatten (Pr n d).flatten
 |0=>rfl
 |n+1=>by
  rw[Q9,Rb,Q9,Rb];exact ba.append h (ba.rep h n)
noncomputable def tz(a:a0b)(d:D):a0D:=match d with
 | .int k=>if(decide (-(2^63)<=k)&&decide (k<2^63)&&decide (a.length<=Pk)&&decide (a.length*k.toNat<=Pk))=OL then My (Pr k.toNat a).flatten else OI
 |_=>OI
def xg(g:FL)(f:FD):FL:=λb=>M.bind (g b) λa=>M.bind (M.ofO (Z3 a)) λa=>M.bind (f b) λd=>M.ofO (tz a d)
theorem N3(ha:PA X es (hU X.K g E))(L:PE X b (tV X.K f E)):PE X (.BinOp (.List es pos') .Mult b s) (C_ X.K (xg g f) E):=
 (dO Lw (fW ha) L).imp λN H Q i=>i_ i λF G β fr y r=>⟨F,G,β,fr,y,(run.bind (R:=ba X.K F) r).mono λD O i=>by
  obtain⟨ds,a,t,S,r1⟩:=i;obtain⟨P,j,T⟩:=run.ofO_bind r1;unfold Z3 at j;split at j
  .rename_i U
   cases j;refine⟨by rw[<-S.length];exact U,λp A=>?_⟩;have t1:=t.fr.upd (.lst D) A;have B:=t.fr.fresh A;refine⟨F,G,a,t1.fr,(y.tr (t.tr fr)).tr (t1.tr t.fr),?_⟩;obtain⟨I,V,e,h⟩:=T;have n:run (ck X.K F H) F E N (M.bind (f G) λd=>M.ofO (tz ds d)) (upd O p (.lst D)) Q a:=by
    refine⟨I,V,e,?_⟩;cases I with
    |ok d=>exact λv o t2=>h v o (t1.trans t2)
    |error C=>exact λo t2=>h o (t1.trans t2)
   refine(run.bind (R:=bw X.K F) n).mono λw W i=>lv i λd aa t2 Y Z=>?_;obtain⟨os,c,k⟩:=run.ofO Z;unfold tz at c;split at c
   .split at c
    .rename_i kk m
     cases c;simp only[PP,PX]at m;cases Y;have u:W p=My (.lst D):=t2.kp p _ ao λb l q=>⟨λz=>B (z▸(fr.bgA b l q).1),λz=>B (z▸(fr.bgA b l q).2.1)⟩;have x:=t1.trans t2;exact⟨p,_,D,rfl,rfl,u,m.1.1.1,m.1.1.2,by rw[<-S.length];exact m.2,λq J=>k _ _ (t2.fr.upd _ J) (ck.new (t.trans x) J ((ba.tr (x.tr t.fr) _ _ S).rep _))⟩
    .cases c
   .cases c
  .cases j⟩
def fj(nv:Nat)(bt:a0a)(it:Dn->M (List Pu.D))(tg:lk)(s:a0r)(b:Dn->M (List Pu.D)):Dn->M (List Pu.D):=λa E=>match it a E with
 |none=>OI
 |some (.error C,β1)=>My (.error C,β1)
 |some (.ok ds,β1)=>match mx tg s b ds (jm nv bt a) β1 with
  |some (.ok os,β2)=>if os.length<=Pk then My (.ok os,β2)else OI
  |_=>OI
theorem yy{G:a0i}{S:a0a}{V:Dn->M (List Pu.D)}{g:TG}{s:lk}{X:a0r}{B:a0Y}{b:Dn->M (List Pu.D)}(O:cB K g s)(P:dH s)(T:∀D,jf K D (B D) b){I:St}{H:Hp}{Q:VK}(h:C_ K (fj G.length S V s X b) E I H Q):
  n6 G S (iV K V E) (λD J=>cV J g (g8 K X E0) (B D)) I H Q:=by
 obtain⟨F,δ,β,fr,L,r,k,e,h⟩:=h;unfold fj at e;refine⟨F,δ,β,fr,L,?_⟩;split at e
 .cases e
 .rename_i C β1 q
  cases e;exact⟨.error C,_,q,h⟩
 .rename_i ds β1 q
  split at e
  .rename_i os β2 q2
   split at e
   .rename_i U
    cases e;refine⟨.ok ds,β1,q,λJ j t W D c=>?_⟩;have d:¬F.A D:=t.fr.fresh c;have Y:∀b l,F.bg=My (b,l)->D≠b/\D≠l:=λb l z=>⟨λw=>d (w▸(fr.bgA b l z).1),λw=>d (w▸(fr.bgA b l z).2.1)⟩;have t2:=t.fr.upd (.lst []) c;have m:Fr ⟨λa=>F.A a\/a=D,F.bg⟩ (upd j D (.lst [])) β1:=by
     refine⟨λa ha z=>?_,λb l z=>let ⟨x,y,w⟩:=fr.bgA b l z;⟨.inl x,.inl y,w⟩,t2.fr.bag⟩
     rcases ha with ha|ha
     .exact t2.fr.occ a ha z
     .subst ha;rw[ao]at z;cases z
    have f:Tr F j ⟨λa=>F.A a\/a=D,F.bg⟩ (upd j D (.lst [])):=⟨λa ha hs z=>by
     rcases z with z|z
     .exact ha z
     .subst z;exact hs c,λa o ha z=>by rw[bb (aB z c)];exact z,rfl⟩
    refine md (R:=RL K) (D:=D) (as:=[]) (os:=os) O P (T D) m (.inr rfl) Y (pA (L.tr ((t.tr fr).trans f))) ⟨[],ao,rfl⟩ (W.tr f) q2 (show os.length<=Pk from U) λZ N t3 aa p=>?_;obtain⟨i,u,v⟩:=p;have tf:To F j N k:=by
     refine⟨λa o z n=>t3.kp a o (by rw[bb (aB z c)];exact z) (aB z c) n,λa ha z=>t3.fr.occ a (RM ha) z,fr.bgA,t3.fr.bag⟩
    exact h _ N (t.trans tf) ⟨D,i,rfl,t.none c,u,v⟩
   .cases e
  .cases e
def nM(s:lk)(E:a0r)(b:Dn->M (List (List Pu.D))):List Pu.D->Dn->M (List (List Pu.D))
 |[],_=>M.ret []
 |d::ds,δ=>match s d δ with
  |none=>M.fail
  |some a=>M.bind (E a) λc=>M.bind (if c=OL then b a else M.ret []) λo=>M.bind (nM s E b ds δ) λG=>M.ret (o++G)
def zx(K:Pl)(F:Fx)(D:OM)(s H:Hp)(E:List (List Pu.D))(a:a0k):Prop:=(∀c,s c≠OI->H c≠OI)/\∃b,a=b.map V.ref/\(D::b).Nodup/\bj K F H (λr=>s r=OI) E b
theorem zx.mono{F:Fx}{D:OM}(g:F.A D)(i:∀b l,F.bg=My (b,l)->H0 b≠OI/\H0 l≠OI)(fr:Fr F H β)(t:lm F D H H1 β1)(h:zx K F D H0 H as n):zx K F D H0 H1 as n:=by
 obtain⟨cv,E,e,a,j⟩:=h;refine⟨λc k z=>?_,E,e,a,bj.tr (t.tr fr g) j λr G m p q=>⟨p,t.kp r _ q (λz=>?_) λb l w=>⟨λz=>?_,λz=>?_⟩⟩⟩
 .cases q:H c with
  |none=>exact cv c k q
  |some o=>
   by_cases s:c=D
   .subst s;exact t.fr.occ _ g z
   .by_cases d:∃b l,F.bg=My (b,l)/\(c=b\/c=l)
    .obtain⟨b,l,w,f⟩:=d
     rcases f with rfl|rfl
     .exact t.fr.occ _ (fr.bgA _ _ w).1 z
     .exact t.fr.occ _ (fr.bgA _ _ w).2.1 z
    .rw[t.kp c o q s λb l w=>⟨λy=>d ⟨b,l,w,.inl y⟩,λy=>d ⟨b,l,w,.inr y⟩⟩]at z
     cases z
 .subst z;exact(Qn.mp a).1 m
 .subst z;exact(i _ _ w).1 p
 .subst z;exact(i _ _ w).2 p
def pE(K:Pl)(D:OM)(i:TB)(f:Dn->M (List (List Pu.D))):Prop:=∀(F:Fx) (s H:Hp) (E:Dn) (V d:Bg) (h:St) (a:a0k) (G S:List (List Pu.D)) (Q:a0F),Fr F H V->F.A D->(∀b l,F.bg=My (b,l)->D≠b/\D≠l)->(∀b l,F.bg=My (b,l)->s b≠OI/\s l≠OI)->hO K F H E h->H D=My (.lst a)->zx K F D s H G a->
 f E V=My (.ok S,d)->G.length+S.length<=Pk->(∀e g c,lm F D H g d->hO K F g E e->g D=My (.lst c)->zx K F D s g (G++S) c->Q e g)->i h H Q
def ql(f:Dn->M (List Pu.D)):Dn->M (List (List Pu.D)):=λa=>M.bind (f a) λd=>M.ret [d]
theorem bj.snoc(p:P r)(c:H r=My (.lst e))(d:ba K F H f e):∀{a:List (List Pu.D)} {b:a0q},bj K F H P a b->bj K F H P (a++[f]) (b++[r])
 |[],[],_=>⟨p,⟨e,c,d⟩,trivial⟩
 |_::_,_::_,h=>⟨h.1,h.2.1,bj.snoc p c d h.2.2⟩
 |[],_::_,h=>h.elim
 |_::_,[],h=>h.elim
theorem vS{D:OM}:pE K D (x5 D (C_ K f E0)) (ql f):=λF E H X β j Y s as os Q fr m p P R T G e Z k=>by
 obtain⟨d,aa,e1,e2⟩:=M.bind_inv e;cases e2;refine⟨F,X,β,fr,R,E0.run e1 λv U t hv=>?_⟩;have u:=t.kp D _ T p;have w:=G.mono m P fr (t.toD D);obtain⟨r,xs,rfl,g,n1,n2⟩:=hv;obtain⟨cv,S,A,nd,W⟩:=w;obtain⟨B,c,C,I,J⟩:=G;have i:s.length=as.length:=by rw[A,OH,W.len]
 have L:c=S:=by
  have:c.map V.ref=S.map V.ref:=C.symm.trans A;exact Wa (λa b q=>by cases q;rfl)|>.mp this
 subst L;have nD:r≠D:=λz=>by subst z;rw[T]at g;cases g
 have nr:r∉c:=λz=>by
  obtain⟨_,ys,q⟩:=J.all r z;rw[q]at g;cases g
 have N:E r=OI:=by
  cases q:E r with
  |none=>rfl
  |some o=>exact Pp g (B r (by rw[q];simp))
 refine⟨s,u,by rw[i];simp at Z;exact ‹_›,?_⟩;have O:lm F D U (upd U D (.lst (s++[.ref r]))) j:=by
  refine⟨λa o h n _=>by rw[bb n];exact h,λa h q=>?_,fr.bgA,λb l q=>?_⟩
  .by_cases z:a=D
   .subst z;rw[ao]at q;cases q
   .rw[bb z]at q;exact t.fr.occ a h q
  .rw[bb (p b l q).1.symm,bb (p b l q).2.symm]
   exact t.fr.bag b l q
 have tt:=O.tr t.fr m;refine k Y _ _ ((t.toD D).trans O) (R.tr ((t.tr fr).trans tt)) ao (zx.mono m P t.fr O ⟨cv,c++[r],by rw[A,Pw];rfl,?_,bj.snoc N n1 (ba.tr Fx.tr_of _ _ n2) W⟩);rw[<-Ta,Si];refine⟨I,by simp,λx hx y hy=>?_⟩;obtain rfl:y=r:=by simpa using hy
 rcases O6.mp hx with rfl|hx
 .exact nD.symm
 .exact λz=>nr (z▸hx)
end
section
variable{X:Cx}{E:a0s}{K:Pl}
theorem J3{D:OM}(hg:cB K g tg)(sg:dH tg)(hb:pE K D tb b){F:Fx}{as os:List (List Pu.D)}(fr:Fr F H β)(R:F.A D)(hn:∀b l,F.bg=My (b,l)->D≠b/\D≠l)(Y:∀b l,F.bg=My (b,l)->H0 b≠OI/\H0 l≠OI)(vk:hO K F H z σ)(hD:H D=My (.lst acc))(hd:zx K F D H0 H as acc)
  (it:s_ K J F H s) (e:nM tg tt b s z β=My (.ok os,β')) (hz:as.length+os.length<=Pk) (k:∀f n a,lm F D H n β'->hO K F n z f->n D=My (.lst a)->zx K F D H0 n (as++os) a->Q f n):cV J g (g8 K tt E0) tb σ H Q:=by
 refine⟨λi m f n=>m+i=s.length/\∃E a j t,lm F D H n E/\hO K F n z f/\n D=My (.lst a)/\zx K F D H0 n j a/\nM tg tt b (s.drop i) z E=My (.ok t,β')/\j++t=as++os,
  ⟨s.length,rfl,β,acc,as,os,⟨λ_ _ h _ _=>h,fr⟩,vk,hD,hd,e,rfl⟩,?_⟩
 rintro i m f n ⟨hm,E,a,j,t,t1,v,w,y,r,Z⟩;have X:=t1.tr fr R;obtain⟨iy,is⟩:=it F n E X t1.fr i;cases T:s[i]? with
 |none=>
  have U:s.length<=i:=Vb.mp T;rw[SG U]at r;cases r;refine .inl ⟨is (by lia),k f n a t1 v w ?_⟩;rw[<-Z,PN];exact y
 |some d=>
  have U:i<s.length:=(OT.mp T).1;obtain⟨go,yl⟩:=iy d T;have ed:s.drop i=d::s.drop (i+1):=by
   rw[Qa U];congr 1;exact PH ((ON U).symm.trans T)
  rw[ed]at r;unfold nM at r;cases q:tg d z with
  |none=>rw[q]at r;cases r
  |some G=>
   rw[q]at r;obtain⟨c,V,e2,e3⟩:=M.bind_inv r;obtain⟨o,S,W,e5⟩:=M.bind_inv e3;obtain⟨B,ah,e6,e7⟩:=M.bind_inv e5;cases e7;obtain⟨s1,s2⟩:=sg _ _ _ q;refine .inr ⟨go,λC I=>∃p,lm F D H I S/\hO K F I z C/\I D=My (.lst p)/\zx K F D H0 I (j++o) p,?_,λx H2 hy=>?_⟩
   .rintro C I ⟨p,t9,vk9,hD9,hd9⟩
    exact⟨m-1,by lia,by lia,S,p,j++o,B,t9,vk9,hD9,hd9,e6,by rw[O3];exact Z⟩
   .obtain⟨sm,dx⟩:=yl x H2 hy
    have t2:To F n H2 E:=t1.fr.same sm;have aa:=t2.tr t1.fr;refine hg F H2 z G f d x _ (v.tr aa) dx q λab u=>⟨F,G,E,t2.fr,u,E0.run e2 λc' H3 t3 ec=>?_⟩;subst ec;have ac:=sm _ _ w;have L:=t3.kp D _ ac hn;have N:=t3.tr t2.fr;have d3:=(y.mono R Y t1.fr (t2.toD D)).mono R Y t2.fr (t3.toD D);have O:lm F D H H3 V:=t1.trans ((t2.trans t3).toD D);have ad:j.length+(o++B).length<=Pk:=by
     have:=Qb TK Z;simp only[O1]at this⊢;lia
    cases c' with
    |true=>
     rw[OZ rfl]at W⊢;refine hb F H0 H3 G V S ab a j o _ t3.fr R hn Y (u.tr N) L d3 W (by rw[O1]at ad;lia) λai H4 P t4 ae af ag=>?_;exact⟨P,O.trans t4,ae.sub s1 s2,af,ag⟩
    |false=>
     rw[OY O4]at W⊢;cases W;exact⟨a,O,(u.tr N).sub s1 s2,L,by rw[PN];exact d3⟩
def gL(G:Nat)(K:a0a)(S:Dn->M (List Pu.D))(V:lk)(X:a0r)(b:Dn->M (List (List Pu.D))):Dn->M (List (List Pu.D)):=λE a=>match S E a with
 |none=>OI
 |some (.error C,β1)=>My (.error C,β1)
 |some (.ok ds,β1)=>match nM V X b ds (jm G K E) β1 with
  |some (.ok os,β2)=>if os.length<=Pk then My (.ok os,β2)else OI
  |_=>OI
theorem qv{S:a0i}{V:a0a}{X:Dn->M (List Pu.D)}{g:TG}{G:lk}{s:a0r}{B:a0Y}{b:Dn->M (List (List Pu.D))}(P:cB K g G)(R:dH G)(T:∀D,pE K D (B D) b){I:St}{H:Hp}{Q:VK}(h:ZH K (gL S.length V X G s b) E I H Q):
  n6 S V (iV K X E) (λD J=>cV J g (g8 K s E0) (B D)) I H Q:=by
 obtain⟨F,δ,β,fr,L,r,k,e,h⟩:=h;unfold gL at e;refine⟨F,δ,β,fr,L,?_⟩;split at e
 .cases e
 .rename_i C β1 q
  cases e;exact⟨.error C,_,q,h⟩
 .rename_i ds β1 q
  split at e
  .rename_i os β2 q2
   split at e
   .rename_i U
    cases e;refine⟨.ok ds,β1,q,λJ f t W D d=>?_⟩;have i:¬F.A D:=t.fr.fresh d;have Y:∀b l,F.bg=My (b,l)->D≠b/\D≠l:=λb l z=>⟨λw=>i (w▸(fr.bgA b l z).1),λw=>i (w▸(fr.bgA b l z).2.1)⟩;have t2:=t.fr.upd (.lst []) d;have m:Fr ⟨λa=>F.A a\/a=D,F.bg⟩ (upd f D (.lst [])) β1:=by
     refine⟨λa ha z=>?_,λb l z=>let ⟨x,y,w⟩:=fr.bgA b l z;⟨.inl x,.inl y,w⟩,t2.fr.bag⟩
     rcases ha with ha|ha
     .exact t2.fr.occ a ha z
     .subst ha;rw[ao]at z;cases z
    have j:Tr F f ⟨λa=>F.A a\/a=D,F.bg⟩ (upd f D (.lst [])):=⟨λa ha hs z=>by
     rcases z with z|z
     .exact ha z
     .subst z;exact hs d,λa o ha z=>by rw[bb (aB z d)];exact z,rfl⟩
    have cv:∀c,H c≠OI->upd f D (.lst []) c≠OI:=λc Z z=>by
     by_cases w:c=D
     .subst w;rw[ao]at z;cases z
     .rw[bb w]at z;exact Z (t.none z)
    refine J3 (D:=D) (H0:=H) (as:=[]) (os:=os) P R (T D) m (.inr rfl) Y (λb l z=>⟨fr.occ _ (fr.bgA b l z).1,fr.occ _ (fr.bgA b l z).2.1⟩) (pA (L.tr ((t.tr fr).trans j))) ao ⟨cv,[],rfl,by simp,trivial⟩ (W.tr j) q2 (by simpa using U) λaa N O t3 ab u v=>?_;have tf:To F f N k:=by
     refine⟨λa o z n=>t3.kp a o (by rw[bb (aB z d)];exact z) (aB z d) n,λa ha z=>t3.fr.occ a (RM ha) z,fr.bgA,t3.fr.bag⟩
    obtain⟨_,rs,ea,nd,rl⟩:=v;subst ea;exact h _ N (t.trans tf) ⟨D,rs,rfl,t.none d,u,nd,bj.tr (F:=⟨λa=>F.A a\/a=D,F.bg⟩) ⟨λa ha _ z=>ha (RM z),λa o _ z=>z,rfl⟩ rl λr xs _ p q=>⟨p,q⟩⟩
   .cases e
  .cases e
section
variable{q r m:Expr}{o:List Expr}{n:a0P}{l:Scope}{p:Ub}{t v:a0i}{w:a0a}{g:TG}{u:a0Y}
theorem zw(c:X.calm=OL)(S:cy X l t v w)(d:PI X r m (iV X.K z E))
  (e:∀(G:a0n) (C:OM) (a:a0q) (s:OV) (H:Hp),PG (aE X t l G C a s H) r g/\dJ (aE X t l G C a s H) o (g8 X.K A E0)/\∀D,PB (aE X t l G C a s H) q (⟨r,m,o,0⟩::n) l p 0 D (u D))
  (f:cB X.K g y) (i:dH y) (j:∀D,jf X.K D (u D) b) (M:∀x,Qh m X.env x=Ry x:=by intro _;rfl):PE X (.ListComp q (⟨r,m,o,0⟩::n) l p) (C_ X.K (fj v.length w z y A b) E):=
 (lZ c S d e M).imp λk H Q h=>yy f i j h
theorem Md(c:X.calm=OL)(S:cy X l t v w)(d:PI X r m (iV X.K z E))
  (e:∀(G:a0n) (C:OM) (a:a0q) (s:OV) (H:Hp),PG (aE X t l G C a s H) r g/\dJ (aE X t l G C a s H) o (g8 X.K A E0)/\∀D,PB (aE X t l G C a s H) q (⟨r,m,o,0⟩::n) l p 0 D (u D))
  (f:cB X.K g y) (i:dH y) (j:∀D,pE X.K D (u D) b) (M:∀x,Qh m X.env x=Ry x:=by intro _;rfl):PE X (.ListComp q (⟨r,m,o,0⟩::n) l p) (ZH X.K (gL v.length w z y A b) E):=
 (lZ c S d e M).imp λk H Q h=>qv f i j h
end
mutual
noncomputable def noL:D->Bool
 | .int _=>OL
 | .bl _=>OL
 | .str _=>OL
 | .non=>OL
 | .tup ds=>noLs ds
 |_=>OQ
noncomputable def noLs:a0b->Bool
 |[]=>OL
 |d::ds=>noL d&&noLs ds
end
mutual
theorem vQ{F b:Fx}(hF:∀c,b.A c->F.A c\/uX H c):∀(d:D) (v:V),noL d=OL->bw K F H d v->bw K b H d v
 | .int i,v,_,h=>h
 | .bl i,v,_,h=>h
 | .str i,v,_,h=>h
 | .non,v,_,h=>h
 | .tup ds,v,n,h=>by
  obtain⟨a,E,e,h1,f⟩:=h;refine⟨a,E,e,?_,noLs_den hF ds E (by simpa[noL]using n) f⟩;rcases h1 with⟨h1,r⟩|h1
  .refine .inl ⟨λz=>?_,r⟩
   rcases hF a z with z|⟨G,z⟩|⟨G,z⟩
   .exact h1 z
   .rcases r with r|⟨o,r⟩<;>rw[z]at r<;>cases r
   .rcases r with r|⟨o,r⟩<;>rw[z]at r<;>cases r
  .exact .inr h1
 | .lst _,_,n,_=>by simp[noL]at n
 | .scr _,_,n,_=>by simp[noL]at n
 | .ty _,_,n,_=>by simp[noL]at n
 | .txt,_,n,_=>by simp[noL]at n
 | .obj _ _ _,_,n,_=>by simp[noL]at n
 | .bag,_,n,_=>by simp[noL]at n
 | .adr _,_,n,_=>by simp[noL]at n
 | .dct _ _ _,_,n,_=>by simp[noL]at n
theorem noLs_den{F a:Fx}(hF:∀c,a.A c->F.A c\/uX H c):∀(D:a0b) (E:a0k),noLs D=OL->ba K F H D E->ba K a H D E
 |[],E,_,h=>h
 |d::D,E,n,h=>by
  have b:noL d=OL/\noLs D=OL:=by simpa[noLs]using n
  obtain⟨x,f,e,g,i⟩:=h;exact⟨x,f,e,vQ hF d x b.1 g,noLs_den hF D f b.2 i⟩
end
theorem bj.noL{F a:Fx}(hF:∀c,a.A c->F.A c\/uX H c):∀{D:a0t} {E:a0q},(∀ds∈D,noLs ds=OL)->bj K F H P D E->(∀r∈E,P2 r)->bj K a H P2 D E
 |[],[],_,_,_=>trivial
 |ds::D,r::E,n,h,p=>by
  obtain⟨f,⟨M,b,d⟩,e⟩:=h;exact⟨p r OU,⟨M,b,noLs_den hF _ _ (n ds OU) d⟩,bj.noL hF (λx G=>n x (OO _ G)) e λx G=>p x (OO _ G)⟩
 |[],_::_,_,h,_=>h.elim
 |_::_,[],_,h,_=>h.elim
theorem ej.newGrd{E:Ds}{d:St}(G:ej K H₀ B n H E q d)(t:To (d4 B n) H H' o)(M:∀S∈p,noLs S=OL)(j:gO K (d4 B n) H H' p v):
  ∃e,ej K H₀ e n H' (E.set i (My (.grd p))) o (d.set i (My v))/\f_ B H e H':=by
 obtain⟨a,D,rfl,k,f,V,b⟩:=j;have g:∀c,c=a\/c∈D->H c=OI/\uX H' c:=λc hc=>by
  rcases hc with rfl|hc
  .exact⟨k,.inl ⟨_,f⟩⟩
  .exact⟨(b.all c hc).1,.inl (b.all c hc).2⟩
 exact G.claim (λc=>c=a\/c∈D) t g λh l _=>⟨a,D,rfl,h a (.inl rfl),f,V,bj.noL (F:=d4 B n) (λc hc=>(l c hc).imp id λw=>(g c w).2) M b λr m=>h r (.inr m)⟩
end
section
variable{X:Cx}{E:a0s}{K:Pl}{st:QH}{J:Hp}{B:Ow}{I:a0m}{H H':Hp}{δ:Ds}{β aa:Bg}{Y:St}
theorem ej.newOwnE(E:ej K J B I H δ β Y)(t:To (d4 B I) H H' aa)(e:ck K (d4 B I) H H' m v):
  ∃b,ej K J b I H' (δ.set i (My (.own m))) aa (Y.set i (My v))/\f_ B H b H':=by
 obtain⟨a,D,rfl,f,d,g⟩:=e;exact E.claim (·=a) t (λc z=>by cases z;exact⟨f,.inl ⟨D,d⟩⟩) λ{j} k l _=>⟨a,D,rfl,k a rfl,d,ba.tr (show Tr ((d4 B I).but a) H' (d4 j I) H' from⟨λc h _ z=>h (l c z),λ_ _ _ h=>h,rfl⟩) _ _ g⟩
def rT(i:Nat)(f:FL):G:=λδ β=>match f (vw δ) β with
 |some (.ok ds,β1)=>My (.nx (δ.set i (My (.own ds))),β1)
 |some (.error C,β1)=>My (.ex C δ,β1)
 |none=>OI
theorem K1(h:PS X st (fR (C_ X.K f E) (dm i))):PS X st (tG X.K X.H₀ (rT i f) E):=h.imp λD Y H d=>by
 obtain⟨B,I,δ,β,o,aa,ok,e,q⟩:=d;refine⟨d4 B I,vw δ,β,ok.fr,ok.view,?_⟩;unfold rT at e;split at e
 .rename_i ds β1 b
  cases e;refine⟨.ok ds,_,b,λv H' t G=>?_⟩;obtain⟨g,a,c⟩:=ok.newOwnE (i:=i) t G;exact q _ _ _ c a
 .rename_i C β1 b
  cases e;refine⟨.error C,_,b,λH' t=>?_⟩;obtain⟨a,c⟩:=ok.to rfl t;exact q _ B H' c a
 .cases e
def qa(i:Nat)(f:Dn->M a0t):G:=λδ β=>match f (vw δ) β with
 |some (.ok ac,β1)=>if(ac.all noLs)=OL then My (.nx (δ.set i (My (.grd ac))),β1)else OI
 |some (.error C,β1)=>My (.ex C δ,β1)
 |none=>OI
theorem HX(h:PS X st (fR (ZH X.K f E) (dm i))):PS X st (tG X.K X.H₀ (qa i f) E):=h.imp λD Y H g=>by
 obtain⟨B,I,δ,β,o,aa,ok,e,q⟩:=g;refine⟨d4 B I,vw δ,β,ok.fr,ok.view,?_⟩;unfold qa at e;split at e
 .rename_i ac β1 b
  split at e
  .rename_i hn
   cases e;refine⟨.ok ac,_,b,λv H' t G=>?_⟩;obtain⟨j,a,c⟩:=ok.newGrd (i:=i) t (λJ d=>S9.mp hn J d) G;exact q _ _ _ c a
  .cases e
 .rename_i C β1 b
  cases e;refine⟨.error C,_,b,λH' t=>?_⟩;obtain⟨a,c⟩:=ok.to rfl t;exact q _ B H' c a
 .cases e
theorem bj.put{H:Hp}(t:Tr F H F (upd H r (.lst k)))(E:ba K F (upd H r (.lst k)) ds k):∀{ac:a0t} {B:a0q} (j:Nat),bj K F H P ac B->B.Nodup->B[j]?=My r->bj K F (upd H r (.lst k)) P (ac.set j ds) B
 |d0::ac,r0::B,0,h,nd,e=>by
  obtain rfl:r0=r:=by simpa using e
  have D:∀a∈B,a≠r0:=λa b z=>(Qn.mp nd).1 (z▸b);exact⟨h.1,⟨k,ao,E⟩,bj.tr t h.2.2 λa G b p q=>⟨p,by rw[bb (D a b)];exact q⟩⟩
 |d0::ac,r0::B,j+1,h,nd,e=>by
  have c:B[j]?=My r:=by simpa using e
  obtain⟨d,⟨G,f,g⟩,i⟩:=h;have D:r0≠r:=λz=>(Qn.mp nd).1 (z▸Pd c);exact⟨d,⟨G,by rw[bb D];exact f,ba.tr t _ _ g⟩,bj.put t E j i (Qn.mp nd).2 c⟩
 |[],[],_,_,_,e=>by simp at e
 |[],_::_,_,h,_,_=>h.elim
 |_::_,[],_,h,_,_=>h.elim
theorem bj.at{H:Hp}:∀{ac:a0t} {rs:a0q} {j:Nat} {ds:a0b},bj K F H P ac rs->ac[j]?=My ds->∃r xs,rs[j]?=My r/\P r/\H r=My (.lst xs)/\ba K F H ds xs
 |d0::ac,r0::rs,0,ds,h,e=>by
  obtain rfl:d0=ds:=by simpa using e
  obtain⟨a,⟨B,b,c⟩,g⟩:=h;exact⟨r0,B,rfl,a,b,c⟩
 |d0::ac,r0::rs,j+1,ds,h,e=>by
  obtain⟨r,xs,d,f⟩:=bj.at h.2.2 (j:=j) (ds:=ds) (by simpa using e);exact⟨r,xs,by simpa using d,f⟩
 |[],[],_,_,_,e=>by simp at e
 |[],_::_,_,_,h,_=>h.elim
 |_::_,[],_,_,h,_=>h.elim
theorem ej.writeRow{E:a0q}{X:a0t}(D:ej K J B I H δ β Y)(x:Y[i]?=My (My (.ref a)))(hB:B a=My (i+2))(G:H a=My (.lst (E.map V.ref)))(M:(a::E).Nodup)(u:bj K (d4 B I) H (λr=>B r=My (i+2)) X E)(w:E[j]?=My r)(F:H r=My (.lst N))(L:ba K (d4 B I) H ds xs):
  ej K J B I (upd H r (.lst xs)) (δ.set i (My (.grd (X.set j ds)))) β Y/\f_ B H B (upd H r (.lst xs)):=by
 have m:r∈E:=Pd w;have f:B r=My (i+2):=(u.all r m).1;have g:f_ B H B (upd H r (.lst xs)):=by
  refine⟨λc o h n=>?_,λ_ _=>rfl,λ_ _ _ n=>n,λc p=>?_⟩
  .rw[bb]
   .exact h
   .intro z;subst z;rw[f]at n;rcases n with n|n<;>cases n
  .by_cases z:c=r
   .subst z;rw[ao];simp
   .rw[bb z];exact p
 have S:Tr (d4 B I) H (d4 B I) (upd H r (.lst xs)):=g.tr;refine⟨⟨⟨λc p z=>?_,D.fr.bgA,λb l e=>?_⟩,D.bgt,by rw[QC,D.len],λa G=>g.al a (D.cov a G),D.new,λc k p=>(by
  by_cases z:c=r
  .subst z;exact .inl ⟨xs,ao⟩
  .exact(D.lst c k p).imp λo y=>by rw[bb z];exact y),λk s e=>?_⟩,g⟩
 .by_cases q:c=r
  .subst q;rw[ao]at z;cases z
  .rw[bb q]at z;exact D.fr.occ c p z
 .obtain⟨b1,b2⟩:=D.bgt b l e
  rw[bb (λz=>by subst z;rw[f]at b1;cases b1),bb (λz=>by subst z;rw[f]at b2;cases b2)];exact D.fr.bag b l e
 .rw[QX]at e
  by_cases q:i=k
  .subst q
   rw[OZ rfl]at e;split at e
   .cases e
    have t:a≠r:=λz=>(Qn.mp M).1 (z▸m);exact⟨_,x,a,E,rfl,hB,by rw[bb t];exact G,M,bj.put S (ba.tr S _ _ L) j u (Qn.mp M).2 w⟩
   .cases e
  .rw[OY q]at e
   obtain⟨v,A,C⟩:=D.tell k s e;exact⟨v,A,C.tr S λc d=>⟨d,λo z=>(bb λy=>by subst y;rw[f]at d;cases d;exact q rfl).trans z⟩⟩
def lj(f:Dn->M a0t):G:=λδ β=>match f (vw δ) β with
 |some (.ok ac,β1)=>My (.rg ac,β1)
 |some (.error C,β1)=>My (.ex C δ,β1)
 |none=>OI
theorem JD(h:PS X (.Return (My e) s) (wL (ZH X.K f E))):PS X (.Return (My e) s) (tG X.K X.H₀ (lj f) E):=h.imp λD Y H j=>by
 obtain⟨B,I,δ,β,o,aa,ok,e,q⟩:=j;refine⟨d4 B I,vw δ,β,ok.fr,ok.view,?_⟩;unfold lj at e;split at e
 .rename_i ac β1 d
  cases e;refine⟨.ok ac,_,d,λv H' t G=>?_⟩;obtain⟨b,g⟩:=ok.to rfl t;have i:∀c,H c=OI->X.H₀ c=OI:=λc k=>by
   cases w:X.H₀ c with
   |none=>rfl
   |some o=>exact Pp k (ok.cov c (by rw[w];simp))
  obtain⟨a,J,rfl,l,m,M,n⟩:=G;exact q _ B H' g b.fr ⟨a,J,rfl,i a l,m,M,bj.tr (Tr.refl _ _) n λr S _ p y=>⟨i r p,y⟩⟩
 .rename_i C β1 d
  cases e;refine⟨.error C,_,d,λH' t=>?_⟩;obtain⟨b,g⟩:=ok.to rfl t;exact q _ B H' g b
 .cases e
def spG(K:Pl)(n:Nat)(m:a0b->M a0t):Sp:=λB H Q E=>B.length=n/\∃F D β,Fr F H β/\ba K F H D B/\run (gO K F H) F (λ_=>E) [] (m D) H Q β
def mz(n:Nat)(g:G):a0b->M a0t:=λB β=>match g (lr n B) β with
 |some (.rg ac,aa)=>My (.ok ac,aa)
 |some (.ex C _,aa)=>My (.error C,aa)
 |_=>OI
variable{P:PM}{w:P0}{mg:a0j}{ab:Qt}
theorem Ki{st:QH}{N V:a0i}(n m:Nat)(g:G)(F:c_ K x qual st f fd)(S:br N V (ah st))(L:V.length=n)(O:N.length=m)
  (j:∀(c:OP) (A:P7) (D:a0B) (s:OV) (H:Hp) (E:XK),dt k (A.deeper (T8 qual (ah st) s.heap.objs.size f c))->
   PSs (eW (fx P w) P w K mg ab N qual (ah st) f c A D s H E) (cf st) (tG K H g (λ_=>E))):ee P w K mg ab (fx P w) (k+1) f fd V (spG K n (mz m g)):=by
 subst L O;refine F.okE S (λvs H Q E h=>h.1) λc A D s H vs Q E Z h=>?_;obtain⟨hl,u,X,β,fr,hd,r,aa,e,h⟩:=h;refine⟨_,j c A D s H E Z,?_⟩;obtain⟨B,ok,R,h1,hn⟩:=oh (N:=N) fr hd;have J:∀{I:Ow} {H':Hp},f_ B H I H'->Fr (d4 I u.bg) H' aa->To u H H' aa/\Tr (d4 I u.bg) H' u H':=λ{I H'} s i=>by
  have hs:∀a,u.A a->I a≠OI:=λa M=>by
   rw[s.tg a (R a M)];rcases R a M with z|z<;>rw[z]<;>simp
  refine⟨⟨λa o M n=>s.kp a o M ?_,λa M=>i.occ a (hs a M),λb l e=>fr.bgA b l e,i.bag⟩,λa M _ z=>M (hs a z),λ_ _ _ h=>h,rfl⟩;cases q:B a with
  |none=>exact .inl rfl
  |some t=>
   have:=R a (hn a (by rw[q];simp));rcases this with z|z
   .rw[q]at z;exact .inr z
   .obtain⟨b,l,e,w⟩:=h1 a z
    obtain⟨T,n2⟩:=n b l e;rcases w with w|w
    .exact Pp w T
    .exact Pp w n2
 unfold mz at e;split at e
 .rename_i d β1 U
  cases e;refine⟨B,u.bg,lr N.length X,β,.rg d,aa,ok,U,λv I H' s i hv=>?_⟩;obtain⟨t1,t2⟩:=J s i;obtain⟨a,rs,ev,n0,T,nd,rl⟩:=hv;exact h v H' t1 ⟨a,rs,ev,n0,T,nd,bj.tr t2 rl λr xs _ p y=>⟨p,y⟩⟩
 .rename_i C W β1 U
  cases e;refine⟨B,u.bg,lr N.length X,β,.ex C W,aa,ok,U,λac I H' s Y=>?_⟩;obtain⟨t1,t2⟩:=J s Y.fr;exact h H' t1
 .cases e
variable{e:Expr}{z:List Expr}{s p:Ub}{x:PZ}{k n:Nat}{f:OM}{P:Py}{B:a0i}
def uG(m:a0b->M a0t)(g:FL):Dn->M a0t:=λδ=>M.bind (g δ) λe=>m e
theorem gO.pre{K:Pl}{H b H':Hp}(t:To F H b j)(h:gO K F b H' l v):gO K F H H' l v:=by
 obtain⟨a,e,c,d,g,f,i⟩:=h;exact⟨a,e,c,t.none d,g,f,bj.tr (Tr.refl _ _) i λr k _ p y=>⟨t.none p,y⟩⟩
theorem Me(G:ee X.prog X.w X.K X.mg X.base (fx X.prog X.w) k f P B (spG X.K n m))(o:dt k X.A)(q:Gl X x)(W:X.mg x=My (.ref f))(u:U8 X.K (.ref f)=OL)(y:aC X.K P B [])(Z:cM (fx X.prog X.w) X E)
  (ha:PA X (e::z) (hU X.K g E)) (hn:∀δ β r aa,g δ β=My (.ok r,aa)->r.length=n) (a:(x==("__debug__":PZ))=OQ:=by decide) (I:Pe (e::z) X.env=(OQ,Qu e X.env)::Pe z X.env:=by rfl) (b:(SL s (Pe z X.env)).any (·.1)=OQ:=by rfl):
  PE X (.Call (.Name x p) (e::z) [] s) (ZH X.K (uG m g) E):=
 (jB G o q W u y .nil Z ha a I b).imp λY H Q J=>i_ J λF δ β fr L r=>⟨F,δ,β,fr,L,by
  obtain⟨S,c,h,i⟩:=run.bind (R:=ba X.K F) r;refine⟨S,c,h,?_⟩;cases S with
  |error C=>exact i
  |ok ds=>
   intro vs N t V;obtain⟨d',D,t1,d,r1⟩:=i vs N t V;have O:=hn _ _ _ _ h;refine⟨by rw[PN,<-V.length,O],F,d',D,t1.fr,by rw[PN];exact d,?_⟩;obtain⟨j,M,T,l⟩:=r1;refine⟨j,M,T,?_⟩;cases j with
   |ok ac=>exact λv H' t2 U=>l v H' t2 (gO.pre t1 U)
   |error C=>exact l⟩
end
end L2.Pu
namespace L2
end L2
namespace L2.Pu
section
variable{X:Cx}{E:a0s}{K:Pl}
def mD(K:Pl)(E:a0j)(x:PZ)(d:D):Prop:=∃u v,E x=My u/\aJ v u/\∀F H,bw K F H d v
theorem kB(c:mD X.K X.mg x d)(a:Gl X x:=by rfl)(D:(x==("__debug__":PZ))=OQ:=by decide):PE X (.Name x g) (tV X.K (fC d) E):=by
 obtain⟨u,v,b,e,f⟩:=c;exact p0 (JP a b e D) f
mutual
noncomputable def ni:D->Option XX
 | .non=>My .none
 | .bl b=>My (.bool b)
 | .int i=>My (.int i)
 | .str x=>My (.str x)
 | .lst xs=>(toPs xs).map PyData.list
 | .tup xs=>(toPs xs).map PyData.tuple
 |_=>OI
noncomputable def toPs:a0b->Option (List XX)
 |[]=>My []
 |x::xs=>match ni x,toPs xs with
  |some p,My ps=>My (p::ps)
  |_,_=>OI
end
mutual
theorem jz{s:OV}(I:b_ X y z H s):∀(d:D) (v:V) (u:OP) (p:XX),bw X.K F H d v->ni d=My p->aJ v u->∃G,Reads s.heap u p G
 | .non,v,u,p,h,e,r=>by cases e;cases h.non;cases r;exact⟨_,.none⟩
 | .bl b,v,u,p,h,e,r=>by cases e;cases h.bl;cases r;exact⟨_,.bool b⟩
 | .int i,v,u,p,h,e,r=>by cases e;cases h.int;obtain⟨t,rfl⟩:=r;exact⟨_,.int i t⟩
 | .str x,v,u,p,h,e,r=>by cases e;cases h.str;obtain⟨t,rfl⟩:=r;exact⟨_,.str x t⟩
 | .lst xs,v,u,p,h,e,r=>by
  unfold ni at e;cases q:toPs xs with
  |none=>rw[q]at e;cases e
  |some M=>
   rw[q]at e;cases e;obtain⟨a,S,rfl,l,c⟩:=bw.sqL h;cases r;obtain⟨E,f,m,_⟩:=I.list l;obtain⟨G,g⟩:=reads_L I xs S E M c q f;obtain⟨o,j,k,n,w⟩:=m.isList;exact⟨_,.list j k w (by simpa using g)⟩
 | .tup xs,v,u,p,h,e,r=>by
  unfold ni at e;cases q:toPs xs with
  |none=>rw[q]at e;cases e
  |some M=>
   rw[q]at e;cases e;obtain⟨a,S,rfl,l,c⟩:=bw.sqT h;cases r;obtain⟨E,f,m,_⟩:=I.tuple l;obtain⟨G,g⟩:=reads_L I xs S E M c q f;obtain⟨o,j,k,n,w⟩:=m;exact⟨_,.tuple j k w (by simpa using g)⟩
 | .ty _,_,_,_,_,e,_=>by cases e
 | .txt,_,_,_,_,e,_=>by cases e
 | .scr _,_,_,_,_,e,_=>by cases e
 | .obj _ _ _,_,_,_,_,e,_=>by cases e
 | .bag,_,_,_,_,e,_=>by cases e
 | .adr _,_,_,_,_,e,_=>by cases e
 | .dct _ _ _,_,_,_,_,e,_=>by cases e
theorem reads_L{s:OV}(I:b_ X m n H s):∀(E:a0b) (D:a0k) (G:a0g) (M:List XX),ba X.K F H E D->toPs E=My M->aw D G->∃S,ReadsAll s.heap G M S
 |[],D,G,M,h,e,r=>by
  have q:D=[]:=h;subst q;cases e;cases r;exact⟨_,.nil⟩
 |d::E,D,G,M,h,e,r=>by
  obtain⟨x,a,rfl,b,c⟩:=h;unfold toPs at e;split at e
  .rename_i p pr f g
   cases e;cases r with
   |cons V i=>
    obtain⟨S,j⟩:=jz I d x _ p b f V;obtain⟨l,k⟩:=reads_L I E a _ pr c g i;exact⟨_,.cons j k⟩
  .cases e
end
def kg(a b:D):a0C:=match ni a,ni b with
 |some p,My q=>if(UH p&&UH q)=OL then My (Tt p q)else OI
 |_,_=>OI
def fK(a b:D):a0l:=match Zx a b with
 |some c=>My (.bl c)
 |none=>(kg a b).map D.bl
def gX(a b:D):a0l:=match Zx a b with
 |some c=>My (.bl (!c))
 |none=>(kg a b).map λc=>D.bl (!c)
def pQ(X:Cx)(g:Bool->Bool):R2:=λx y H Q=>∃(F:Fx) (a b:D) (c:Bool),bw X.K F H a x/\bw X.K F H b y/\kg a b=My c/\Q (.bl (g c)) H
theorem qX{c:Bool}(h:kg a b=My c):∃p q,ni a=My p/\ni b=My q/\UH p=OL/\UH q=OL/\c=Tt p q:=by
 unfold kg at h;split at h
 .rename_i p q d e
  split at h
  .rename_i hs
   rw[PP]at hs;cases h;exact⟨p,q,d,e,hs.1,hs.2,rfl⟩
  .cases h
 .cases h
theorem LA(f:dt k X.A):fw X (Qy .Eq) (pQ X id):=by
 intro d s t H x y v u Q I g i h;obtain⟨F,a,b,c,D,E,e,q⟩:=h;obtain⟨p,j,l,m,n,o,rfl⟩:=qX e;obtain⟨K,G⟩:=jz I a x v p D l g;obtain⟨M,r⟩:=jz I b y u j E m i;exact eq_dataH G r n o f.units ⟨.bl _,H,I,rfl,q⟩
theorem Ly(f:dt k X.A):fw X (Qy .NotEq) (pQ X not):=by
 intro d s t H x y v u Q I g i h;obtain⟨F,a,b,c,D,E,e,q⟩:=h;obtain⟨p,j,l,m,n,o,rfl⟩:=qX e;obtain⟨K,G⟩:=jz I a x v p D l g;obtain⟨M,r⟩:=jz I b y u j E m i;exact ne_dataH G r n o f.units ⟨.bl _,H,I,rfl,q⟩
theorem dD(a:dt k X.A):fw X (Qy .Eq) (λx y H Q=>rEq x y H Q\/pQ X id x y H Q):=N2.or (LA a)
theorem fY(a:dt k X.A):fw X (Qy .NotEq) (λx y H Q=>rNe x y H Q\/pQ X not x y H Q):=N0.or (Ly a)
theorem eL:bi X.K (λx y H Q=>rEq x y H Q\/pQ X id x y H Q) fK:=λF H G Q D E d h i fr a b e k=>by
 unfold fK at e;split at e
 .rename_i c q
  cases e;obtain⟨f,g⟩:=AT q a b;exact .inl ⟨f,by rw[g];exact k _ H (To.refl fr) rfl⟩
 .cases q:kg D E with
  |none=>rw[q]at e;cases e
  |some c=>rw[q]at e;cases e;exact .inr ⟨F,D,E,c,a,b,q,k _ H (To.refl fr) rfl⟩
theorem h9:bi X.K (λx y H Q=>rNe x y H Q\/pQ X not x y H Q) gX:=λF H G Q D E d h i fr a b e k=>by
 unfold gX at e;split at e
 .rename_i c q
  cases e;obtain⟨f,g⟩:=AT q a b;exact .inl ⟨f,by rw[g];exact k _ H (To.refl fr) rfl⟩
 .cases q:kg D E with
  |none=>rw[q]at e;cases e
  |some c=>rw[q]at e;cases e;exact .inr ⟨F,D,E,c,a,b,q,k _ H (To.refl fr) rfl⟩
theorem OA(i j:Int):fK (.int i) (.int j)=My (.bl (decide (i=j))):=rfl
theorem Oz(i j:Int):gX (.int i) (.int j)=My (.bl (!decide (i=j))):=rfl
def mw(d:D):Bool:=match ni d with
 |some p=>UH p
 |none=>OQ
theorem IQ{C:a0W}{c:Int->Int->Bool}{g:a0L}(b:∀i j,c i j=OL->C i j):bi K (ZL C g) (nl λi j=>if c i j=OL then My (.int (g i j))else OI):=λF H D Q E G d l m fr f h e k=>by
 obtain⟨i,j,rfl,rfl,a⟩:=iF e;split at a
 .cases a
  exact⟨i,j,f,h,b _ _ (by assumption),k _ H (To.refl fr) rfl⟩
 .cases a
def addI:D->D->a0l:=nl λi j=>My (.int (i+j))
theorem vW:bi K (ipI λi j=>i+j) addI:=λF H D Q E G d f g fr a b e k=>by
 obtain⟨i,j,rfl,rfl,c⟩:=iF e;cases c;exact⟨i,j,a,b,k _ H (To.refl fr) rfl⟩
theorem vZ:PIp X .Mult (ZL sk λi j=>i*j):=by
 intro a s e H x y v u Q I b d h;obtain⟨i,j,rfl,rfl,c,q⟩:=h;obtain⟨t,rfl⟩:=b;obtain⟨D,rfl⟩:=d;exact imul_int ⟨.int _,H,I.tok _,⟨_,rfl⟩,q⟩ (Yn (jd c.1) (jd c.2))
theorem vV:bi K (ZL sk λi j=>i*j) DB:=IQ λi j h=>by
 simp only[PP,gB,PX]at h;exact h
theorem DS:bi K (ZL so λi j=>i/j) xQ:=IQ λi j h=>by
 simp only[PP,PX]at h;exact h
abbrev gy:=BZ
theorem AZ(b:X.calm=OL):cD X (.builtin "sum") (λE H Q=>∃(a:OM) (D:a0e),E=[.ref a]/\en X.K H a (D.map V.int)/\Q (.int D.sum) H):=qY b
theorem LU:db K (λE H Q=>∃(a:OM) (D:a0e),E=[.ref a]/\en K H a (D.map V.int)/\Q (.int D.sum) H) gy:=Of
def Jc(H:Hp)(b l:OM):Prop:=∃(D:a0e) (i j:Int),H b=My (.lst [.ref l,.int i,.int j])/\H l=My (.lst (D.map V.int))/\D≠[]/\D.length<=64/\(∀c∈D,0<=c)/\0<=j
theorem Ka(h:k<n):o0 n (k:Int)=My k:=by
 unfold o0;rw[OZ (by lia),OZ (by lia)];simp
theorem OC(D:a0e):∃a:a0e,lD (D.map V.int) OI (My 63)=a.map V.int/\a.length<=63:=by
 refine⟨(D.drop (HT.sIx D.length 0 OI)).take (HT.sIx D.length D.length (My 63)-HT.sIx D.length 0 OI),?_,?_⟩
 .unfold lD
  rw[OH,V5,Ul]
 .rw[PR]
  have:HT.sIx D.length D.length (My 63)<=63:=by
   unfold HT.sIx;simp;lia
  lia
def NR(K:Pl):Sp:=λD H Q _=>∃(a:OM) (E:a0e),D=[.ref a]/\en K H a (E.map V.int)/\∀(b l:OM) (c:Hp),H b=OI->H l=OI->Jc c b l->bM H c->Q (.ref b) c
def HV(K:Pl):Sp:=λE H Q _=>∃(a:OM) (D:a0e),E=[.ref a]/\en K H a (D.map V.int)/\D.length<=63/\∀b,Q (.bl OL) b
theorem Kr(sm:bM H₀ H)(A:H₀ b=OI)(C:H₀ l=OI)(B:Jc H b l):∃E,E.ok/\ej K H₀ (λc=>if c=b\/c=l then My 1 else OI) (My (b,l)) H (OI::My (.sh .bag)::Pr n OI) E (My (.ref a)::My (.ref b)::Pr n OI):=by
 obtain⟨D,i,j,g,h,p,v,w,y⟩:=B;have m:b≠l:=N7 g h (by
  intro z;cases D with
  |nil=>exact p rfl
  |cons c r=>simp at z)
 refine⟨⟨D,i,j⟩,⟨p,v,w,y⟩,⟨⟨λc f=>?_,λt u e=>?_,λt u e=>?_⟩,λt u e=>?_,by simp,λc f=>?_,λc k f=>(by
  have d:(if c=b\/c=l then My 1 else OI)=My (k+2):=f;split at d<;>cases d),λc k f=>(by
  have d:(if c=b\/c=l then My 1 else OI)=My (k+2):=f;split at d<;>cases d),λk s e=>?_⟩⟩
 .have d:(if c=b\/c=l then My 1 else OI)≠(OI:a0I):=f
  split at d
  .rename_i q
   rcases q with rfl|rfl
   .rw[g];simp
   .rw[h];simp
  .exact Pp rfl d
 .cases e
  refine⟨?_,?_,m⟩
  .show(if b=b\/b=l then My 1 else OI)≠(OI:a0I)
   rw[OZ (.inl rfl)];simp
  .show(if l=b\/l=l then My 1 else OI)≠(OI:a0I)
   rw[OZ (.inr rfl)];simp
 .cases e
  exact⟨g,h⟩
 .cases e
  exact⟨OZ (.inl rfl),OZ (.inr rfl)⟩
 .cases q:H₀ c with
  |none=>exact Pp q f
  |some o=>rw[sm c o q];simp
 .match k with
  |0=>simp at e
  |1=>
   simp at e;subst e;exact⟨.ref b,rfl,b,l,rfl,rfl⟩
  |k+2=>
   simp only[TH,Sx]at e;split at e<;>cases e
variable{P:PM}{w:P0}{mg:a0j}{base:Qt}
theorem bu{M:QH}{N V:a0i}(n m:Nat)(g:G)(F:c_ K x c M f h)(S:br N V (ah M))(d:V.length=n)(e:N.length=m)
  (a:∀(b:OP) (A:P7) (D:a0B) (s:OV) (H:Hp) (E:XK),dt k (A.deeper (T8 c (ah M) s.heap.objs.size f b))->
   PSs (eW (fx P w) P w K mg base N c (ah M) f b A D s H E) (cf M) (tG K H g (λ_=>E))):ee P w K mg base (fx P w) (k+1) f h V (y2 K n (d7 m g)):=by
 subst d e;exact Kg F S a
end
end L2.Pu
namespace L2
theorem cy.ofB{X:Cx}{w:Scope}{D:a0a}(k:w.kind= .function)(E:(w.names.map (·.1)).Nodup)
  (fr:(w.names.all λy=>y.2 != .free||(X.env.scope.names.lookup y.1==My .cell||X.env.scope.names.lookup y.1==My .free))=OL) (a:Nc=cx++D.map (λj=>X.N.getD j Tj))
  (b:(D.all λj=>decide (j<X.N.length)&&w.names.lookup (X.N.getD j Tj)==My .free)=OL):cy X w Nc cx D:=by
 refine⟨k,E,λy G e=>?_,a,λj c=>?_⟩
 .have:=S9.mp fr y G
  rw[e]at this;simp only[SS,Bool.false_or,WK,Tl]at this;exact this
 .have:=S9.mp b j c
  simp only[PP,PX,Tl]at this;exact this
end L2
namespace L2.Pu
end L2.Pu
namespace L2.Pu
section
variable{X:Cx}{E:a0s}{K:Pl}{z A u:Expr}{w:List Expr}{v:a0P}{t:Scope}{y:Ub}{B I:a0i}{J:a0a}{g:TG}{F:a0Y}
theorem K2{a c:Ub}(j:X.N.Nodup)(d:X.N[i]?=My x)(M:uY X.env.scope x)(k:X.calm=OL)(S:cy X t B I J)(l:PI X A u (iV X.K O E))
  (m:∀(G:a0n) (C:OM) (f:a0q) (s:OV) (H:Hp),PG (aE X B t G C f s H) A g/\dJ (aE X B t G C f s H) w (g8 X.K Q E0)/\∀D,PB (aE X B t G C f s H) z (⟨A,u,w,0⟩::v) t y 0 D (F D))
  (n:cB X.K g L) (o:dH L) (p:∀D,pE X.K D (F D) b)
  (e:UJ (.ListComp z (⟨A,u,w,0⟩::v) t y) (My (.Name x a)) c.line X.env=Ry OL:=by rfl)
  (P:∀x,Qh u X.env x=Ry x:=by intro _;rfl) (q:X.fn x=OL\/X.env.scope.names.lookup x=My .local:=by first|exact .inl rfl|exact .inr rfl|assumption):
  PS X (.Assign [.Name x a] (.ListComp z (⟨A,u,w,0⟩::v) t y) c) (tG X.K X.H₀ (qa i (gL I.length J O L Q b)) E):=
 HX ((vH j d M k S l m e P q).imp λD r H h=>qv n o p h)
end
end L2.Pu
namespace L2
section
variable{X:Cx}
theorem EW{D:a1b}{w:a0g}(r:aw (D.map V.bl) w){i:Nat}{v:OP}(h:w.toArray[i]?=My v):v= .bool (D.getD i OQ):=by
 have E:w[i]?=My v:=by simpa using h
 have a:=r.length;rw[OH]at a;have b:i<D.length:=by rw[a];exact(OT.mp E).1
 obtain⟨u,c,d⟩:=r.get (i:=i) (x:=V.bl D[i]) (by rw[OS,ON b];rfl);rw[E]at c;cases c;rw[O5,ON b];exact d
theorem y6{α:Type}(f:Bool->Bool)(w:a1b):(OX w.length).map (λi=>w.getD i OQ)=w:=by
 apply TX;intro i;rw[OS];by_cases h:i<w.length
 .rw[P9 h,ON h]
  simp[O5,ON h]
 .rw[Ud (by simpa using h),Ud (Nat.not_lt.mp ‹_›)];rfl
theorem y7(w:a1b):((OX w.length).any λi=>w.getD i OQ)=w.any id:=by
 conv=>rhs;rw[<-y6 (α:=Bool) id w]
 rw[List.any_map];rfl
theorem lH(l:X.calm=OL):cD X (.builtin "any") (λG H Q=>∃(a:OM) (E:a1b),G=[.ref a]/\en X.K H a (E.map V.bl)/\Q (.bl (E.any id)) H):=by
 intro j s B H G P Q I r h;obtain⟨a,E,rfl,m,q⟩:=h;cases r with
 |cons M n=>
  cases M;cases n;obtain⟨D,k,p,C⟩:=I.list m;have f:=p.isList;have c:D.toArray.size=E.length:=by rw[Pg,<-k.length,OH]
  have d:∀b o,s.heap.get? b=My o->b≠s.heap.objs.size:=λb o e z=>by
   rw[z,Ym (OW _)]at e;cases e
  have g:a≠s.heap.objs.size:=by
   obtain⟨o,e,_⟩:=f;exact d a o e
  have W:=Walks.list (prog:=X.prog) (w:=X.w) (A:=X.A.in1) (show X.A.in1.handled=OI from I.ok.hd l) s.heap.objs.size a g D.toArray;refine call_any_walk (VF f ⟨s.heap.objs.size,[s.heap.objs.size,a],[s.heap.objs.size],D.toArray.size,_,_,λi=>E.getD i OQ,rfl,W,⟨⟨_,O7 s.heap rfl,rfl,rfl⟩,f.push _⟩,λi v S F J t u=>?_,λx L y=>?_⟩)
  .rw[EW k t]
   exact QS u
  .rw[c,y7]
   exact⟨.bl (E.any id),H,I.kept λb o e=>y b o (λz=>d b o e (by simpa using z)) (OK _ e),rfl,q⟩
end
end L2
namespace L2.Pu
noncomputable def dZ:a0b->Option a1b
 |[]=>My []
 | .bl b::r=>(dZ r).map (b::·)
 |_=>OI
theorem mR{K:Pl}:∀{w:a0b} {D:a0k} {E:a1b},dZ w=My E->ba K F H w D->D=E.map V.bl
 |[],D,E,e,h=>by
  cases e;cases h;rfl
 |d::w,D,E,e,h=>by
  obtain⟨x,f,rfl,a,c⟩:=h;cases d<;>first
   |(rename_i b
     cases q:dZ w with
     |none=>simp[dZ,q]at e
     |some r=>
     simp[dZ,q]at e;subst e;cases a.bl;rw[mR q c];rfl)
   |simp[dZ]at e
def x6:a0b->a0l
 |[.lst ds]=>(dZ ds).map λw=> .bl (w.any id)
 |_=>OI
variable{K:Pl}
theorem xA:db K (λD H Q=>∃(a:OM) (w:a1b),D=[.ref a]/\en K H a (w.map V.bl)/\Q (.bl (w.any id)) H) x6:=λF H E Q G d M fr h e k=>by
 unfold x6 at e;split at e
 .obtain⟨v,rfl,g⟩:=ba.one h
  obtain⟨a,D,rfl,r,b⟩:=bw.sqL g;obtain⟨w,q,e⟩:=SF.mp e;subst e;rw[mR q b]at r;exact⟨a,w,rfl,r,k _ H (To.refl fr) rfl⟩
 .cases e
end L2.Pu
namespace L2
section
variable{X:Cx}{a b c d:Expr}{ta w tc P:TE}{aa:Ub}
def NL(i e:R2)(tc P:TE)(y:V):TE:=λf H Q=>tc f H λw j=>i y w j λk g=>∃h,k= .bl h/\(if h=OL then P f g λl m=>e w l m Q else Q (.bl OQ) g)
def vj(r h e:R2)(ta w tc P:TE):TE:=λf H Q=>ta f H λx i=>w f i λy j=>r x y j λz g=>∃k,z= .bl k/\(if k=OL then NL h e tc P y f g Q else Q (.bl OQ) g)
theorem za(J:fw X (Qy op) r)(l:fw X (Qy op') r')(i:fw X (Qy op'') r'')(G:PE X a ta)(L:PE X b w)(N:PE X c tc)(K:PE X d P)
  (M:Zb [op,op',op''] [b,c,d]=OQ:=by with_unfolding_all rfl):PT X (.Compare a [op,op',op''] [b,c,d] aa) (wK (vj r r' r'' ta w tc P)):=by
 intro f s g H Q I h;refine isTrue_chain (d5 (G f s g H _ I h) λv O ⟨x,R,T,S,V⟩=>test_link (d5 (L f O g R _ T V) λu U ⟨y,W,Y,o,q2⟩=>
  d5 (J f U g W x y v u _ Y S o q2) λZ s3 ⟨z,p,q,r3,k,e,D⟩=>?_)) M
 subst e;cases r3;refine QS ?_;cases k with
 |false=>
  obtain⟨m,j,n⟩:=D;cases j;exact ite_ff ⟨p,q,n⟩
 |true=>
  refine ite_tt (test_link (d5 (N f s3 g p _ q D) λt s4 ⟨A,H4,I4,B,q4⟩=>d5 (l f s4 g H4 y A u t _ I4 o B q4) λZ s5 ⟨z',C,F,r5,m,j,E⟩=>?_));subst j;cases r5;refine QS ?_;cases m with
  |false=>
   obtain⟨m,j,n⟩:=E;cases j;exact ite_ff ⟨C,F,n⟩
  |true=>
   refine ite_tt (test_last (d5 (K f s5 g C _ F E) λw' s6 ⟨z2,H6,I6,r6,q6⟩=>d5 (i f s6 g H6 A z2 t w' _ I6 B r6 q6) λd' s7 ⟨z3,H7,I7,r7,k3,e3,q7⟩=>?_));subst e3;cases r7;exact QS ⟨H7,I7,q7⟩
end
end L2
namespace L2.Pu
section
variable{X:Cx}{E:a0s}{a b c d:Expr}{pos:Ub}{K:Pl}
def IZ(f e:a0Z)(h i:FD)(y:D):FD:=λa=>M.bind (h a) λw=>M.bind (M.ofO (f y w)) λz=>M.bind (M.ofO (asB z)) λc=>if c=OL then M.bind (i a) (λg=>M.ofO (e w g))else M.ret (.bl OQ)
def mv(o j e:a0Z)(f g h i:FD):FD:=λd=>M.bind (f d) λa=>M.bind (g d) λb=>M.bind (M.ofO (o a b)) λz=>M.bind (M.ofO (asB z)) λc=>if c=OL then IZ j e h i b d else M.ret (.bl OQ)
theorem run.later{c i:Type}{R:Hp->c->i->Prop}{F:Fx}{j:St}{m:M c}{H k:Hp}{Q:i->Hp->Prop}{a:Bg}(t:To F H k a)(h:run R F E j m H Q a):run R F E j m k Q a:=by
 obtain⟨l,f,e,q⟩:=h;refine⟨l,f,e,?_⟩;cases l with
 |ok d=>exact λv g b=>q v g (t.trans b)
 |error C=>exact λg b=>q g (t.trans b)
theorem wN(l:bi K r o)(X:bi K r' o')(I:bi K s x)(J:tV K (mv o o' x f g h i) E σ H Q):vj r r' s (tV K f E) (tV K g E) (tV K h E) (tV K i E) σ H Q:=by
 obtain⟨F,b,β,fr,L,J⟩:=J;refine⟨F,b,β,fr,L,(run.bind (R:=bw K F) J).mono λv H1 j=>lv j λd D t hd r1=>⟨F,b,D,t.fr,L.tr (t.tr fr),(run.bind (R:=bw K F) r1).mono λG H2 j=>lv j λM a t2 m r2=>?_⟩⟩;obtain⟨z,P,r3⟩:=run.ofO_bind r2;obtain⟨c,ec,B⟩:=run.ofO_bind r3;rw[iO ec]at P;have N:=L.tr ((t.tr fr).trans (t2.tr t.fr));refine l F H2 a _ d M _ v G t2.fr (bw.tr (t2.tr t.fr) _ _ hd) m P λvz H3 t3 hz=>⟨c,hz,?_⟩;cases c with
 |true=>
  rw[OZ rfl]at B;have O:=bw.tr (t3.tr t2.fr) _ _ m;have n:=N.tr (t3.tr t2.fr);have r5:=run.later t3 B;refine⟨F,b,a,t3.fr,n,(run.bind (R:=bw K F) r5).mono λw H4 j=>lv j λS p t4 u r6=>?_⟩;obtain⟨z',y,r7⟩:=run.ofO_bind r6;obtain⟨V,T,C⟩:=run.ofO_bind r7;rw[iO T]at y;refine X F H4 p _ M S _ G w t4.fr (bw.tr (t4.tr t3.fr) _ _ O) u y λaa H5 t5 U=>⟨V,U,?_⟩;cases V with
  |true=>
   rw[OZ rfl]at C;refine⟨F,b,p,t5.fr,n.tr ((t4.tr t3.fr).trans (t5.tr t4.fr)),(run.bind (R:=bw K F) (run.later t5 C)).mono λw' H6 ⟨W,Y,t6,A,r9⟩=>?_⟩;obtain⟨d3,e3,k⟩:=run.ofO r9;exact I F H6 Y Q S W d3 w w' t6.fr (bw.tr ((t5.tr t4.fr).trans (t6.tr t5.fr)) _ _ u) A e3 k
  |false=>
   rw[OY O4]at C;obtain⟨rr,Z,e,q⟩:=C;cases e;exact q _ H5 t5 rfl
 |false=>
  rw[OY O4]at B;obtain⟨rr,Z,e,q⟩:=B;cases e;exact q _ H3 t3 rfl
theorem BW(m:fw X (Qy op) r)(j:fw X (Qy v) z)(e:fw X (Qy s) x)(l:bi X.K r o)(n:bi X.K z A)(k:bi X.K x y)(w:PE X a (tV X.K f E))(p:PE X b (tV X.K g E))(t:PE X c (tV X.K h E))(D:PE X d (tV X.K i E))(G:Zb [op,v,s] [b,c,d]=OQ:=by with_unfolding_all rfl):
  PT X (.Compare a [op,v,s] [b,c,d] pos) (g8 X.K (fB (mv o A y f g h i)) E):=(za m j e w p t D G).imp λu H Q q=>wN l n k (mU q)
variable{st:QH}{o:Hp}{B:Ow}{bg:a0m}{H u:Hp}{δ:Ds}{β P:Bg}{σ:St}
theorem ej.AtoB(a:ej K o B bg H δ β σ):∀c,(d4 B bg).A c->(ot B bg).A c\/uX H c:=λc f=>by
 have e:B c≠OI:=f;cases q:B c with
 |none=>exact Pp q e
 |some k=>
  match k,q with
  |0,q=>exact .inl (.inl q)
  |1,q=>exact .inl (.inr q)
  |k+2,q=>exact .inr (a.lst c k q)
theorem ej.noB{d:D}(a:ej K o B bg H δ β σ)(b:noL d=OL)(h:bw K (ot B bg) H d v):bw K (d4 B bg) H d v:=vQ a.AtoB d v b h
def rR(i:Nat)(f:FD):G:=λδ β=>match f (hE δ) β with
 |some (.ok d,β1)=>if noL d=OL then My (.nx (δ.set i (My (.sh d))),β1)else OI
 |some (.error C,β1)=>My (.ex C δ,β1)
 |none=>OI
theorem KZ(h:PS X st (fR (tV X.K f E) (dm i))):PS X st (tG X.K X.H₀ (rR i f) E):=h.imp λD σ H l=>by
 obtain⟨B,bg,δ,β,o,P,ok,e,q⟩:=l;refine⟨ot B bg,hE δ,β,ok.frA,ok.viewA,?_⟩;unfold rR at e;split at e
 .rename_i d β1 j
  split at e
  .rename_i hn
   cases e;refine⟨.ok d,_,j,λv u t a=>?_⟩;obtain⟨g,k⟩:=ok.to rfl t;exact q _ B u k (g.set (g.noB hn a))
  .cases e
 .rename_i C β1 j
  cases e;refine⟨.error C,_,j,λu t=>?_⟩;obtain⟨g,k⟩:=ok.to rfl t;exact q _ B u k g
 .cases e
def mn(i:Nat)(e f g:FD):G:=λδ β=>match g (hE δ) β with
 |some (.ok d,β1)=>match e (hE δ) β1 with
  |some (.ok (.int ka),β2)=>match f (hE δ) β2 with
   |some (.ok (.int kb),β3)=>match δ.getD i OI with
    |some (.grd ac)=>match o0 ac.length ka with
     |some a=>match ac[a]? with
      |some b=>match o0 b.length kb with
       |some c=>if noL d=OL then My (.nx (δ.set i (My (.grd (ac.set a (b.set c d))))),β3)else OI
       |none=>OI
      |none=>OI
     |none=>OI
    |_=>OI
   |_=>OI
  |_=>OI
 |_=>OI
theorem tq(h:PS X st (fR (tV X.K fv E) (EJ (N_ (tE X.K) (jh i) (tV X.K fa E)) (tV X.K fb E) ID))):PS X st (tG X.K X.H₀ (mn i fa fb fv) E):=h.imp λD σ H h_=>by
 obtain⟨B,bg,δ,β,o,P,ok,e,q⟩:=h_;refine⟨ot B bg,hE δ,β,ok.frA,ok.viewA,?_⟩;unfold mn at e;split at e
 .rename_i d β1 e1
  refine⟨.ok d,_,e1,λv H1 t1 c=>?_⟩;obtain⟨f,s1⟩:=ok.to rfl t1;split at e
  .rename_i ka β2 e2
   split at e
   .rename_i kb β3 e3
    split at e
    .rename_i ac Q
     split at e
     .rename_i ja ea
      split at e
      .rename_i ds er
       split at e
       .rename_i jb eb
        split at e
        .rename_i R
         cases e;have c:=f.noB R c;obtain⟨w,N,a,rs,rfl,hB,ha,nd,rl⟩:=f.tell i _ (getD_some Q);refine⟨_,N,ot B bg,hE δ,β1,f.frA,f.viewA,.ok (.int ka),β2,e2,λy H2 t2 hy=>?_⟩;cases hy;obtain⟨j,S⟩:=f.to (F:=ot B bg) rfl t2;obtain⟨w2,s,a2,g,ew,k,m,aa,n⟩:=j.tell i _ (getD_some Q);rw[N]at s;cases s;cases ew;obtain⟨r,xs,T,hp,hx,dl⟩:=n.at er;refine⟨a,g.map V.ref,ka,.ref r,rfl,rfl,en.of m,?_,?_⟩
         .unfold nj
          rw[OH,<-n.len,ea];show(g.map V.ref)[ja]?=_;rw[OS,T];rfl
         .refine⟨ot B bg,hE δ,β2,j.frA,j.viewA,.ok (.int kb),_,e3,λz x t3 hz=>?_⟩
          cases hz;obtain⟨p,s3⟩:=j.to (F:=ot B bg) rfl t3;obtain⟨w3,h3,a3,t,U,W,u,Y,A⟩:=p.tell i _ (getD_some Q);rw[N]at h3;cases h3;cases U;have Z:g=t:=by
           have O:x a=My (.lst (g.map V.ref)):=t3.kp a _ m (λb l y=>⟨λw=>(by subst w;rw[(ok.bgt _ _ y).1]at k;cases k),λw=>(by subst w;rw[(ok.bgt _ _ y).2]at k;cases k)⟩);rw[u]at O;have k2:t.map V.ref=g.map V.ref:=by injection O with O;injection O
           exact(Wa (λa b q=>by cases q;rfl)|>.mp k2).symm
          subst Z;obtain⟨r',C,I,ab,J,L⟩:=A.at er;rw[T]at I;cases I;have G:bw X.K (d4 B bg) x d v:=bw.tr (s3.tr) _ _ (bw.tr (S.tr) _ _ c);refine⟨r,C,kb,jb,rfl,rfl,J,by rw[<-L.length];exact eb,?_⟩;obtain⟨M,s4⟩:=p.writeRow (ds:=ds.set jb d) (xs:=C.set jb v) N W u Y A T J (ba.set jb L G);exact q _ _ _ (s1.trans (S.trans (s3.trans s4))) M
        .cases e
       .cases e
      .cases e
     .cases e
    .cases e
   .cases e
  .cases e
 .cases e
variable{e:Expr}{z:List Expr}
def o2(c:D->D->a0D)(f g:FD):FL:=λδ=>M.bind (f δ) λa=>M.bind (g δ) λb=>M.ofO (c a b)
noncomputable def Ite(K:Pl)(l:OM):It:=
 ⟨λi H=>∃a x,en K H l a/\a[i]?=My x,
  λi H v u=>∃p x,H p=OI/\v= .ref p/\u=upd H p (.tup [.int (i:Int),x])/\∀a,en K H l a->a[i]?=My x,
  λi H=>∃a,en K H l a/\a.length=i⟩
theorem yr{P:PM}{w:P0}{K:Pl}{x1}{pos:Ub}(l e a:OM)(t:e≠a):
  mX P w K (.Tuple elts x1 pos) (Ite K l) [e,a] e (λi h=>(∃f,IsEnum h e a (i:Int) f)/\h.IsListIter a l i) where
 mem:=by simp
 obj:=λi h st b j=>by
  obtain⟨⟨f,m⟩,p⟩:=st;simp only[O6,QD,Tz]at j;rcases j with rfl|rfl
  .exact⟨_,m,λv q=>by cases q⟩
  .obtain⟨o,q,_,d⟩:=p
   exact⟨o,q,λv z=>by rw[d]at z;cases z⟩
 keep:=λi h D st k=>by
  obtain⟨⟨f,m⟩,p⟩:=st;exact⟨⟨f,k e (by simp) _ m⟩,p.at λo q=>k a (by simp) o q⟩
 item:=by
  intro X J L N O i r s σ H E I y st Q;subst J L N;obtain⟨xs,x,c,M⟩:=Q;obtain⟨⟨f,m⟩,p⟩:=st;obtain⟨g,G,R⟩:=b_.src (b:=OL) I c;have S:=I.ok.hd O;have ne:l≠e:=b_.src_ne (b:=OL) I c (y e (by simp));have T:l≠a:=b_.src_ne (b:=OL) I c (y a (by simp));have Y:i<g.toArray.size:=by
   rw[Pg,<-G.length];exact(OT.mp M).1
  refine wpAny_pyNext_enum_itemD (Yz (show(X.A.in1).handled=OI from S) a l T g.toArray) m ⟨p,R⟩ Y t (by simp[t,ne.symm]) λu D U pu Z f1 fT sz V=>?_;refine⟨_,rfl,wpAny_letOwnedTupleGo_enum (s:={s with heap:=D,toks:=U+1}) Z λC F B=>?_⟩
  replace B:PQ e D C:=B
  have zT:s.heap.objs.size≠e:=RK (Pq m);obtain⟨u',W,ru⟩:=G.get M;have eu:u=u':=by
   have:g[i]?=My u:=by simpa using pu
   rw[this]at W;exact PH W
  subst eu;have kk:∀b o,b∉[e,a]->s.heap.get? b=My o->C.get? b=My o:=λb o j q=>by
   simp only[O6,QD,Tz,Zr]at j;exact B.extBut b o j.1 (V b o j.1 j.2 q)
  have I2:b_ X r σ (upd H s.heap.objs.size (.tup [.int (i:Int),x])) {s with heap:=C,toks:=U+1}:=by
   refine b_.turnNew I y kk (OW _) ⟨by show 2<=Pk;decide,[.int i U,u],.cons ⟨_,rfl⟩ (.cons ru .nil),_,B.extBut _ _ zT fT,rfl,_,rfl⟩
  refine⟨.ref s.heap.objs.size,_,I2,rfl,⟨s.heap.objs.size,x,I.hok.fresh (OW _),rfl,rfl,λas h1=>by rw[b_.src_inj (b:=OL) I h1 c];exact M⟩,⟨⟨_,by simpa using F⟩,?_⟩,λb j=>?_⟩
  .exact f1.1.at λo q=>B.extBut _ _ t.symm q
  .rw[bb]
   .exact(y b j).1
   .intro q
    have ol:∃o,s.heap.get? b=My o:=by
     simp only[O6,QD,Tz]at j;rcases j with rfl|rfl
     .exact⟨_,m⟩
     .obtain⟨o,z,_⟩:=p;exact⟨o,z⟩
    obtain⟨o,z⟩:=ol;exact Pp (Pq z) (by rw[q];exact Qg _)
 done:=by
  intro X J L N O i r s σ H E I y st Q;subst J L N;obtain⟨xs,c,hl⟩:=Q;obtain⟨⟨f,m⟩,p⟩:=st;obtain⟨g,G,R⟩:=b_.src (b:=OL) I c;have S:=I.ok.hd O;have T:l≠a:=b_.src_ne (b:=OL) I c (y a (by simp));have g1:g.toArray.size=i:=by rw[Pg,<-G.length,hl]
  refine wpAny_pyNext_enum_endD (n:=g.toArray.size) (Yz (show(X.A.in1).handled=OI from S) a l T g.toArray) m (by rw[g1];exact⟨p,R⟩) λD V=>⟨rfl,?_⟩;refine b_.turnL (t':=s.toks) I y λb o j q=>?_;simp only[O6,QD,Tz,Zr]at j;exact V b o j.2 q
 self:=λ_ _ _ _ _ st h=>by
  obtain⟨⟨f,m⟩,p⟩:=st;exact wpAny_pyIter_enum m h
def iEn(K:Pl)(g:TA):TI:=λσ H R=>g σ H λa f=>∃l b,a=[.ref l]/\en K f l b/\R (Ite K l) f
theorem JN{a:Expr}{p pos:Ub}{J}(o:Gl X "enumerate")(z:X.mg "enumerate"=OI)(B:PA X [a] L)(D:Pe [a] X.env=[(OQ,Qu a X.env)]:=by rfl):
  PI X (.Tuple x J F) (.Call (.Name "enumerate" p) [a] [] pos) (iEn X.K L):=by
 intro f s σ H R I h;refine Call_ (fi I o z Boot.«enumerate» (QB (d5 (B pos f s σ H _ I h) λM g ⟨P,k,j,E,d⟩=>?_) (by rw[D];rfl) (by rfl)));obtain⟨l,S,e,d,q⟩:=d;subst e;cases E with
 |cons r t=>
  cases t;cases r;obtain⟨u,C,v⟩:=b_.src (b:=OL) j d;refine call_enumerate_list v λw m y V G=>?_;refine wpAny_pyIter_enum (s:={g with heap:=w}) m ?_;have A:b_ X f σ k {g with heap:=w}:=j.kept (t':=g.toks) G;refine⟨_,[g.heap.objs.size+1,g.heap.objs.size],_,Ite X.K l,k,rfl,A,yr l (g.heap.objs.size+1) g.heap.objs.size (Nat.succ_ne_self _),⟨⟨_,m⟩,y⟩,λc n=>?_,q⟩;have i:g.heap.objs.size<=c:=by
   simp only[O6,QD,Tz]at n;rcases n with rfl|rfl
   .exact RH _ _
   .exact OW _
  exact j.fpOk i (j.hok.fresh i)
noncomputable def cP:Nat->a0b->a0b
 |_,[]=>[]
 |n,x::xs=> .tup [.int (n:Int),x]::cP (n+1) xs
theorem lz:∀(n:Nat) (a:a0b),(cP n a).length=a.length
 |_,[]=>rfl
 |n,x::a=>by
  show(cP (n+1) a).length+1=a.length+1;rw[lz (n+1) a]
theorem lA:∀{n:Nat} {b:a0b} {i:Nat} {d:D},(cP n b)[i]?=My d->∃x,b[i]?=My x/\d= .tup [.int ((n+i:Nat):Int),x]
 |n,[],i,d,h=>by simp[cP]at h
 |n,x::b,0,d,h=>by
  simp[cP]at h;exact⟨x,rfl,by rw[<-h];simp⟩
 |n,x::b,i+1,d,h=>by
  have c:(cP (n+1) b)[i]?=My d:=by simpa[cP]using h
  obtain⟨a,f,g⟩:=lA c;exact⟨a,by simpa using f,by rw[g,show n+1+i=n+(i+1) by lia]⟩
def I0:a0b->a0D
 |[.lst xs]=>My (cP 0 xs)
 |_=>OI
theorem EA{H:Hp}(o:∀g f,Tr F H g f->∃a,en K f l a/\ba K g f s a):s_ K (Ite K l) F H (cP 0 s):=λg f c t fr i=>by
 obtain⟨a,h,b⟩:=o g f t;refine⟨λd e=>?_,λj=>?_⟩
 .obtain⟨x,q,rfl⟩:=lA e
  obtain⟨u,k,w⟩:=b.get q;refine⟨⟨a,u,h,k⟩,λz y r=>?_⟩;obtain⟨p,A,m,rfl,rfl,v⟩:=r;have n:=v a h;rw[k]at n;cases n;rw[Q0];exact⟨bM.upd m,bw.newT fr m (ba.cons rfl (ba.cons w ba.nil))⟩
 .rw[lz]at j
  exact⟨a,h,by rw[<-b.length,j]⟩
def IK(g:FL):FL:=cu I0 g
theorem lh{a:Expr}{p pos:Ub}{I}(q:Gl X "enumerate")(c:X.mg "enumerate"=OI)(d:PA X [a] (hU X.K g E))(w:Pe [a] X.env=[(OQ,Qu a X.env)]:=by rfl):
  PI X (.Tuple s I x) (.Call (.Name "enumerate" p) [a] [] pos) (iV X.K (IK g) E):=
 (JN q c d w).imp λσ H R j=>i_ j λF δ β fr r h=>⟨F,δ,β,fr,r,(run.bind (R:=ba X.K F) h).mono λS f j=>by
  obtain⟨V,B,t,D,G⟩:=j;obtain⟨l,e,k⟩:=run.ofO G;unfold I0 at e;split at e
  .rename_i xs
   cases e;obtain⟨v,rfl,o⟩:=ba.one D;have z:∃a,v= .ref a/\∀m i,Tr F f m i->∃b,en X.K i a b/\ba X.K m i xs b:=by
    obtain⟨a,b,rfl,_⟩:=bw.sqL o;refine⟨a,rfl,λm i t2=>?_⟩;obtain⟨C,n,u,M,y⟩:=bw.sqL (bw.tr t2 _ _ o);cases u;exact⟨n,M,y⟩
   obtain⟨a,rfl,z⟩:=z;obtain⟨P,A,_⟩:=z F f (Tr.refl F f);exact⟨a,P,rfl,A,k _ f (To.refl t.fr) (EA z)⟩
  .cases e⟩
def jg(K:Pl)(g:Py)(b:a0i)(h:a0b):Prop:=∃a f,aC K g b a/\aw f a/\∀F H,ba K F H h f
inductive Sr (α:Type) where
 |kw (j:Nat)|df (a:α)
noncomputable def Sr.pick{b:Type}(z:b)(f:List b):Sr b->b
 | .kw j=>f.getD j z
 | .df a=>a
def gK{a:Type}(z:a)(n k:Nat)(b:List (Sr a))(c f:List a):List a:=if c.length=n/\f.length=k then c++b.map (Sr.pick z f)else[]
inductive ko {α γ:Type} (R:α->γ->Prop):List (Sr α)->List (Sr γ)->Prop where
 |nil:ko R [] []
 |kw {j:Nat} {a:List (Sr α)} {c:List (Sr γ)}:ko R a c->ko R (.kw j::a) (.kw j::c)
 |df {x:α} {y:γ} {a:List (Sr α)} {c:List (Sr γ)}:R x y->ko R a c->ko R (.df x::a) (.df y::c)
theorem aw.getD:∀{f:a0k} {g:a0g} (j:Nat),aw f g->aJ (f.getD j .non) (g.getD j .none)
 |_,_,_,.nil=>rfl
 |_,_,0,.cons r _=>r
 |_,_,j+1,.cons _ t=>aw.getD j t
theorem ko.vals(r:aw zs ws):∀{a:List (Sr V)} {c:List (Sr OP)},ko aJ a c->aw (a.map (Sr.pick .non zs)) (c.map (Sr.pick .none ws))
 |_,_,.nil=> .nil
 |_,_,.kw (j:=j) h=> .cons (aw.getD j r) (ko.vals r h)
 |_,_,.df q h=> .cons q (ko.vals r h)
theorem ba.getD{K:Pl}{H:Hp}:∀{ds:a0b} {f:a0k} (j:Nat),ba K F H ds f->bw K F H (ds.getD j .non) (f.getD j .non)
 |[],f,j,h=>by have q:f=[]:=h;subst q;rfl
 |d::ds,f,0,h=>by
  obtain⟨x,r,e,g,i⟩:=h;subst e;exact g
 |d::ds,f,j+1,h=>by
  obtain⟨x,r,e,g,i⟩:=h;subst e;exact ba.getD j i
theorem ko.den{K:Pl}{H:Hp}(r:ba K F H f zs):∀{a:List (Sr D)} {c:List (Sr V)},ko (λd v=>∀F H,bw K F H d v) a c->ba K F H (a.map (Sr.pick .non f)) (c.map (Sr.pick .non zs))
 |_,_,.nil=>ba.nil
 |_,_,.kw (j:=j) h=>ba.cons (ba.getD j r) (ko.den r h)
 |_,_,.df q h=>ba.cons (q F H) (ko.den r h)
theorem ko.len{b f:Type}{R:b->f->Prop}:∀{a:List (Sr b)} {c:List (Sr f)},ko R a c->a.length=c.length
 |_,_,.nil=>rfl
 |_,_,.kw h=>by rw[Pb,Pb,ko.len h]
 |_,_,.df _ h=>by rw[Pb,Pb,ko.len h]
structure wh (K:Pl) (fd:Py) (ps ks:a0i) (n:Nat) (src:List (Sr D)):Prop where
 ex:∃(sv:List (Sr OP)) (sx:List (Sr V)),ko aJ sx sv/\ko (λd v=>∀F H,bw K F H d v) src sx/\∀(s:OV) (us ws:a0g),K.In s.heap->us.length=n->ws.length=ks.length->Wl s fd ⟨us,ks.zip ws⟩ (ps.zip (us++sv.map (Sr.pick .none ws)))
 len:ps.length=n+src.length
 pos:0<ps.length
theorem wh.kb{K:Pl}{e f:a0i}(h:wh K p e f n src):∃(c:List (Sr OP)) (a:List (Sr V)),ko (λd v=>∀F H,bw K F H d v) src a/\w_ K p e f (gK .none n f.length c) (gK .non n f.length a):=by
 obtain⟨c,a,w,l,b⟩:=h.ex;refine⟨c,a,l,λs u k m g=>?_,λ{z u o k} i j=>?_⟩
 .unfold gK at g⊢
  split at g
  .rename_i q
   rw[OZ q];exact b s u k m q.1 q.2
  .exact Pp g (by have:=h.pos;simp;exact Qc ‹_›)
 .unfold gK
  by_cases q:z.length=n/\o.length=f.length
  .rw[OZ q,OZ (by rw[<-i.length,<-j.length];exact q)]
   exact i.append (ko.vals j w)
  .rw[OY q,OY (by rw[<-i.length,<-j.length];exact q)]
   exact .nil
variable{p c:Ub}{x:PZ}{k n:Nat}{f:OM}{d:Py}{a h:a0i}{b:List XI}{y:Option PZ}
def Mj(m:a0b->M D)(g:FL)(h:a0b):FD:=λδ=>M.bind (g δ) λa=>m (a++h)
theorem Jl{h:a0b}(G:ee X.prog X.w X.K X.mg X.base (fx X.prog X.w) k f d a (y2 X.K n m))(y:dt k X.A)(I:Gl X x)(S:X.mg x=My (.ref f))(J:U8 X.K (.ref f)=OL)(L:jg X.K d a h)(V:cM (fx X.prog X.w) X E)
  (s:PA X (e::z) (hU X.K g E)) (hn:∀δ β r P,g δ β=My (.ok r,P)->r.length+h.length=n) (i:(x==("__debug__":PZ))=OQ:=by decide) (N:Pe (e::z) X.env=(OQ,Qu e X.env)::Pe z X.env:=by rfl) (j:(SL pos (Pe z X.env)).any (·.1)=OQ:=by rfl):
  PE X (.Call (.Name x p) (e::z) [] pos) (tV X.K (Mj m g h) E):=by
 obtain⟨ds,O,b,T,B⟩:=L;refine(jB G y I S J b T V s i N j).imp λσ H Q U=>i_ U λF δ β fr W r=>⟨F,δ,β,fr,W,?_⟩;obtain⟨D,l,u,v⟩:=run.bind (R:=ba X.K F) r;refine⟨D,l,u,?_⟩;cases D with
 |error C=>exact v
 |ok as=>
  intro vs o t M;obtain⟨d',c,t1,q,r1⟩:=v vs o t M;have Y:=hn _ _ _ _ u;have Z:=(B F o).length;refine⟨by rw[O1,<-M.length,<-Z,Y],F,d'++h,c,t1.fr,ba.append q (B F o),run.toE r1⟩
theorem Kx:PK X [] (hU X.K ax E):=λpos g s σ H Q I h=>by obtain⟨F,δ,β,fr,i,r⟩:=h;exact Lj pos g s σ H Q I (run.ret fr r ba.nil)
theorem Jh{f:FD}(k:PE X e (tV X.K f E))(l:PK X b (hU X.K g E)):PK X (⟨y,e,c⟩::b) (hU X.K (aa f g) E):=λpos h s σ H Q I ⟨F,δ,β,fr,j,r⟩=>
 JL k l pos h s σ H Q I ⟨F,δ,β,fr,j,(run.bind (R:=bw X.K F) r).mono λv q ⟨d,a,t,n,p⟩=>
  ⟨F,δ,a,t.fr,j.tr (t.tr fr),(run.bind (R:=ba X.K F) p).mono λx u m=>lv m λz w t2 i o=>run.ret t2.fr o (ba.cons (bw.tr (t2.tr t.fr) _ _ n) i)⟩⟩
theorem qi{b:FL}{δ:Dn}{β a c:Bg}{e d:a0b}(g:j δ β=My (.ok e,a))(h:mx l m b e (jm q r δ) a=My (.ok d,c))(i:d.length<=Pk):cN q r j l m b δ β=My (.ok (.lst d),c):=by
 unfold cN;simp only[g,h,i,Qq]
def ZI:Nat->D->Prop
 |_,.int _=>True
 |_,.bl _=>True
 |_,.non=>True
 |n+1,.lst xs=>∀x∈xs,ZI n x
 |n+1,.tup xs=>∀x∈xs,ZI n x
 |_,_=>False
theorem JK:∀(n:Nat) (d:D),ZI n d->∃p,ni d=My p/\p.canLay0=OL/\p.depth<=n+1:=by
 have g:∀(n:Nat) (b:a0b),(∀x∈b,∃p,ni x=My p/\p.canLay0=OL/\p.depth<=n)->∃a,toPs b=My a/\YH a=OL/\Wx a<=n:=by
  intro n b
  induction b with
  |nil=>intro _;exact⟨[],rfl,rfl,by simp[Wx]⟩
  |cons x b c=>
   intro h;obtain⟨p,o,q,r⟩:=h x OU;obtain⟨a,j,l,m⟩:=c λy f=>h y (OO _ f);refine⟨p::a,?_,?_,?_⟩
   .unfold toPs;simp only[o,j]
   .simp[YH,q,l]
   .simp only[Wx];omega
 intro n
 induction n with
 |zero=>
  intro d h;cases d with
  |int i=>exact⟨.int i,rfl,rfl,by simp[S3]⟩
  |bl i=>exact⟨.bool i,rfl,rfl,by simp[S3]⟩
  |non=>exact⟨.none,rfl,rfl,by simp[S3]⟩
  |_=>exact h.elim
 |succ n c=>
  intro d h;cases d with
  |int i=>exact⟨.int i,rfl,rfl,by simp[S3]⟩
  |bl i=>exact⟨.bool i,rfl,rfl,by simp[S3]⟩
  |non=>exact⟨.none,rfl,rfl,by simp[S3]⟩
  |lst b=>
   obtain⟨a,j,l,m⟩:=g (n+1) b λx e=>c x (h x e);exact⟨.list a,by unfold ni;simp[j],by simp[PyData.canLay0,l],by simp only[S3];exact Vz ‹_›⟩
  |tup b=>
   obtain⟨a,j,l,m⟩:=g (n+1) b λx e=>c x (h x e);exact⟨.tuple a,by unfold ni;simp[j],by simp[PyData.canLay0,l],by simp only[S3];exact Vz ‹_›⟩
  |_=>exact h.elim
theorem ER{d:D}(n:Nat)(h:ZI n d)(a:n<=60):mw d=OL:=by
 obtain⟨p,g,i,j⟩:=JK n d h;unfold mw;simp only[g,UH,i,Tq,PX];lia
def Gw(g:G)(δ:Ds)(β:Bg)(Q:a0y):Prop:=∃o P,g δ β=My (o,P)/\Q o P
end
section
variable{g h a b s p:G}{δ δ1:Ds}{β β1 β2 β3:Bg}{Q R:a0y}{i:Nat}{f q u v:FD}{fl:FL}{j:Dn->M a0t}{d x y z:D}{ds as:a0b}{t:a0r}{c:Bool}{C:OM}{K:Pl}
theorem Gw.mono(k:Gw g δ β R)(q:∀o β,R o β->Q o β):Gw g δ β Q:=let ⟨o,β',e,r⟩:=k;⟨o,β',e,q _ _ r⟩
theorem JA:aD g gNil=g:=by
 funext δ β;unfold aD gNil;split
 .rename_i δ1 β1 e;exact e.symm
 .rfl
theorem au(k:Gw (aD g gNil) δ β Q):Gw g δ β Q:=by rw[JA]at k;exact k
theorem bf(q:Q (.nx δ) β):Gw gNil δ β Q:=⟨_,_,rfl,q⟩
theorem dh(e:g δ β=My (.nx δ1,β1))(k:Gw h δ1 β1 Q):Gw (aD g h) δ β Q:=by
 obtain⟨o,j,l,q⟩:=k;exact⟨o,j,by unfold aD;rw[e];exact l,q⟩
theorem vd(k:Gw (aD a (aD b h)) δ β Q):Gw (aD (aD a b) h) δ β Q:=by
 obtain⟨o,j,l,q⟩:=k;refine⟨o,j,?_,q⟩;rw[<-l];unfold aD;split<;>rename_i e<;>(split at e<;>simp_all)
theorem bx(k:Gw h δ β Q):Gw (aD gNil h) δ β Q:=dh rfl k
theorem HJ(k:Gw g (fz i δ) β Q):Gw (fzG i g) δ β Q:=k
theorem aG(e:f (vw δ) β=My (.ok d,β1))(k:Gw h (δ.set i (My (.sh d))) β1 Q):Gw (aD (f9 i f) h) δ β Q:=dh (by unfold f9;rw[e]) k
theorem Ku(e:f (hE δ) β=My (.ok d,β1))(k:Gw h (δ.set i (My (.sh d))) β1 Q)(j:noL d=OL:=by rfl):Gw (aD (rR i f) h) δ β Q:=dh (by unfold rR;simp only[e,j,Qq]) k
theorem nW(e:f (hE δ) β=My (.ok d,β1))(k:Gw h δ β1 Q):Gw (aD (o9 f) h) δ β Q:=dh (by unfold o9;rw[e]) k
theorem gQ(e:t (hE δ) β=My (.ok c,β1))(k:Gw (aD (if c=OL then s else p) h) δ β1 Q):Gw (aD (ri t s p) h) δ β Q:=by
 obtain⟨o,j,l,q⟩:=k;refine⟨o,j,?_,q⟩;rw[<-l];unfold aD ri;rw[e];cases c<;>rfl
theorem ND(e:t (hE δ) β=My (.ok OL,β1))(k:Gw (aD s h) δ β1 Q):Gw (aD (ri t s p) h) δ β Q:=gQ e k
theorem fm(e:t (hE δ) β=My (.ok OQ,β1))(k:Gw (aD p h) δ β1 Q):Gw (aD (ri t s p) h) δ β Q:=gQ e k
theorem aU(e:f (hE δ) β=My (.ok d,β1))(q:Q (.rt d) β1):Gw (aD (eV f) h) δ β Q:=⟨_,_,by unfold aD eV;rw[e],q⟩
theorem Jg(e:j (vw δ) β=My (.ok k,β1))(q:Q (.rg k) β1):Gw (aD (lj j) h) δ β Q:=⟨_,_,by unfold aD lj;rw[e],q⟩
theorem HI{ac:a0t}(e:j (vw δ) β=My (.ok ac,β1))(a:ac.all noLs=OL)(k:Gw h (δ.set i (My (.grd ac))) β1 Q):Gw (aD (qa i j) h) δ β Q:=dh (by unfold qa;simp only[e,a,Qq]) k
theorem HH{ac:a0t}(e:v (hE δ) β=My (.ok d,β1))(j:q (hE δ) β1=My (.ok (.int ka),β2))(l:u (hE δ) β2=My (.ok (.int kb),β3))(m:δ.getD i OI=My (.grd ac))
  (n:o0 ac.length ka=My ja) (o:ac[ja]?=My ds) (p:o0 ds.length kb=My jb) (a:noL d=OL) (k:Gw h (δ.set i (My (.grd (ac.set ja (ds.set jb d))))) β3 Q):Gw (aD (mn i q u v) h) δ β Q:=
 dh (by unfold mn;simp only[e,j,l,m,n,o,p,a,Qq]) k
theorem nU(e:fl (vw δ) β=My (.ok ds,β1))(j:ds.length<=Pk)(k:Gw h (δ.set i (My (.own ds))) β1 Q):Gw (aD (uw i fl) h) δ β Q:=dh (by unfold uw;simp only[e,j,Qq]) k
theorem lP{cs:a0b}(j:δ.getD i OI=My (.own cs))(e:fl (vw δ) β=My (.ok [d],β1))(l:cs.length<Pk)(k:Gw h (δ.set i (My (.own (cs++[d])))) β1 Q):Gw (aD (uA i fl) h) δ β Q:=
 dh (by unfold uA;simp only[j,e,l,Qq]) k
theorem HL(e:f (vw δ) β=My (.ok d,β1))(j:l d δ=My δ1)(k:Gw h δ1 β1 Q):Gw (aD (xN f l) h) δ β Q:=dh (by unfold xN;simp only[e,j,Rt]) k
def Tn(I:Ds->Bg->Prop)(h:G)(Q:a0y):o1->Bg->Prop:=λo β=>match o with
 | .nx δ=>I δ β
 | .ct δ=>I δ β
 | .bk δ=>Gw h δ β Q
 |o=>Q o β
theorem bB(e:it δ β=My (.ok ds,β1))(Iv:Nat->Ds->Bg->Prop)(L:Iv 0 δ β1)(b:∀i d δ β,ds[i]?=My d->Iv i δ β->∃δ1,tg d δ=My δ1/\Gw g δ1 β (Tn (Iv (i+1)) h Q))(k:∀δ β,Iv ds.length δ β->Gw h δ β Q):
  Gw (aD (mo it tg g) h) δ β Q:=by
 have c:∀(a:a0b) (j:Nat) (δ:Ds) (β:Bg),a=ds.drop j->j+a.length=ds.length->Iv j δ β->Gw (aD (np tg g a) h) δ β Q:=by
  intro a
  induction a with
  |nil=>
   intro j δ β _ A B;simp at A;exact dh (g:=np tg g []) rfl (k δ β (A▸B))
  |cons d a s=>
   intro j δ β J A B;have N:ds[j]?=My d:=by
    have:=Qb (λl=>l[0]?) J;simpa[SH]using this.symm
   obtain⟨δ1,u,o,β2,v,q⟩:=b j d δ β N B;have F:a=ds.drop (j+1):=by
    have:=Qb List.tail J;simpa[List.tail_drop]using this
   have f:∀m,Iv (j+1) m β2->Gw (aD (np tg g a) h) m β2 Q:=λm H=>s (j+1) m β2 F (by simp at A;lia) H;have n:∀{r:G} {m:Ds},Gw (aD r h) m β2 Q->np tg g (d::a) δ β=r m β2->Gw (aD (np tg g (d::a)) h) δ β Q:=λ{r m} ⟨O,p,I,T⟩ U=>⟨O,p,by rw[<-I];unfold aD;rw[U],T⟩;cases o with
   |nx m=>exact n (r:=np tg g a) (f m q) (by rw[np];simp only[u,v])
   |ct m=>exact n (r:=np tg g a) (f m q) (by rw[np];simp only[u,v])
   |bk m=>exact n (r:=gNil) (bx q) (by rw[np];simp only[u,v];rfl)
   |rt d'=>exact⟨_,β2,by unfold aD;rw[np];simp only[u,v],q⟩
   |rg d'=>exact⟨_,β2,by unfold aD;rw[np];simp only[u,v],q⟩
   |ex C m=>exact⟨_,β2,by unfold aD;rw[np];simp only[u,v],q⟩
 obtain⟨o,p,I,q⟩:=c ds 0 δ β1 (by simp) (by simp) L;refine⟨o,p,?_,q⟩;rw[<-I];unfold aD mo;rw[e]
theorem jI{S:Except OM D->Bg->Prop}(k:Gw g (lr n ds) β (λo j=>match o with| .rt d=>S (.ok d) j| .nx _=>S (.ok .non) j| .ex C _=>S (.error C) j|_=>False)):∃r j,d7 n g ds β=My (r,j)/\S r j:=by
 obtain⟨o,j,e,q⟩:=k;cases o with
 |rt d=>exact⟨.ok d,j,by unfold d7;rw[e],q⟩
 |nx δ=>exact⟨.ok .non,j,by unfold d7;rw[e],q⟩
 |ex C δ=>exact⟨.error C,j,by unfold d7;rw[e],q⟩
 |_=>exact q.elim
theorem Ko{S:a0t->Bg->Prop}(k:Gw g (lr n ds) β (λo j=>match o with| .rg d=>S d j|_=>False)):∃r j,mz n g ds β=My (.ok r,j)/\S r j:=by
 obtain⟨o,j,e,q⟩:=k;cases o with
 |rg d=>exact⟨d,j,by unfold mz;rw[e],q⟩
 |_=>exact q.elim
theorem aW(k:Gw g (lr n ds) β (λo j=>j=β/\(match o with| .rt d=>r= .ok d| .nx _=>r= .ok .non| .ex C _=>r= .error C|_=>False))):d7 n g ds β=My (r,β):=by
 obtain⟨l,j,e,a,b⟩:=jI (S:=λl j=>j=β/\r=l) (n:=n) (ds:=ds) (β:=β) (k.mono λo j h=>by
  cases o<;>first|exact h|exact h.2)
 subst a b;exact e
theorem Kq(k:Gw g (lr n ds) β (λo j=>j=β/\(match o with| .rg d=>r=d|_=>False))):mz n g ds β=My (.ok r,β):=by
 obtain⟨l,j,e,a,b⟩:=Ko (S:=λl j=>j=β/\r=l) (n:=n) (ds:=ds) (β:=β) (k.mono λo j h=>by
  cases o<;>first|exact h|exact h.2)
 subst a b;exact e
theorem ak{δ:Dn}(e:fl δ β=My (.ok as,β1))(j:m as β1=My r):bz m fl δ β=My r:=by unfold bz M.bind;rw[e];exact j
theorem Jd{δ:Dn}(e:fl δ β=My (.ok as,β1))(j:m as β1=My r):uG m fl δ β=My r:=by unfold uG M.bind;rw[e];exact j
theorem dr{δ:Dn}(e:q δ β=My (.ok x,β1))(j:u δ β1=My (.ok y,β2))(k:op x y=My z):f2 op q u δ β=My (.ok z,β2):=by unfold f2 M.bind;rw[e];simp only[j,M.ofO,k]
theorem x_1{δ:Dn}(e:q δ β=My (.ok x,β1))(j:op x=My z):f1 op q δ β=My (.ok z,β1):=by unfold f1 M.bind;rw[e];simp only[M.ofO,j]
theorem aj{δ:Dn}(e:fl δ β=My (.ok as,β1))(j:op as=My z):aL op fl δ β=My (.ok z,β1):=by unfold aL M.bind;rw[e];simp only[M.ofO,j]
theorem ae{δ:Dn}(e:q δ β=My (.ok x,β1))(j:fl δ β1=My (.ok as,β2)):aa q fl δ β=My (.ok (x::as),β2):=by unfold aa M.bind;rw[e];simp only[j,M.ret]
theorem bE{δ:Dn}(e:fl δ β=My (.ok as,β1))(j:op as=My ds):cu op fl δ β=My (.ok ds,β1):=by unfold cu M.bind;rw[e];simp only[j,M.ofO]
theorem cK{δ:Dn}(e:q δ β=My (.ok x,β1))(j:c9 x=My ds):dE q δ β=My (.ok ds,β1):=by unfold dE M.bind;rw[e];simp only[j,M.ofO]
theorem ij{δ:Dn}(e:q δ β=My (.ok (.bl c),β1)):fB q δ β=My (.ok c,β1):=by unfold fB M.bind;rw[e];rfl
theorem lO{δ:Dn}(e:q δ β=My (.ok x,β1))(j:BV x=My c):uF q δ β=My (.ok c,β1):=by unfold uF M.bind;rw[e];simp only[M.ofO,j]
theorem nR{δ:Dn}(e:t δ β=My (.ok c,β1)):xS t δ β=My (.ok (!c),β1):=by unfold xS M.bind;rw[e];rfl
theorem aX(a:β.ok)(k:0<lot)(l:lot<1073741824):∃v e,cw [.bag,.int lot] β=My (.ok (.int v),e)/\0<=v/\v<lot/\e.ok:=by
 obtain⟨m,b,j⟩:=vF a k;exact⟨_,_,DG a k l,m,b,j⟩
theorem ld{n:Nat}{k:Int}(e:0<=k)(j:k<n):o0 n k=My k.toNat:=by unfold o0;rw[OZ e,OZ j]
theorem z0{k:Int}{d:D}(e:0<=k)(h:l[k.toNat]?=My d):hY (.lst l) (.int k)=My d:=by
 have j:k.toNat<l.length:=(OT.mp h).1;show nj l k=My d;unfold nj;rw[ld e (by lia)];exact h
theorem DX{x y:D}:hY (.tup [x,y]) (.int 0)=My x:=rfl
theorem DW{x y:D}:hY (.tup [x,y]) (.int 1)=My y:=rfl
end
section
variable{β β1 β2:Bg}{f g h i:FD}{t u:a0r}{δ:Dn}{c e:Bool}{x y z w:Int}{d:D}
theorem nQ(a:t δ β=My (.ok OQ,β1))(b:u δ β1=My (.ok e,β2)):qc t u δ β=My (.ok e,β2):=by
 unfold qc M.bind;rw[a];simp[b]
theorem va(a:f δ β=My (.ok (.bl OL),β1))(b:g δ β1=My (.ok d,β2)):xT f g δ β=My (.ok d,β2):=by
 unfold xT M.bind;rw[a];simp[asB,M.ofO,b]
theorem le_int:PC (.int x) (.int y)=My (.bl (decide (x<=y))):=rfl
theorem gt_int:gtD (.int x) (.int y)=My (.bl (decide (y<x))):=rfl
theorem vb(a:f δ β=My (.ok (.int x),β))(b:g δ β=My (.ok (.int y),β))(j:h δ β=My (.ok (.int z),β)):ph PC PC f g h δ β=My (.ok (.bl (decide (x<=y)&&decide (y<=z))),β):=by
 unfold ph M.bind;rw[a];simp only[b,le_int,M.ofO,asB];by_cases q:x<=y
 .simp only[q,decide_true,Qq,j,le_int,Tq]
 .simp only[q,decide_false,Ph,Qj,M.ret,UU]
theorem BQ(a:f δ β=My (.ok (.int x),β))(b:g δ β=My (.ok (.int y),β))(j:h δ β=My (.ok (.int z),β))(k:i δ β=My (.ok (.int w),β)):mv PC PC PC f g h i δ β=My (.ok (.bl (decide (x<=y)&&decide (y<=z)&&decide (z<=w))),β):=by
 unfold mv IZ M.bind;rw[a];simp only[b,le_int,M.ofO,asB];by_cases q:x<=y
 .simp only[q,decide_true,Qq,j,le_int,Tq]
  by_cases c:y<=z
  .simp only[c,decide_true,Qq,k,le_int,Tq]
  .simp only[c,decide_false,Ph,Qj,M.ret,UU]
 .simp only[q,decide_false,Ph,Qj,M.ret,UU]
theorem NC{g h:G}{δ:Ds}{β:Bg}(P:Ds->Bg->Prop)(a:Gw g δ β (λo β1=>∃c,o= .nx c/\P c β1))(b:∀c β1,P c β1->Gw h c β1 Q):Gw (aD g h) δ β Q:=by
 obtain⟨o,β1,e,c,rfl,p⟩:=a;exact dh e (b c β1 p)
theorem yh{δ:Ds}{β:Bg}{P:Ds->Bg->Prop}(p:P δ β):Gw gNil δ β (λo β1=>∃c,o= .nx c/\P c β1):=bf ⟨_,rfl,p⟩
noncomputable abbrev gI(ac:LI):a0t:=ac.map λr=>r.map D.int
noncomputable abbrev lG(c:a0t):D:= .lst (c.map D.lst)
abbrev bT(ac:LI):D:=lG (gI ac)
noncomputable def pD(p:Int×Int):D:= .tup [.int p.1,.int p.2]
abbrev gP(b:LP):a0t:=b.map λr=>r.map pD
abbrev dg(b:LP):D:=lG (gP b)
def io{e:Type}(r c:Nat)(m:List (List e)):Prop:=m.length=r/\∀d∈m,d.length=c
noncomputable def tot(ac:LI):Int:=(ac.map Rf).sum
theorem bn(h:n<=1000):n<=Pk:=Pj h (by decide)
theorem i6:∀r:a0e,noLs (r.map D.int)=OL
 |[]=>rfl
 |x::r=>by
  show(noL (.int x)&&noLs (r.map D.int))=OL;rw[i6 r];rfl
theorem oP:∀r:List (Int×Int),noLs (r.map pD)=OL
 |[]=>rfl
 |x::r=>by
  show(noL (pD x)&&noLs (r.map pD))=OL;rw[oP r];rfl
theorem LF(b:LP):(gP b).all noLs=OL:=by
 rw[S9];intro x c;obtain⟨r,_,rfl⟩:=OR.mp c;exact oP r
theorem io.map{d a:Type}{f:d->a}{r c:Nat}{m:List (List d)}(h:io r c m):io r c (m.map λx=>x.map f):=⟨by rw[OH,h.1],λe b=>by
 obtain⟨x,g,rfl⟩:=OR.mp b;rw[OH];exact h.2 x g⟩
theorem io.set{d:Type}{r c i j:Nat}{m:List (List d)}{row:List d}{v:d}(h:io r c m)(a:m[i]?=My row):io r c (m.set i (row.set j v)):=⟨by rw[QC,h.1],λx e=>by
 rcases Rx e with e|rfl
 .exact h.2 x e
 .rw[QC];exact h.2 row (Pd a)⟩
theorem io.at{d:Type}{r c i:Nat}{m:List (List d)}(h:io r c m)(b:i<r):∃row,m[i]?=My row/\row.length=c:=by
 have a:i<m.length:=by rw[h.1];exact b
 exact⟨m[i],ON a,h.2 _ (Qr a)⟩
theorem I9{c:Type}{l:List c}{i:Nat}(h:i<l.length):∃x,l[i]?=My x:=⟨l[i],ON h⟩
theorem jq:∀{c:a0e} {j:Nat} {x v:Int},c[j]?=My x->(c.set j v).sum=c.sum-x+v
 |[],j,x,v,h=>by simp at h
 |y::c,0,x,v,h=>by
  simp at h;subst h;simp only[List.set_cons_zero,Pz];lia
 |y::c,j+1,x,v,h=>by
  have d:c[j]?=My x:=by simpa using h
  simp only[List.set_cons_succ,Pz,jq d];lia
theorem Jn{ac:LI}{i j:Nat}{row:a0e}{x v:Int}(a:ac[i]?=My row)(b:row[j]?=My x):tot (ac.set i (row.set j v))=tot ac-x+v:=by
 unfold tot;rw[TY,jq (x:=row.sum) (by rw[OS,a];rfl),jq b];lia
theorem LG{ac:LI}{i j:Nat}{row:a0e}(h:∀r∈ac,∀x∈r,0<=x)(b:ac[i]?=My row)(k:0<=v):∀r∈ac.set i (row.set j v),∀x∈r,0<=x:=λr a x c=>by
 rcases Rx a with a|rfl
 .exact h r a x c
 .rcases Rx c with c|rfl
  .exact h row (Pd b) x c
  .exact k
theorem kF:∀{xs:a0e},(∀x∈xs,0<=x)->0<=xs.sum
 |[],_=>by simp
 |y::xs,h=>by
  have:=kF (xs:=xs) λx c=>h x (OO _ c);have:=h y OU;simp only[Pz];lia
theorem ug:∀{xs:a0e},(∀x∈xs,0<=x)->∀x∈xs,x<=xs.sum
 |[],_,x,hx=>by cases hx
 |y::xs,h,x,hx=>by
  have:=kF (xs:=xs) λx hx=>h x (OO _ hx);have:=h y OU;rcases O6.mp hx with rfl|hx
  .simp only[Pz];lia
  .have:=ug (xs:=xs) (λx hx=>h x (OO _ hx)) x hx
   simp only[Pz];lia
theorem LR(h:∀r∈l,∀x∈r,0<=x):∀r∈l,∀x∈r,x<=tot l:=λr a x c=>by
 have j:=ug (h r a) x c;have k:=ug (xs:=l.map Rf) (λs d=>by
  obtain⟨q,b,rfl⟩:=OR.mp d;exact kF (h q b)) r.sum (OR.mpr ⟨r,a,rfl⟩)
 unfold tot;lia
structure ZS (r c:Nat) (ac:LI):Prop where
 shp:io r c ac
 nn:∀row∈ac,∀x∈row,0<=x
 tot:tot ac<=40
 r0:1<=r
 r1:r<=4
 c0:1<=c
 c1:c<=6
theorem eG(c:a0e):gy [.lst (c.map D.int)]=My (.int c.sum):=by
 show((eD (c.map D.int)).map λl=>D.int l.sum)=_;have:∀c:a0e,eD (c.map D.int)=My c:=λc=>by
  induction c with
  |nil=>rfl
  |cons n c d=>simp[eD,d]
 rw[this];rfl
theorem y3{n:Int}(a:0<=n)(h:n<=10^9):fG [.int n]=My (aZ 0 n.toNat):=by
 have q:(decide (-(2^62)<=n)&&decide (n<2^62))=OL:=by
  simp only[PP,PX];lia
 show(if(decide (-(2^62)<=n)&&decide (n<2^62))=OL then My (aZ 0 n.toNat)else OI)=_;rw[OZ q]
theorem IA{d:D}(h:(aZ 0 n)[k]?=My d):k<n/\d= .int (k:Int):=by
 unfold aZ at h;have a:k<n:=by
  have:=(OT.mp h).1;simpa using this
 rw[OS,P9 a]at h;exact⟨a,by cases h;simp⟩
theorem tw(n:Nat):(aZ 0 n).length=n:=by simp[aZ]
theorem bq{e:Type}{f:FD}{δ:Dn}{β:Bg}(d:List e)(u v:e->D)(a:it δ β=My (.ok (d.map u),β))
  (b:∀x∈d,∃c,tg (u x) (jm nv bt δ)=My c/\f c β=My (.ok (v x),β)) (j:d.length<=Pk):cN nv bt it tg (λ_=>M.ret OL) (j2 f) δ β=My (.ok (.lst (d.map v)),β):=by
 refine qi a ?_ (by rw[OH];exact j);have g:∀d:List e,(∀x∈d,∃c,tg (u x) (jm nv bt δ)=My c/\f c β=My (.ok (v x),β))->mx tg (λ_=>M.ret OL) (j2 f) (d.map u) (jm nv bt δ) β=My (.ok (d.map v),β):=by
  intro d
  induction d with
  |nil=>intro _;rfl
  |cons x d i=>
   intro h;obtain⟨c,k,l⟩:=h x OU;have m:=i λy t=>h y (OO _ t);rw[Pc,mx];simp only[k,M.bind,M.ret,reduceIte,j2,l,m,Pc,Ta,RO]
 exact g d b
theorem qW{d:Type}{f:FL}{δ:Dn}{β:Bg}(xs:List d)(u:d->D)(v:d->a0b)(a:it δ β=My (.ok (xs.map u),β))
  (b:∀x∈xs,∃c,tg (u x) (jm nv bt δ)=My c/\f c β=My (.ok (v x),β)) (j:xs.length<=Pk):gL nv bt it tg (λ_=>M.ret OL) (ql f) δ β=My (.ok (xs.map v),β):=by
 have e:∀xs:List d,(∀x∈xs,∃c,tg (u x) (jm nv bt δ)=My c/\f c β=My (.ok (v x),β))->nM tg (λ_=>M.ret OL) (ql f) (xs.map u) (jm nv bt δ) β=My (.ok (xs.map v),β):=by
  intro xs
  induction xs with
  |nil=>intro _;rfl
  |cons x xs g=>
   intro h;obtain⟨c,k,l⟩:=h x OU;have m:=g λy i=>h y (OO _ i);rw[Pc,nM];simp only[k,M.bind,M.ret,reduceIte,ql,l,m,Pc,Ta,RO]
 unfold gL;simp only[a,e xs b,OH,j,Qq]
theorem AW{e:Type}{f:FD}{δ:Dn}{β:Bg}(d:List e)(u:e->D)(v:e->D)(a:it δ β=My (.ok (d.map u),β))
  (b:∀x∈d,∃c,tg (u x) (jm nv bt δ)=My c/\f c β=My (.ok (v x),β)) (j:d.length<=Pk):fj nv bt it tg (λ_=>M.ret OL) (j2 f) δ β=My (.ok (d.map v),β):=by
 have g:∀d:List e,(∀x∈d,∃c,tg (u x) (jm nv bt δ)=My c/\f c β=My (.ok (v x),β))->mx tg (λ_=>M.ret OL) (j2 f) (d.map u) (jm nv bt δ) β=My (.ok (d.map v),β):=by
  intro d
  induction d with
  |nil=>intro _;rfl
  |cons x d i=>
   intro h;obtain⟨c,k,l⟩:=h x OU;have m:=i λy t=>h y (OO _ t);rw[Pc,mx];simp only[k,M.bind,M.ret,reduceIte,j2,l,m,Pc,Ta,RO]
 unfold fj;simp only[a,g d b,OH,j,Qq]
theorem Lb{ds:a0b}{c:Nat}(a:ds.length<=Pk)(b:ds.length*c<=Pk)(j:c<=1000000):tz ds (.int (c:Int))=My (Pr c ds).flatten:=by
 have q:(decide (-(2^63)<=(c:Int))&&decide ((c:Int)<2^63)&&decide (ds.length<=Pk)&&decide (ds.length*(c:Int).toNat<=Pk))=OL:=by
  simp only[PP,PX];exact⟨⟨⟨by lia,by lia⟩,a⟩,by rw[Qv];exact b⟩
 unfold tz;simp only[q,Qq];rw[Qv]
theorem uD{d:Type}(x:d):∀c:Nat,(Pr c [x]).flatten=Pr c x
 |0=>rfl
 |c+1=>by rw[Q9,Rb,uD x c];rfl
theorem N4{f:FD}{g:FD}{x:D}{c:Nat}{δ:Dn}{β:Bg}(b:f δ β=My (.ok x,β))(j:g δ β=My (.ok (.int (c:Int)),β))(k:c<=1000):xg (aa f ax) g δ β=My (.ok (Pr c x),β):=by
 have a:[x].length<=Pk:=by rw[Qs];decide
 have l:[x].length*c<=Pk:=by rw[Qs,Nat.one_mul];exact bn k
 have r:=Lb (ds:=[x]) (c:=c) a l (by lia);rw[uD]at r;have s:Z3 [x]=My [x]:=by
  unfold Z3;rw[OZ a]
 have m:aa f ax δ β=My (.ok [x],β):=ae b rfl;unfold xg;rw[M.bind_ok m,s,M.bind_some,M.bind_ok j,r];rfl
theorem BF(c:a1b):dZ (c.map D.bl)=My c:=by
 induction c with
 |nil=>rfl
 |cons b c d=>simp[dZ,d]
theorem any_map{α:Type}(c:List α)(p:α->Bool):x6 [.lst (c.map λx=>D.bl (p x))]=My (.bl (c.any p)):=by
 show(dZ _).map _=_;rw[show(c.map λx=>D.bl (p x))=(c.map p).map D.bl by rw[O0];rfl,BF];simp only[Rt,List.any_map];rfl
theorem i7{c:Type}(r:Nat)(x:c):(OX r).map (λ_=>x)=Pr r x:=by rw[List.map_const',Pi]
theorem dF{c:a0b}(h:c.length=r):fZ [.lst c]=My (.int (r:Int)):=by subst h;rfl
theorem zQ{ac:a0t}(h:ac.length=r):fZ [lG ac]=My (.int (r:Int)):=dF (by rw[OH,h])
theorem rM{ac:a0t}{k:Nat}{row:a0b}(h:ac[k]?=My row):hY (lG ac) (.int (k:Int))=My (.lst row):=z0 (by lia) (by rw[Qv,OS,h];rfl)
theorem cA{xs:a0b}{k:Nat}{d:D}(h:xs[k]?=My d):hY (.lst xs) (.int (k:Int))=My d:=z0 (by lia) (by rw[Qv];exact h)
theorem gh{x y:D}:fE [x,y]=My (.tup [x,y]):=by
 unfold fE;rw[OZ (show[x,y].length<=Pk by rw[Pb,Qs];decide)]
theorem LO:dQ []=My (.lst []):=by
 unfold dQ;rw[OZ (show([]:a0b).length<=Pk by rw[Sc];decide)]
theorem nq{x:D}:dQ [x]=My (.lst [x]):=by
 unfold dQ;rw[OZ (show[x].length<=Pk by rw[Qs];decide)]
theorem xk{x y:Int}:tY [.int x,.int y]=My (.int (SC x y)):=by
 unfold tY;simp only;congr 2;split<;>lia
theorem LM{x y:Int}:xo [.int x,.int y]=My (.int (Yb x y)):=by
 unfold xo;simp only;congr 2;split<;>lia
theorem eq_int{x y:Int}:fK (.int x) (.int y)=My (.bl (decide (x=y))):=by rw[OA]
theorem ne_int{x y:Int}:gX (.int x) (.int y)=My (.bl (!decide (x=y))):=by rw[Oz]
theorem qe{i:Nat}{d:D}(h:(cP 0 j)[i]?=My d):∃x,j[i]?=My x/\d= .tup [.int (i:Int),x]:=by
 obtain⟨x,b,a⟩:=lA h;rw[Q0]at a;exact⟨x,b,a⟩
theorem bL{c a:Type}{f:c->a}{xs:List c}{i:Nat}{d:a}(h:(xs.map f)[i]?=My d):∃x,xs[i]?=My x/\d=f x:=by
 rw[OS]at h;cases q:xs[i]? with
 |none=>rw[q]at h;cases h
 |some x=>rw[q]at h;exact⟨x,rfl,by cases h;rfl⟩
noncomputable abbrev mq(r c:Nat):LP:=Pr r (Pr c (0,40))
theorem AK(r c:Nat):io r c (mq r c):=⟨by simp,λd h=>by rw[(RF.mp h).2];simp⟩
noncomputable def zv{d:Type}(m:List (List d))(i j:Nat):Option d:=(m[i]?).bind λc=>c[j]?
theorem G_{d:Type}{m:List (List d)}{i j k l:Nat}{c:List d}{v x:d}(a:m[i]?=My c)(h:zv (m.set i (c.set j v)) k l=My x):(k=i/\l=j/\x=v)\/(zv m k l=My x/\¬(k=i/\l=j)):=by
 unfold zv at h⊢;rw[QX]at h;by_cases q:i=k
 .subst q
  rw[OZ rfl]at h;split at h
  .simp only[RZ]at h
   rw[QX]at h;by_cases w:j=l
   .subst w
    rw[OZ rfl]at h;split at h
    .exact .inl ⟨rfl,rfl,(PH h).symm⟩
    .cases h
   .rw[OY w]at h
    exact .inr ⟨by rw[a];exact h,λz=>w z.2.symm⟩
  .cases h
 .rw[OY q]at h
  exact .inr ⟨h,λz=>q z.1.symm⟩
theorem ww{d:Type}{m:List (List d)}{i j:Nat}{x:d}(h:zv m i j=My x):∃c∈m,x∈c:=by
 unfold zv at h;cases q:m[i]? with
 |none=>rw[q]at h;cases h
 |some c=>rw[q]at h;exact⟨c,Pd q,Pd h⟩
theorem uZ{d:Type}{m:List (List d)}{i j:Nat}{c:List d}{x:d}(a:m[i]?=My c)(b:c[j]?=My x):zv m i j=My x:=by unfold zv;rw[a];exact b
structure nw (p:Int×Int):Prop where
 l:0<=p.1
 m:p.1<=p.2
 h:p.2<=40
def Kp(ac:LI)(b:LP):Prop:=∀i j x p,zv ac i j=My x->zv b i j=My p->p.1<=x/\x<=p.2
structure si (r c:Nat) (b:LP):Prop where
 shp:io r c b
 ok:∀row∈b,∀p∈row,nw p
theorem si.set{r c i j:Nat}{b:LP}{row:List (Int×Int)}(h:si r c b)(k:b[i]?=My row)(l:nw p):si r c (b.set i (row.set j p)):=⟨h.shp.set k,λq a x d=>by
 rcases Rx a with a|rfl
 .exact h.ok q a x d
 .rcases Rx d with d|rfl
  .exact h.ok row (Pd k) x d
  .exact l⟩
theorem si.free(r c:Nat):si r c (mq r c):=⟨AK r c,λd b p a=>by
 rw[(RF.mp b).2]at a;rw[(RF.mp a).2];exact⟨by decide,by decide,by decide⟩⟩
theorem ZS.le40{r c:Nat}(t:ZS r c ac):∀d∈ac,∀x∈d,0<=x/\x<=40:=λd a x e=>⟨t.nn d a x e,by
 have:=LR t.nn d a x e;have:=t.tot;lia⟩
theorem Kp.free{r c:Nat}(t:ZS r c ac):Kp ac (mq r c):=λi j x p e k=>by
 obtain⟨d,l,b⟩:=ww e;obtain⟨q,m,a⟩:=ww k;rw[(RF.mp m).2]at a;rw[(RF.mp a).2];exact t.le40 d l x b
theorem Kp.set{b:LP}{i j:Nat}{row:List (Int×Int)}{p:Int×Int}{x:Int}(h:Kp ac b)(m:b[i]?=My row)(d:zv ac i j=My x)(n:p.1<=x)(o:x<=p.2):Kp ac (b.set i (row.set j p)):=λk l y q c a=>by
 rcases G_ m a with⟨rfl,rfl,rfl⟩|⟨a,_⟩
 .rw[d]at c
  cases c;exact⟨n,o⟩
 .exact h k l y q c a
theorem Km{e:Type}{δ:Dn}{β:Bg}(d:List e)(u:e->D)(o:e->a0b)(a:it δ β=My (.ok (d.map u),β))
  (j:∀x∈d,∃c,tg (u x) (jm nv bt δ)=My c/\b c β=My (.ok (o x),β)) (k:(d.flatMap o).length<=Pk):cN nv bt it tg (λ_=>M.ret OL) b δ β=My (.ok (.lst (d.flatMap o)),β):=by
 refine qi a ?_ k;have f:∀d:List e,(∀x∈d,∃c,tg (u x) (jm nv bt δ)=My c/\b c β=My (.ok (o x),β))->mx tg (λ_=>M.ret OL) b (d.map u) (jm nv bt δ) β=My (.ok (d.flatMap o),β):=by
  intro d
  induction d with
  |nil=>intro _;rfl
  |cons x d g=>
   intro h;obtain⟨c,l,m⟩:=h x OU;have n:=g λy i=>h y (OO _ i);rw[Pc,mx];simp only[l,M.bind,M.ret,reduceIte,m,n,QI]
 exact f d j
theorem zy{e:Type}{f:FD}{δ:Dn}{β:Bg}(d:List e)(u v:e->D)(a:it δ β=My (.ok (d.map u),β))
  (b:∀x∈d,∃c,tg (u x) δ=My c/\f c β=My (.ok (v x),β)):Zy it tg (λ_=>M.ret OL) (j2 f) δ β=My (.ok (d.map v),β):=by
 have g:∀d:List e,(∀x∈d,∃c,tg (u x) δ=My c/\f c β=My (.ok (v x),β))->mx tg (λ_=>M.ret OL) (j2 f) (d.map u) δ β=My (.ok (d.map v),β):=by
  intro d
  induction d with
  |nil=>intro _;rfl
  |cons x d i=>
   intro h;obtain⟨c,j,k⟩:=h x OU;have l:=i λy t=>h y (OO _ t);rw[Pc,mx];simp only[j,M.bind,M.ret,reduceIte,j2,k,l,Pc,Ta,RO]
 unfold Zy;rw[M.bind_ok a];exact g d b
theorem ir{e a:Type}(u:e->D)(v:a->D):∀(c:List e) (d:List a),dz (c.map u) (d.map v)=(c.zip d).map λp=>D.tup [u p.1,v p.2]
 |[],d=>by simp[dz]
 |x::c,[]=>by simp[dz]
 |x::c,y::d=>by simp[dz,ir u v c d]
theorem uO{c:a0b}{k:Nat}:nF c (My (k:Int)) OI=c.drop k:=by
 unfold nF;rw[HT.sIx_none,HT.sIx_nat];by_cases h:k<=c.length
 .rw[show SC k c.length=k by lia]
  rw[QJ (by rw[Sy];exact OW _)]
 .rw[SG (by lia),SG (by lia)]
  simp
theorem qr{f g:FD}{δ:Dn}{β:Bg}(a:f δ β=My (.ok (.lst j),β))(b:g δ β=My (.ok (.int k),β)):fSl f (My g) OI δ β=My (.ok (.lst (nF j (My k) OI)),β):=by
 unfold fSl rW;simp only[M.bind,a,b,M.ret,M.ofO,BG,slD]
theorem qm{c d:a0b}(h:c.length+d.length<=1000):eZ (.lst c) (.lst d)=My (.lst (c++d)):=by
 unfold eZ;simp only;rw[OZ (bn h)]
def jK:a0b->a0g->Prop
 |[],[]=>True
 | .int i::ds,.int j _::vs=>i=j/\jK ds vs
 | .str x::ds,.str y _::vs=>x=y/\jK ds vs
 | .bl x::ds,.bool y::vs=>x=y/\jK ds vs
 | .non::ds,.none::vs=>jK ds vs
 |_,_=>False
theorem gH{K:Pl}:∀{ds:a0b} {vs:a0g},jK ds vs->∃c,aw c vs/\∀F H,ba K F H ds c
 |[],[],_=>⟨[],.nil,λ_ _=>ba.nil⟩
 | .int i::ds,.int j t::vs,h=>by
  obtain⟨e,h⟩:=h;subst e;obtain⟨c,a,b⟩:=gH (K:=K) h;exact⟨.int i::c,.cons ⟨t,rfl⟩ a,λF H=>ba.cons rfl (b F H)⟩
 | .str i::ds,.str j t::vs,h=>by
  obtain⟨e,h⟩:=h;subst e;obtain⟨c,a,b⟩:=gH (K:=K) h;exact⟨.str i::c,.cons ⟨t,rfl⟩ a,λF H=>ba.cons rfl (b F H)⟩
 | .bl i::ds,.bool j::vs,h=>by
  obtain⟨e,h⟩:=h;subst e;obtain⟨c,a,b⟩:=gH (K:=K) h;exact⟨.bl i::c,.cons rfl a,λF H=>ba.cons rfl (b F H)⟩
 | .non::ds,.none::vs,h=>by
  obtain⟨c,a,b⟩:=gH (K:=K) (ds:=ds) (vs:=vs) h;exact⟨.non::c,.cons rfl a,λF H=>ba.cons rfl (b F H)⟩
def ZR(K:Pl)(d:D)(u:OP):Prop:=∃v,aJ v u/\∀F H,bw K F H d v
theorem lQ{K:Pl}{i:Int}{t:Tok}:ZR K (.int i) (.int i t):=⟨.int i,⟨t,rfl⟩,λ_ _=>rfl⟩
theorem Ji{K:Pl}{q3:a0H}(a:K.lookup p=My ⟨q1,q2,.seq q3 q4,q5⟩)(b:q1= .type "tuple")(j:q3.size<=Pk)(k:jK n q3.toList):ZR K (.tup n) (.ref p):=by
 obtain⟨c,l,m⟩:=gH (K:=K) k;exact⟨.ref p,rfl,λF H=>⟨p,c,rfl,.inr ⟨_,q3,q4,a,b,rfl,j,l⟩,m F H⟩⟩
theorem pp{K:Pl}{mg:a0j}{x:PZ}{d:D}{u:OP}(h:mg x=My u)(v:ZR K d u):mD K mg x d:=let ⟨w,h1,h2⟩:=v;⟨u,w,h,h1,h2⟩
theorem Mv{K:Pl}{d:a0i}{us:a0g}(n:Nat)(l:d.length=n+us.length)(b:∀(s:OV) (c:a0g),K.In s.heap->c.length=n->Wl s m ⟨c,[]⟩ (d.zip (c++us)))(h:∃c,aw c us/\∀F H,ba K F H dd c):jg K m d dd:=
 let ⟨c,h1,h2⟩:=h
 ⟨us,c,λs a j k=>b s a j (by rw[O1]at k;lia),h1,h2⟩
theorem Mr{K:Pl}:∃c,aw c []/\∀F H,ba K F H [] c:=⟨[],.nil,λ_ _=>ba.nil⟩
theorem Kk{K:Pl}{d:D}{u:OP}(v:ZR K d u)(h:∃c,aw c us/\∀F H,ba K F H l c):∃c,aw c (u::us)/\∀F H,ba K F H (d::l) c:=by
 obtain⟨w,a,b⟩:=v;obtain⟨c,j,k⟩:=h;exact⟨w::c,.cons a j,λF H=>ba.cons (b F H) (k F H)⟩
inductive z_ (K:Pl):List (Sr D)->List (Sr OP)->Prop where
 |nil:z_ K [] []
 |kw {j:Nat} {a:List (Sr D)} {c:List (Sr OP)}:z_ K a c->z_ K (.kw j::a) (.kw j::c)
 |df {x:D} {y:OP} {a:List (Sr D)} {c:List (Sr OP)}:ZR K x y->z_ K a c->z_ K (.df x::a) (.df y::c)
theorem z_.mid{K:Pl}:∀{a:List (Sr D)} {c:List (Sr OP)},z_ K a c->∃b:List (Sr V),ko aJ b c/\ko (λd v=>∀F H,bw K F H d v) a b
 |_,_,.nil=>⟨[],.nil,.nil⟩
 |_,_,.kw (j:=j) h=>let ⟨b,h1,h2⟩:=z_.mid h;⟨.kw j::b,.kw h1,.kw h2⟩
 |_,_,.df v h=>let ⟨b,h1,h2⟩:=z_.mid h;let ⟨w,g1,g2⟩:=v;⟨.df w::b,.df g1 h1,.df g2 h2⟩
theorem Oi{K:Pl}{d a:a0i}{c:List (Sr D)}{sv:List (Sr OP)}(h:z_ K c sv)(k:d.length=n+c.length)(l:0<d.length)(b:∀(s:OV) (us j:a0g),K.In s.heap->us.length=n->j.length=a.length->Wl s m ⟨us,a.zip j⟩ (d.zip (us++sv.map (Sr.pick .none j)))):wh K m d a n c:=
 ⟨let ⟨sx,h1,h2⟩:=h.mid;⟨sv,sx,h1,h2,b⟩,k,l⟩
variable{X:Cx}{E:a0s}{K:Pl}{a:QH}
theorem ba.erase:∀{ds:a0b} {xs:a0k} (i:Nat),ba K F H ds xs->ba K F H (ds.eraseIdx i) (xs.eraseIdx i)
 |[],xs,i,h=>by have q:xs=[]:=h;subst q;simp;rfl
 |c::ds,xs,0,h=>by
  obtain⟨y,r,q,b,a⟩:=h;subst q;exact a
 |c::ds,xs,i+1,h=>by
  obtain⟨y,r,q,b,a⟩:=h;subst q;exact⟨y,r.eraseIdx i,rfl,b,ba.erase i a⟩
end
section
variable{h:G}{δ:Ds}{β c b a:Bg}{Q:a0y}{i:Nat}{l k j:FD}{fl:FL}{d o m:D}{ds:a0b}{e:a0Z}
theorem NA{δ:Dn}{β c:Bg}(a:t δ β=My (.ok OL,c))(b:f δ c=My r):Zw t f g δ β=My r:=by
 unfold Zw M.bind;rw[a];exact b
theorem NB{δ:Dn}{β c:Bg}(a:t δ β=My (.ok OQ,c))(b:g δ c=My r):Zw t f g δ β=My r:=by
 unfold Zw M.bind;rw[a];exact b
theorem wy{d:D}{δ:Dn}{β:Bg}(e:δ.getD n OI=My d):ag n δ β=My (.ok d,β):=by unfold ag;rw[e];rfl
end
section
variable{β β1 a:Bg}{f g h:FD}{δ:Dn}{x y z:Int}
theorem oU{K:Pl}{f:PZ}:∀{w:a0i} {y:a0b} {g:a0k},ba K F H y g->(w.zip y).lookup f=My d->∃v,(w.zip g).lookup f=My v/\bw K F H d v
 |[],y,g,h,e=>by simp at e
 |n::w,[],g,h,e=>by simp at e
 |n::w,c::y,g,h,e=>by
  obtain⟨x,r,q,a,b⟩:=h;subst q;rw[Rj,Vv]at e⊢;split at e
  .rename_i z
   cases e;exact⟨x,rfl,a⟩
  .rename_i z
   exact oU b e
theorem qM{w:Type}:∀{f:a0i} {g:List w},m∉f->(f.zip g).lookup m=OI
 |[],g,_=>by simp
 |n::f,[],_=>by simp
 |n::f,x::g,h=>by
  rw[Rj,Vv];have a:m≠n:=λz=>h (by rw[z];exact OU);have b:m∉f:=λz=>h (OO _ z);rw[show(m==n)=OQ by simpa using a];exact qM b
theorem jg.nil{K:Pl}(b:aC K c ps []):jg K c ps []:=⟨[],[],b,.nil,λ_ _=>ba.nil⟩
end
section
variable{X:Cx}{E:a0s}{o e:Expr}{es:List Expr}{P p h c:Ub}{x m:PZ}{k n:Nat}{f C:OM}{fd:Py}{ps ks:a0i}{aa:List XI}
noncomputable def xP(C:OM)(f:PZ):D->a0l
 | .obj C' ns ds=>if C'=C then(ns.zip ds).lookup f else OI
 |_=>OI
theorem HN{f:PZ}(c:tx X.K C)(n:dS X.K C f)(j:PE X e (tV X.K g E))(l:TR e f X.env (Qu e X.env)=Qu e X.env:=by rfl):PE X (.Attribute e f P) (tV X.K (f1 (xP C f) g) E):=
 (Lq j l).imp λL H Q i=>i_ i λF o p fr q h=>⟨F,o,p,fr,q,(run.bind (R:=bw X.K F) h).mono λv r i=>by
  obtain⟨d,x,t,m,D⟩:=i;obtain⟨G,b,k⟩:=run.ofO D;cases d<;>first|cases b|skip
  rename_i u M S;unfold xP at b;simp only at b;split at b
  .rename_i z
   subst z;unfold bw at m;obtain⟨a,y,V,rfl,N,A,O,B⟩:=m;obtain⟨w,I,J⟩:=oU B b;exact⟨a,u,y,_,w,rfl,A,c,n,I,k w r (To.refl t.fr) J⟩
  .cases b⟩
def rX{e:Type}(C:OM)(m:PZ)(a:a0b->M e)(b:FD)(g:FL)(c:a0b):Dn->M e:=λf=>M.bind (b f) λd=>match d with
 | .obj C' ns _=>if C'=C/\m∉ns then M.bind (g f) λh=>a (d::(h++c))else M.fail
 |_=>M.fail
def X_{c:Type}(K:Pl)(T:Fx->Hp->Hp->c->V->Prop)(n:Nat)(m:a0b->M c):Sp:=λe H Q E=>e.length=n/\∃F f h,Fr F H h/\ba K F H f e/\run (T F H) F (λ_=>E) [] (m f) H Q h
theorem DC{x:Type}{T:Fx->Hp->Hp->x->V->Prop}{O:a0b->M x}{U:FD}{g:FL}{j:a0b}{K:Pl}{b:a0k}{l:St}{H:Hp}{Q:VK}(hT:∀{F H q u f d v},To F H q f->T F q u d v->T F H u d v)(P:∀F H,ba K F H j b)(hn:∀o f r c,g o f=My (.ok r,c)->r.length+j.length+1=n)(h:∃F o f,Fr F H f/\hO K F H o l/\run (T F H) F E l (rX C m O U g j o) H Q f):HS C m (X_ K T n O) b E (tV K U E) (hU K g E) l H Q:=by
 obtain⟨F,o,f,fr,W,h⟩:=h;refine⟨F,o,f,fr,W,(run.bind (R:=bw K F) h).mono λv q h_=>lv h_ λd p t D w=>?_⟩;have k:∀{y:M x},y=M.fail->run (T F H) F E l y q Q p->False:=λ{y} e r=>by
  obtain⟨r,c,Y,_⟩:=r;rw[e]at Y;cases Y
 cases d<;>first|exact(k rfl w).elim|skip
 rename_i C' ns ds;simp only at w;split at w
 .rename_i z
  obtain⟨rfl,hm⟩:=z;have A:=D;unfold bw at D;obtain⟨a,dx,xs,rfl,h1,h2,h3,B⟩:=D;refine⟨a,dx,_,rfl,h2,qM hm,F,o,p,t.fr,W.tr (t.tr fr),?_⟩;obtain⟨S,I,Z,X⟩:=run.bind (R:=ba K F) w;refine⟨S,I,Z,?_⟩;cases S with
  |error C=>exact X
  |ok as=>
   intro vs J t2 i;obtain⟨d',G,t3,L,r3⟩:=X vs J t2 i;have hl:=hn _ _ _ _ Z;have hz:=(P F J).length;refine⟨by rw[Pb,O1,<-i.length,<-hz,hl],F,_::(d'++j),G,t3.fr,ba.cons (bw.tr (t3.tr t.fr) _ _ A) (ba.append L (P F J)),?_⟩;obtain⟨s,N,e4,B⟩:=r3;refine⟨s,N,e4,?_⟩;cases s with
   |error C=>exact B
   |ok d=>exact λv u t5 hv=>B v u t5 (hT (t.trans t3) hv)
 .exact(k rfl w).elim
structure ToX (F:Fx) (x:OM) (H H':Hp) (β':Bg):Prop where
 kp:∀a o,a≠x->H a=My o->(∀b l,F.bg=My (b,l)->a≠b/\a≠l)->H' a=My o
 fr:Fr F H' β'
def Z4(K:Pl)(C:OM)(h:a0i)(n:Nat)(g:a0b->M a0b):Sp:=λo H Q E=>∃x e F k m d,o= .ref x::e/\e.length=n/\Fr F H m/\F.A x/\(∀b l,F.bg=My (b,l)->x≠b/\x≠l)/\H x=My (.ins C d [])/\ba K F H k e/\
 ∃r a,g k m=My (r,a)/\match r with
  | .ok es=>∀c f,ToX F x H c a->c x=My (.ins C d (h.zip f))->h.length=f.length->ba K F c es f->Q .non c
  | .error Ce=>∀c,ToX F x H c a->E (.ref Ce) OI c
variable{m:a0i}
theorem DD{K:Pl}{f:a0k}(fr:Fr F H2 s)(O:f.length=n)(G:ba K F H2 ds f)(r:run (bw K F) F E σ (M.bind (mi ds) λw=>M.ret (.obj C m w)) H2 Q s):
  ∀x c,H2 x=OI->H2 c=OI->c≠x->Z4 K C m n mi (.ref x::f) (upd (upd H2 c (.own x)) x (.ins C c [])) (λv R=>v= .non/\Q (.ref x) R) (E σ):=by
 intro x c k H S;have I:¬F.A x:=fr.fresh k;have e:bM H2 (upd (upd H2 c (.own x)) x (.ins C c [])):=λa o h=>by
  rw[bb (aB h k),bb (aB h H)];exact h
 have t:=fr.same e;have J:Fr (F.but x) (upd (upd H2 c (.own x)) x (.ins C c [])) s:=⟨λa ha z=>(by
  rcases ha with ha|ha
  .exact t.fr.occ a ha z
  .subst ha;rw[ao]at z;cases z),λb l q=>let ⟨z1,z2,z3⟩:=fr.bgA b l q;⟨.inl z1,.inl z2,z3⟩,t.fr.bag⟩
 have T:∀b l,F.bg=My (b,l)->x≠b/\x≠l:=λb l q=>⟨λz=>I (z▸(fr.bgA b l q).1),λz=>I (z▸(fr.bgA b l q).2.1)⟩;have L:Tr F H2 (F.but x) (upd (upd H2 c (.own x)) x (.ins C c [])):=⟨λa U W z=>by
  rcases z with z|z
  .exact U z
  .subst z;exact W k,λa o _ h=>e a o h,rfl⟩
 obtain⟨Y,d,g,h⟩:=r;refine⟨x,f,F.but x,ds,s,c,rfl,O,J,.inr rfl,T,ao,ba.tr L _ _ G,?_⟩;have u:∀{i:Hp} {d:Bg},ToX (F.but x) x (upd (upd H2 c (.own x)) x (.ins C c [])) i d->To F H2 i d:=λ{i d} j=>⟨λa o ha n=>j.kp a o (aB ha k) (e a o ha) n,⟨λa ha=>j.fr.occ a (.inl ha),fr.bgA,j.fr.bag⟩⟩;cases q:mi ds s with
 |none=>unfold M.bind at g;rw[q]at g;cases g
 |some z=>
  obtain⟨D,p⟩:=z;refine⟨D,p,rfl,?_⟩;cases D with
  |error Z=>
   rw[M.bind_err q]at g;cases g;exact λi j=>h i (u j)
  |ok w=>
   rw[M.bind_ok q]at g;cases g;refine λi P j N y B=>⟨rfl,h (.ref x) i (u j) ⟨x,c,P,rfl,I,N,y,ba.tr Fx.tr_of _ _ B⟩⟩
def AN(C:OM)(m:a0i)(a:a0b->M a0b)(g b:FL)(c:List (Sr D)):FD:=λe=>M.bind (g e) λf=>M.bind (b e) λks=>M.bind (a (f++c.map (Sr.pick .non ks))) λh=>M.ret (.obj C m h)
def KG(C:OM)(e:Sp)(d:a0k->a0k->a0k)(E:a0s)(t g:TA):TE:=λb H Q=>t b H λf h=>g b h λi c=>∀x a,c x=OI->c a=OI->a≠x->
 e (d (.ref x::f) i) (upd (upd c a (.own x)) x (.ins C a [])) (λv j=>v= .non/\Q (.ref x) j) (E b)
theorem CS(M:Mk X.K C f)(F:ee X.prog X.w X.K X.mg X.base CX k f fd ps sp)(U:dt (k+1) X.A)(Y:Gl X x)(n:X.mg x=My (.ref C))(O:w_ X.K fd ps ks g gV)(o:cM CX X E)
  (D:PA X (e::es) t) (B:PK X aa tk) (i:(Uo P (Sv aa X.env)).all (·.1.isSome)=OL:=by rfl) (J:(Uo P (Sv aa X.env)).filterMap (·.1)=ks:=by rfl)
  (L:(x==("__debug__":PZ))=OQ:=by decide) (Z:Pe (e::es) X.env=(OQ,Qu e X.env)::Pe es X.env:=by rfl)
  (N:((SL P (Pe (e::es) X.env)).any (·.1)||(Uo P (Sv aa X.env)).any (·.1.isNone))=OQ:=by rfl):
  PE X (.Call (.Name x p) (e::es) aa P) (KG C sp gV E t tk):=by
 intro a s l H Q I h;refine Vs (pZ I Y n ?_ L);refine PySem.W.callWith_KW (h₀:=X.base) I.ok.mod.kin M.kp i (d5 (D P a s l H _ I h) λm G ⟨vs,S,z,r,q⟩=>?_) N Z;refine d5 (B P a G l S _ z q) λd c ⟨zs,H2,j,rz,q2⟩=>⟨j.kIn,?_⟩;rw[J];have R:=q2 (c.heap.objs.size+1) c.heap.objs.size (j.hok.fresh (Vo _)) (j.hok.fresh (OW _)) (Qc (Um _));have y:=b_.made (C:=C) j;have T:=O.rel (.cons (show aJ (V.ref (c.heap.objs.size+1)) (Pa (c.heap.objs.size+1))from rfl) r) rz;have hl:(g (Pa (c.heap.objs.size+1)::m) d).length=ps.length:=by rw[<-T.length];exact F.len _ _ _ _ R
 refine Yh (DE (f:=f) j.kIn M.makes M.init (beq_iff_eq.mp M.fn) (Uq (F.run _ X.stack _ _ ⟨Pa (c.heap.objs.size+1)::m,ks.zip d⟩ (g (Pa (c.heap.objs.size+1)::m) d) _ _ (E l) (U.make C m (ks.zip d))
  (y.env0.make C m (ks.zip d)) (O.to _ (Pa (c.heap.objs.size+1)::m) d y.kIn hl) T R) λr s' b=>?_))
 cases r with
 |error e=>exact o a l _ _ e s' y b
 |ok fl=>
  cases fl with
  |ret u=>
   obtain⟨v,H',I4,rv,ev,q4⟩:=y.after b;subst ev;exact⟨rv,⟨V.ref (c.heap.objs.size+1),H',I4,rfl,q4⟩⟩
  |next=>exact Rp b
  |brk=>exact Rp b
  |cont=>exact Rp b
theorem Jj{o:List (Sr D)}(Z:Mk X.K C f)(G:ee X.prog X.w X.K X.mg X.base (fx X.prog X.w) k f fd ps (Z4 X.K C m n mi))(hr:dt (k+1) X.A)(hg:Gl X x)(hm:X.mg x=My (.ref C))(hb:wh X.K fd ps ks (n1+1) o)(hx:cM (fx X.prog X.w) X E)
  (ha:PA X (e::es) (hU X.K g E)) (c:PK X aa (hU X.K gk E)) (hn:∀M S r a,g M S=My (.ok r,a)->r.length=n1) (d:∀M S r a,gk M S=My (.ok r,a)->r.length=ks.length) (h3:n1+o.length=n)
  (b:(Uo P (Sv aa X.env)).all (·.1.isSome)=OL:=by rfl) (h:(Uo P (Sv aa X.env)).filterMap (·.1)=ks:=by rfl)
  (i:(x==("__debug__":PZ))=OQ:=by decide) (he:Pe (e::es) X.env=(OQ,Qu e X.env)::Pe es X.env:=by rfl)
  (j:((SL P (Pe (e::es) X.env)).any (·.1)||(Uo P (Sv aa X.env)).any (·.1.isNone))=OQ:=by rfl):
  PE X (.Call (.Name x p) (e::es) aa P) (tV X.K (AN C m mi g gk o) E):=by
 obtain⟨sv,sx,rd,kb⟩:=hb.kb;refine(CS Z G hr hg hm kb hx ha c b h i he j).imp λσ H Q h_=>i_ h_ λF M S fr I r=>⟨F,M,S,fr,I,?_⟩;obtain⟨r0,l,J,L⟩:=run.bind (R:=ba X.K F) r;refine⟨r0,l,J,?_⟩;cases r0 with
 |error C=>exact L
 |ok as=>
  intro s H1 t z;obtain⟨d',ab,t1,q,r1⟩:=L s H1 t z;refine⟨F,M,ab,t1.fr,I.tr (t1.tr fr),?_⟩;obtain⟨N,ac,O,T⟩:=run.bind (R:=ba X.K F) r1;refine⟨N,ac,O,?_⟩;cases N with
  |error C=>exact T
  |ok bs=>
   intro u U t2 W;obtain⟨d2,ad,t3,v,r3⟩:=T u U t2 W;have Y:=hn _ _ _ _ J;have l2:=d _ _ _ _ O;have B:ba X.K F U d' s:=ba.tr (t3.tr t1.fr) _ _ q;intro y dx;have g1:gK V.non (n1+1) ks.length sx (.ref y::s) u= .ref y::(s++sx.map (Sr.pick .non u)):=OZ ⟨by rw[Pb,<-z.length,Y],by rw[<-W.length,l2]⟩;rw[g1];exact DD t3.fr (by rw[O1,OH,<-z.length,Y,<-rd.len,h3]) (ba.append B (ko.den v rd)) r3 y dx
abbrev IP:=Ds->a0b->Bg->Option (Except OM a0b×Bg)
noncomputable def IT:IP:=λ_ c e=>My (.ok c,e)
noncomputable def mj(g:G)(a:IP):IP:=λe c f=>match g e f with
 |some (.nx δ1,β1)=>match e[0]?,δ1[0]? with
  |some (My (Sl.sh (D.adr x))),My (My (Sl.sh (D.adr y)))=>if x=y then a δ1 c β1 else OI
  |_,_=>OI
 |some (.ex C _,β1)=>My (.error C,β1)
 |_=>OI
def i9(f:FD)(a:IP):IP:=λe c h=>match f (vw e) h with
 |some (.ok d,β1)=>a e (c++[d]) β1
 |some (.error C,β1)=>My (.error C,β1)
 |none=>OI
structure mY (x:OM) (B:Ow) (H:Hp) (B':Ow) (H':Hp):Prop where
 kp:∀a o,a≠x->H a=My o->(B a=OI\/B a=My 0)->H' a=My o
 tg:∀a,B a=My 0\/B a=My 1->B' a=B a
 nn:∀a o,a≠x->H a=My o->B a=OI->B' a=OI
 al:∀a,H a≠OI->H' a≠OI
end
theorem f_.x{x:OM}{B b:Ow}{H c:Hp}(s:f_ B H b c):mY x B H b c:=⟨λa o _=>s.kp a o,s.tg,λa o _=>s.nn a o,s.al⟩
theorem mY.trans(a:mY x B H B1 H1)(b:mY x B1 H1 B2 H2):mY x B H B2 H2:=by
 refine⟨λc o w h n=>b.kp c o w (a.kp c o w h n) ?_,λc h=>?_,λc o w h n=>b.nn c o w (a.kp c o w h (.inl n)) (a.nn c o w h n),λc h=>b.al c (a.al c h)⟩
 .rcases n with n|n
  .exact .inl (a.nn c o w h n)
  .exact .inr ((a.tg c (.inl n)).trans n)
 .have e:=a.tg c h
  rw[<-e]at h;exact(b.tg c h).trans e
def jL(K:Pl)(D:a0m)(E:a0s)(Dn:nS)(B:Ow)(H:Hp)(x C e:OM)(w:a0i)(r:Except OM a0b)(d:Bg):Prop:=match r with
 | .ok ds=>∀b c a G,mY x B H c a->Fr (d4 c D) a d->a x=My (.ins C e (w.zip G))->w.length=G.length->ba K (d4 c D) a ds G->Dn.nx b a
 | .error Ce=>∀b c a,mY x B H c a->Fr (d4 c D) a d->E b (.ref Ce) OI a
theorem jL.pre{K:Pl}{E:a0s}{Dn:nS}(s:mY x B H B1 H1)(h:jL K f E Dn B H x C g all r e):jL K f E Dn B1 H1 x C g all r e:=by
 cases r with
 |ok D=>exact λa b c w t=>h a b c w (s.trans t)
 |error d=>exact λa b c t=>h a b c (s.trans t)
def tI(K:Pl)(D:Hp)(C:OM)(a w:a0i)(f:IP)(E:a0s):TS:=λDn g H=>∃B G M P x e b c r d,ej K D B G H M P g/\M[0]?=My (My (.sh (.adr x)))/\B x=My 0/\H x=My (.ins C e (a.zip b))/\a.length=b.length/\ba K (d4 B G) H c b/\f M c P=My (r,d)/\jL K G E Dn B H x C e (a++w) r d
theorem qJ:∀{w:a0i} {D:a0k},w.length=D.length->f∉w->dB f y (w.zip D)=(w++[f]).zip (D++[y])
 |[],[],_,_=>rfl
 |n::w,v::D,h,hf=>by
  have a:¬n=f:=λz=>hf (by rw[z];exact OU);show(if n=f then(n,y)::w.zip D else(n,v)::dB f y (w.zip D))=_;rw[OY a,qJ (by simpa using h) λz=>hf (OO _ z)];rfl
 |[],_::_,h,_=>by simp at h
 |_::_,[],h,_=>by simp at h
theorem ej.upd0{K:Pl}(w:ej K H₀ B t H A C F)(D:B x=My 0):ej K H₀ B t (upd H x o) A C F/\mY x B H B (upd H x o):=by
 have E:∀c,H c≠OI->upd H x o c≠OI:=λc a=>by
  by_cases z:c=x
  .subst z;rw[ao];simp
  .rw[bb z];exact a
 have f:∀b l,t=My (b,l)->b≠x/\l≠x:=λb l e=>by
  obtain⟨b1,b2⟩:=w.bgt b l e;exact⟨λz=>(by rw[z,D]at b1;cases b1),λz=>(by rw[z,D]at b2;cases b2)⟩
 have G:Tr (d4 B t) H (d4 B t) (upd H x o):=⟨λ_ h _=>h,λc u a e=>by
  rw[bb]
  .exact e
  .intro z;subst z;exact a (by show B c≠OI;rw[D];simp),rfl⟩
 refine⟨⟨⟨λc a=>E c (w.fr.occ c a),w.fr.bgA,λb l e=>?_⟩,w.bgt,w.len,λc a=>E c (w.cov c a),w.new,λc k a=>?_,λi s e=>?_⟩,λc u M h _=>by rw[bb M];exact h,λ_ _=>rfl,λ_ _ _ _ n=>n,E⟩
 .obtain⟨g,j⟩:=w.fr.bag b l e
  obtain⟨m,p⟩:=f b l e;exact⟨by rw[bb m];exact g,by rw[bb p];exact j⟩
 .exact(w.lst c k a).imp λo h=>by rw[bb];exact h;intro z;subst z;rw[D]at a;cases a
 .obtain⟨v,q,r⟩:=w.tell i s e
  exact⟨v,q,r.tr G λc d=>⟨d,λo z=>(bb λy=>by subst y;rw[D]at d;cases d).trans z⟩⟩
section
variable{X:Cx}{E:a0s}{st:QH}{aa:a0R}{C:OM}{w P:a0i}{ip:IP}
theorem Oo:PSs X [] (tI X.K X.H₀ C w [] IT E):=pS.imp λDn b H c=>by
 obtain⟨B,G,M,P,x,i,a,d,r,f,ok,j,S,g,h,D,e,k⟩:=c;cases e;rw[PN]at k;exact k b B H a (f_.refl B H).x ok.fr g h D
theorem IU(l:PS X st (tG X.K X.H₀ g E))(m:PSs X aa (tI X.K X.H₀ C w P ip E)):PSs X (st::aa) (tI X.K X.H₀ C w P (mj g ip) E):=(cS l m).imp λDn v H n=>by
 obtain⟨B,D,M,S,x,o,c,d,r,f,ok,p,G,q,t,V,e,k⟩:=n;unfold mj at e;split at e
 .rename_i δ1 β1 h
  split at e
  .rename_i y A q1 q2
   split at e
   .rename_i z
    subst z;rw[p]at q1;cases q1;refine⟨B,D,M,S,.nx δ1,β1,ok,h,λb i j s a=>?_⟩;exact⟨i,D,δ1,β1,x,o,c,d,r,f,a,q2,(s.tg x (.inl G)).trans G,s.kp x _ q (.inr G),t,ba.tr s.tr _ _ V,e,jL.pre s.x k⟩
   .cases e
  .cases e
 .rename_i u δ1 β1 h
  cases e;exact⟨B,D,M,S,.ex u δ1,_,ok,h,λb i j s a=>k b i j s.x a.fr⟩
 .cases e
theorem rO(c:tx X.K C)(n:dS X.K C f)(N:f∉w)(I:w.length<1000)(O:PS X st (K5 X.K (jh 0) (tV X.K fv E) f))(Q:PSs X aa (tI X.K X.H₀ C (w++[f]) P ip E)):PSs X (st::aa) (tI X.K X.H₀ C w (f::P) (i9 fv ip) E):=(cS O Q).imp λDn R H T=>by
 obtain⟨B,D,M,S,x,l,g,p,r,q,ok,J,G,U,L,V,e,k⟩:=T;refine⟨d4 B D,vw M,S,ok.fr,ok.view,?_⟩;unfold i9 at e;split at e
 .rename_i d β1 t
  refine⟨.ok d,β1,t,λy m t1 s=>?_⟩;obtain⟨b,i⟩:=ok.to rfl t1;obtain⟨v,W,Y⟩:=b.tell 0 _ J;have Z:v= .ref x:=Y;subst Z;have A:=i.kp x _ U (.inr G);refine⟨_,W,x,C,l,_,rfl,A,c,n,?_,?_⟩
  .rw[Tw];lia
  obtain⟨F,s2⟩:=b.upd0 (o:= .ins C l (dB f y (w.zip g))) G;have j:Tr (d4 B D) m (d4 B D) (upd m x (.ins C l (dB f y (w.zip g)))):=⟨λ_ h _=>h,λa u ha e=>by
   rw[bb]
   .exact e
   .intro z;subst z;exact ha (by show B a≠OI;rw[G];simp),rfl⟩
  refine⟨B,D,M,β1,x,l,g++[y],p++[d],r,q,F,J,G,by rw[ao,qJ L N],by simp[L],ba.append (ba.tr j _ _ (ba.tr i.tr _ _ V)) (ba.cons (bw.tr j _ _ s) ba.nil),e,?_⟩;rw[O3];exact jL.pre (i.x.trans s2) k
 .rename_i Ce β1 t
  cases e;refine⟨.error Ce,_,t,λm t1=>?_⟩;obtain⟨b,i⟩:=ok.to rfl t1;exact k R B m i.x b.fr
 .cases e
end
open Classical in
def ml(m:Nat)(a:IP):a0b->M a0b:=λw D=>if h:∃r,∀x,a (lr m (.adr x::w)) [] D=My r then My h.choose else OI
theorem EC(h:∀x,a (lr m (.adr x::b)) [] c=My r):ml m a b c=My r:=by
 have w:∃r,∀x,a (lr m (.adr x::b)) [] c=My r:=⟨r,h⟩;unfold ml;rw[Xw w];have:=w.choose_spec 0;rw[h 0]at this;exact this.symm
theorem AD(h:ml m a b c=My r):∀x,a (lr m (.adr x::b)) [] c=My r:=by
 unfold ml at h;split at h
 .rename_i hx
  have:=hx.choose_spec;cases h;exact this
 .cases h
section
variable{P:PM}{w:P0}{K:Pl}{mg:a0j}{aa:Qt}
theorem Kh{st:QH}{N ps G:a0i}(n m:Nat)(ip:IP)(F:c_ K x qual st f fd)(S:br N ps (ah st))(O:ps.length=n+1)(R:N.length=m)
  (p:∀(i:OP) (A:P7) (D:a0B) (s:OV) (H:Hp) (E:XK),dt k (A.deeper (T8 qual (ah st) s.heap.objs.size f i))->
   PSs (eW (fx P w) P w K mg aa N qual (ah st) f i A D s H E) (cf st) (tI K H C [] G ip (λ_=>E))):ee P w K mg aa (fx P w) (k+1) f fd ps (Z4 K C G n (ml m ip)):=by
 subst R;refine F.okE S (λvs H Q E h=>?_) λi A D s H vs Q E hr h=>?_
 .obtain⟨y,M,j,ds,β,dx,rfl,hl,_⟩:=h
  rw[Pb,hl,O]
 obtain⟨y,M,j,ds,β,dx,rfl,hl,fr,T,nb,hH,hd,r,d,e,h⟩:=h;refine⟨_,p i A D s H E hr,?_⟩;have U:ba K j H (.adr y::ds) (.ref y::M):=ba.cons rfl hd;obtain⟨B,ok,L,h1,hn⟩:=oh (N:=N) fr U;have hy:B y=My 0:=by
  rcases L y T with z|z
  .exact z
  .obtain⟨b,l,q,w⟩:=h1 y z
   obtain⟨W,X⟩:=nb b l q;rcases w with w|w
   .exact Pp w W
   .exact Pp w X
 have v:∀{u:Ow} {g:Hp} {d:Bg},mY y B H u g->Fr (d4 u j.bg) g d->ToX j y H g d/\Tr (d4 u j.bg) g j g:=λ{u g d} s c=>by
  have hs:∀a,j.A a->u a≠OI:=λa V=>by
   rw[s.tg a (L a V)];rcases L a V with z|z<;>rw[z]<;>simp
  refine⟨⟨λa o ne V n=>s.kp a o ne V ?_,λa V=>c.occ a (hs a V),λb l e=>fr.bgA b l e,c.bag⟩,λa V _ z=>V (hs a z),λ_ _ _ h=>h,rfl⟩;cases q:B a with
  |none=>exact .inl rfl
  |some t=>
   have:=L a (hn a (by rw[q];simp));rcases this with z|z
   .rw[q]at z;exact .inr z
   .obtain⟨b,l,e,w⟩:=h1 a z
    obtain⟨W,X⟩:=n b l e;rcases w with w|w
    .exact Pp w W
    .exact Pp w X
 refine⟨B,j.bg,lr N.length (.adr y::ds),β,y,dx,[],[],r,d,ok,rfl,hy,hH,rfl,ba.nil,AD e y,?_⟩;cases r with
 |ok es=>
  intro Y u g vs s c Z I J;obtain⟨t1,t2⟩:=v s c;exact h g vs t1 Z I (ba.tr t2 _ _ J)
 |error Ce=>
  intro Y u g s c;exact h g (v s c).1
variable{X:Cx}{E:a0s}{d:QH}
variable{h:G}{b:Ds}{c a:Bg}{Q:a0y}{i:Nat}{f:FD}
end
section
variable{C t:OM}{m:PZ}{e:a0i}{k:a0b->M D}{p:a0b->M a0b}{l:FD}{g s:FL}{n j as q:a0b}{o:List (Sr D)}{δ:Dn}{β β1 β2 b:Bg}{r:Except OM D×Bg}{d:D}{f:PZ}{h:G}{Q:a0y}{i:Nat}{a:Ds}
theorem yf{d:Type}{k:a0b->M d}{r:Except OM d×Bg}(a:l δ β=My (.ok (.obj C e j),β1))(b:g δ β1=My (.ok as,β2))(c:k (.obj C e j::(as++n)) β2=My r)(f:m∉e:=by decide):rX C m k l g n δ β=My r:=by
 unfold rX;rw[M.bind_ok a];simp only[f,not_false_eq_true,and_self,Qq];rw[M.bind_ok b];exact c
theorem HG(a:x δ β=My (.ok (.obj C e j),β1))(b:(e.zip j).lookup f=My d):f1 (xP C f) x δ β=My (.ok d,β1):=by
 refine x_1 a ?_;unfold xP;simp only[Qq];exact b
theorem Kw{fl:FL}(e:fl (vw a) β=My (.ok ds,β1))(k:Gw h (a.set i (My (.own ds))) β1 Q):Gw (aD (rT i fl) h) a β Q:=dh (by unfold rT;simp only[e]) k
theorem z9{g:G}{δ δ1:Ds}{r:Except OM a0b×Bg}(e:g δ β=My (.nx δ1,β1))(a:δ[0]?=My (My (.sh (.adr x))))(b:δ1[0]?=My (My (.sh (.adr x))))(k:c δ1 done β1=My r):mj g c δ done β=My r:=by
 unfold mj;simp only[e,a,b,Qq];exact k
theorem o5{f:FD}{δ:Ds}{d:D}{r:Except OM a0b×Bg}(e:f (vw δ) β=My (.ok d,β1))(k:c δ (done++[d]) β1=My r):i9 f c δ done β=My r:=by
 unfold i9;rw[e];exact k
noncomputable def I_{a:Type}(d:a)(c:Nat)(ac:List (List a)):List (List a):=(OX c).map λj=>ac.map λb=>b.getD j d
abbrev tp(c:Nat)(ac:LI):LI:=I_ 0 c ac
theorem vh{b:Type}{d:b}{r c:Nat}{e:List (List b)}(h:e.length=r):io c r (I_ d c e):=⟨by simp[I_],λf a=>by
 obtain⟨j,_,rfl⟩:=OR.mp a;rw[OH,h]⟩
theorem wX{d:Int}:∀(a:a0e),(OX a.length).map (λj=>a.getD j d)=a:=λa=>by
 refine TX λi=>?_;rw[OS];by_cases h:i<a.length
 .rw[P9 h]
  show My (a.getD i d)=_;rw[O5,ON h];rfl
 .rw[Ud (by simpa using h),Ud (Nat.not_lt.mp ‹_›)];rfl
theorem pM{a:Type}(f g:a->Int):∀l:List a,(l.map λx=>f x+g x).sum=(l.map f).sum+(l.map g).sum
 |[]=>by simp
 |x::l=>by
  simp only[Pc,Pz,pM f g l];lia
theorem mV{a:Type}:∀l:List a,(l.map λ_=>(0:Int)).sum=0
 |[]=>rfl
 |x::l=>by simp only[Pc,Pz,mV l];rfl
theorem yw:∀{ac:LI},(∀row∈ac,row.length=c)->tot (tp c ac)=tot ac
 |[],_=>by
  show((I_ 0 c []).map Rf).sum=0;unfold I_;rw[O0];exact mV (OX c)
 |row::ac,h=>by
  have b:=yw (c:=c) (ac:=ac) λx d=>h x (OO _ d);have a:=h row OU;unfold tot tp I_ at b⊢;rw[O0]at b⊢;have e:(λj=>(Rf ((row::ac).map λrow=>row.getD j 0)))=λj=>row.getD j 0+(ac.map λrow=>row.getD j 0).sum:=by
   funext j;rw[Pc,Pz]
  show((OX c).map λj=>(Rf ((row::ac).map λrow=>row.getD j 0))).sum=_;rw[e,pM,<-a,wX,a,Pc,Pz];congr 1
theorem NK(h:∀d∈u,∀x∈d,0<=x):∀d∈tp c u,∀x∈d,0<=x:=λd a x f=>by
 obtain⟨j,_,rfl⟩:=OR.mp a;obtain⟨q,b,rfl⟩:=OR.mp f;rw[O5];cases e:q[j]? with
 |none=>exact YB 0
 |some y=>exact h q b y (Pd e)
end
end L2.Pu
namespace L2.Pu
section
variable{X:Cx}
variable{a:PM}{w:P0}{A:P7}{E:a0d}{s:OV}{l:OM}{b:Array (Int×Tok)}
variable{K:Pl}
end
end L2.Pu
namespace L2
end L2
namespace L2.Pu
section
variable{X:Cx}{E:a0s}{K:Pl}{f l c:Expr}{e:List Expr}{b:a0P}{a:Scope}{d:Ub}{m j:a0i}{k:a0a}{g:TG}{i:a0Y}
variable{f:QH}{a:Hp}{B:Ow}{g:a0m}{H h:Hp}{d:Ds}{e b:Bg}{c:St}
theorem lU1{us:a0g}(h:us.length=1):∃a,us=[a]:=List.length_eq_one_iff.mp h
theorem lU2{us:a0g}(h:us.length=2):∃c d,us=[c,d]:=by
 obtain⟨a,l,rfl⟩:=Tc h;obtain⟨b,rfl⟩:=lU1 (us:=l) (by simpa using h);exact⟨_,_,rfl⟩
theorem lU3{us:a0g}(h:us.length=3):∃d e f,us=[d,e,f]:=by
 obtain⟨a,l,rfl⟩:=Tc h;obtain⟨b,c,rfl⟩:=lU2 (us:=l) (by simpa using h);exact⟨_,_,_,rfl⟩
theorem lU4{us:a0g}(h:us.length=4):∃e f g i,us=[e,f,g,i]:=by
 obtain⟨a,l,rfl⟩:=Tc h;obtain⟨b,c,d,rfl⟩:=lU3 (us:=l) (by simpa using h);exact⟨_,_,_,_,rfl⟩
end
section
variable{X:Cx}{E:a0s}{e v o u y h:Expr}{t:List Expr}{q p:Ub}{f1 f2 F I d:FD}{g:FL}{k j n:Nat}{f:OM}{B:Py}{z:a0i}{x:PZ}{a:a0b->a0l}{r:a0O}{c T:String}
theorem vv(i:Nat){x:PZ}(b:X.N[i]?=My x:=by rfl)(c:ZQ X.env.scope x:=by first|exact RM rfl|exact Ts (RM rfl)|exact Ts (Ts rfl))(d:(x==("__debug__":PZ))=OQ:=by decide)
  (a:(x==("__classdict__":PZ))=OQ:=by decide):PE X (.Name x q) (tV X.K (ag i) E):=NG i (pv i b c d a)
theorem dq(a:PE X v (tV X.K f1 E))(b:Pe [v] X.env=(OQ,Qu v X.env)::Pe [] X.env:=by rfl):PA X [v] (hU X.K (aa f1 ax) E):=dU a gA b
theorem dv(a:PE X v (tV X.K f1 E))(b:PE X o (tV X.K f2 E))(c:Pe [v,o] X.env=(OQ,Qu v X.env)::Pe [o] X.env:=by rfl)(d:Pe [o] X.env=(OQ,Qu o X.env)::Pe [] X.env:=by rfl):PA X [v,o] (hU X.K (aa f1 (aa f2 ax)) E):=dU a (dq b d) c
theorem pj(a:PE X v (tV X.K f1 E))(b:PE X o (tV X.K f2 E))(c:PE X u (tV X.K F E))(d:Pe [v,o,u] X.env=(OQ,Qu v X.env)::Pe [o,u] X.env:=by rfl)(h:Pe [o,u] X.env=(OQ,Qu o X.env)::Pe [u] X.env:=by rfl)(i:Pe [u] X.env=(OQ,Qu u X.env)::Pe [] X.env:=by rfl):PA X [v,o,u] (hU X.K (aa f1 (aa f2 (aa F ax))) E):=dU a (dv b c h i) d
theorem ss(a:PE X v (tV X.K f1 E))(b:PE X o (tV X.K f2 E))(c:PE X u (tV X.K F E))(d:PE X y (tV X.K I E))(h:Pe [v,o,u,y] X.env=(OQ,Qu v X.env)::Pe [o,u,y] X.env:=by rfl)(i:Pe [o,u,y] X.env=(OQ,Qu o X.env)::Pe [u,y] X.env:=by rfl)(l:Pe [u,y] X.env=(OQ,Qu u X.env)::Pe [y] X.env:=by rfl)(m:Pe [y] X.env=(OQ,Qu y X.env)::Pe [] X.env:=by rfl):PA X [v,o,u,y] (hU X.K (aa f1 (aa f2 (aa F (aa I ax)))) E):=dU a (pj b c d i l m) h
theorem ZA(c:Dn)(d:Bg)(r:a0b)(a:Bg)(h:ax c d=My (.ok r,a)):r.length=0:=u3 h
structure FB (P:PM) (w:P0) (K:Pl) (mg:a0j) (base:Qt) (k:Nat) (x:PZ) (f:OM) (B:Py) (z:a0i) (n:Nat) (m:a0b->M D):Prop where
 ok:ee P w K mg base (fx P w) k f B z (y2 K n m)
 m:mg x=My (.ref f)
 kp:U8 K (.ref f)=OL
 b:aC K B z []
theorem vc(G:FB X.prog X.w X.K X.mg X.base j x f B z n m)(h:dt k X.A)(u:PA X (e::t) (hU X.K g E))(i:j<=k:=by decide)(v:cM (fx X.prog X.w) X E:=by first|exact i5|exact w6|assumption)(l:Gl X x:=by rfl)
  (y:∀D F r d,g D F=My (.ok r,d)->r.length=n:=by repeat (first|exact ZA|apply cj)) (a:(x==("__debug__":PZ))=OQ:=by decide) (o:Pe (e::t) X.env=(OQ,Qu e X.env)::Pe t X.env:=by rfl) (c:(SL q (Pe t X.env)).any (·.1)=OQ:=by rfl):
  PE X (.Call (.Name x p) (e::t) [] q) (tV X.K (bz m g) E):=yk G.ok (h.mono i) l G.m G.kp G.b v u y a o c
theorem dA(d:X.mg "len"=OI)(f:PA X (e::t) (hU X.K g E))(b:Gl X "len":=by rfl)(c:Pe (e::t) X.env=(OQ,Qu e X.env)::Pe t X.env:=by rfl)(a:(SL q (Pe t X.env)).any (·.1)=OQ:=by rfl):PE X (.Call (.Name "len" p) (e::t) [] q) (tV X.K (aL fZ g) E):=bK lF Og b d VP f (by decide) (by decide) c a
theorem gf(f:X.mg "sum"=OI)(h:PA X (e::t) (hU X.K g E))(b:Gl X "sum":=by rfl)(c:X.calm=OL:=by rfl)(d:Pe (e::t) X.env=(OQ,Qu e X.env)::Pe t X.env:=by rfl)(a:(SL q (Pe t X.env)).any (·.1)=OQ:=by rfl):PE X (.Call (.Name "sum" p) (e::t) [] q) (tV X.K (aL gy g) E):=bK (AZ c) LU b f Boot.«sum» h (by decide) (by decide) d a
theorem kC(d:X.mg "isinstance"=OI)(f:PA X (e::t) (hU X.K g E))(b:Gl X "isinstance":=by rfl)(c:Pe (e::t) X.env=(OQ,Qu e X.env)::Pe t X.env:=by rfl)(a:(SL q (Pe t X.env)).any (·.1)=OQ:=by rfl):PE X (.Call (.Name "isinstance" p) (e::t) [] q) (tV X.K (aL iK g) E):=bK BB Oh b d Boot.«isinstance» f (by decide) (by decide) c a
theorem hL{d:Scope}(a f:a0i)(e:a0a)(k:d.kind= .function:=by rfl)(g:(d.names.map (·.1)).Nodup:=by decide +kernel)
  (fr:(d.names.all λy=>y.2 != .free||(X.env.scope.names.lookup y.1==My .cell||X.env.scope.names.lookup y.1==My .free))=OL:=by rfl) (b:a=f++e.map (λj=>X.N.getD j Tj):=by rfl)
  (c:(e.all λj=>decide (j<X.N.length)&&d.names.lookup (X.N.getD j Tj)==My .free)=OL:=by rfl):cy X d a f e:=cy.ofB k g fr b c
theorem e_{a:a0i}(h:a.Nodup:=by decide +kernel):(aE X a b cl C i s H).N.Nodup:=h
theorem dy(i:Nat){x:PZ}(a:X.N.Nodup)(b:X.N[i]?=My x:=by rfl)(d:uY X.env.scope x:=by first|exact RM rfl|exact Ts rfl)(c:X.fn x=OL\/X.env.scope.names.lookup x=My .local:=by first|exact .inl rfl|exact .inr rfl|assumption):PG X (.Name x q) (dm i):=vM a b d c
theorem eo(i:Nat){x:PZ}{e:Expr}{q a:Ub}(b:X.N.Nodup)(c:PE X e l)(d:X.N[i]?=My x:=by rfl)(f:uY X.env.scope x:=by first|exact RM rfl|exact Ts rfl)(g:UJ e (My (.Name x a)) q.line X.env=Ry OQ:=by rfl)(h:X.fn x=OL\/X.env.scope.names.lookup x=My .local:=by first|exact .inl rfl|exact .inr rfl|assumption):PS X (.Assign [.Name x a] e q) (fR l (dm i)):=oK b d f c g h
theorem oa{Q:a0g->Prop}(h:∀a,Q [a])(us:a0g)(b:us.length=1):Q us:=by obtain⟨_,rfl⟩:=lU1 b;exact h _
theorem F_{Q:a0g->Prop}(h:∀a b,Q [a,b])(us:a0g)(c:us.length=2):Q us:=by obtain⟨_,_,rfl⟩:=lU2 c;exact h _ _
theorem t_{Q:a0g->Prop}(h:∀a b c,Q [a,b,c])(us:a0g)(d:us.length=3):Q us:=by obtain⟨_,_,_,rfl⟩:=lU3 d;exact h _ _ _
theorem bA4{Q:a0g->Prop}(h:∀a b c d,Q [a,b,c,d])(us:a0g)(i:us.length=4):Q us:=by obtain⟨_,_,_,_,rfl⟩:=lU4 i;exact h _ _ _ _
theorem fy{N Q:a0i}{c:Scope}(a:c.kind= .function:=by rfl)(b:c.isCoroutine=OQ:=by rfl)(g:c.isGenerator=OQ:=by rfl)(d:N.Nodup:=by decide +kernel)(e:N.take Q.length=Q:=by rfl)(f:∀x∈Q,c.names.lookup x=My .local\/c.names.lookup x=My .cell:=by decide +kernel)(h:∀y∈c.names,y.2≠ .free:=by decide +kernel):br N Q c:=⟨a,b,g,d,e,f,h⟩
end
end L2.Pu
namespace L2
section
variable{a:PM}{w:P0}{A:P7}{E:a0d}{s:OV}{K:Pl}
variable{X:Cx}
end
namespace Pu
section
variable{X:Cx}{E:a0s}
end
end Pu
end L2
namespace L2.Pu
section
variable{X:Cx}{E:a0s}{a b:Expr}{l:Ub}{k:Nat}{f C:OM}{m:Py}{ps:a0i}{K:Pl}
structure IsC (K:Pl) (C:OM):Prop where
 cl:tx K C
 ha:T9 K (.ref C) "__class__"=My (My (.builtin "object.__class__"))
 hn:specialIn K (.builtin "object.__class__") "__get__"=My (My (.builtin "getset_descriptor.__get__"))
 htk:Y1 K (.builtin "object.__class__")=My OL
 hm:PySem.W.mroIn K C (.type "object")=My OL
variable{f p2 e b:Ub}
noncomputable def S(n:Nat)(f:a0N):Int:=((OX n).map f).sum
theorem Nv(f:a0N):S 0 f=0:=rfl
theorem ge(n:Nat)(f:a0N):S (n+1) f=S n f+f n:=by
 unfold S;rw[RP,Pw,WR];simp
theorem dI{f g:a0N}(h:∀i<n,f i=g i):S n f=S n g:=by
 unfold S;rw[PU λi c=>h i (Pn.mp c)]
theorem sj(n:Nat)(f g:a0N):S n (λi=>f i+g i)=S n f+S n g:=pM f g _
theorem lM(n:Nat):S n (λ_=>0)=0:=mV _
theorem OF(n:Nat)(f:a0N):S n (λi=>-f i)=-S n f:=by
 induction n with
 |zero=>rfl
 |succ n a=>rw[ge,ge,a];lia
theorem BJ(n m:Nat)(h:Nat->Nat->Int):S n (λi=>S m (λj=>h i j))=S m (λj=>S n (λi=>h i j)):=by
 induction n with
 |zero=>rw[Nv];exact(lM m).symm
 |succ n a=>
  rw[ge,a,<-sj];exact dI λj _=>(ge n _).symm
theorem mW{g:a0N}:∀{l L:a0a},l.Sublist L->L.Nodup->(l.map g).sum=(L.map λx=>if x∈l then g x else 0).sum
 |_,_,.slnil,_=>rfl
 |l,_,.cons a (l₂:=L) h,nd=>by
  have c:=(Qn.mp nd);have b:a∉l:=λz=>c.1 (h.subset z);rw[Pc,Pz,OY b,mW h c.2,T5]
 |_,_,.cons₂ a (l₁:=l) (l₂:=L) h,nd=>by
  have c:=(Qn.mp nd);rw[Pc,Pc,Pz,Pz,OZ OU,mW h c.2];congr 2;refine PU λx e=>?_;have d:x≠a:=λz=>c.1 (z▸e);by_cases q:x∈l
  .rw[OZ q,OZ (OO _ q)]
  .rw[OY q,OY λz=>(O6.mp z).elim d q]
theorem lU{l:a0a}(h:l.Sublist (OX n)):(l.map g).sum=S n λx=>if x∈l then g x else 0:=mW h List.nodup_range
theorem wc{p:Nat->Bool}{g:a0N}:∀l:a0a,((l.filter p).map g).sum=(l.map λx=>if p x=OL then g x else 0).sum
 |[]=>rfl
 |x::l=>by
  rw[Wt,Pc,Pz,<-wc l];by_cases q:p x=OL
  .rw[OZ q,OZ q,Pc,Pz]
  .rw[OY q,OY q,T5]
noncomputable abbrev nI(l:a0a):a0e:=l.map λ(i:Nat)=>(i:Int)
noncomputable abbrev nL(l:a0a):D:= .lst ((nI l).map D.int)
theorem v6:∀a:a0e,PJ (.int i) (a.map D.int)=decide (i∈a)
 |[]=>rfl
 |x::a=>by
  have b:=v6 (i:=i) a;unfold PJ at b⊢;rw[Pc,Uk,b];show(decide (x=i)||_)=_;rw[VH];simp only[WK,PX,O6];constructor
  .rintro(h|h)
   .exact .inl h.symm
   .exact .inr h
  .rintro(h|h)
   .exact .inl h.symm
   .exact .inr h
theorem qS:∀a:a0e,(a.map D.int).all eQ=OL
 |[]=>rfl
 |_::a=>qS a
theorem LZ{b:a0e}{a:Bool}:F0 a (.int i) (.lst (b.map D.int))=My (.bl (if a then !decide (i∈b)else decide (i∈b))):=by
 show(if(eQ (.int i)&&(b.map D.int).all eQ)=OL then _ else _)=_;rw[qS,Bool.and_true,OZ (show eQ (.int i)=OL from rfl),v6]
theorem LL{i:Nat}{l:a0a}:((i:Int)∈nI l)↔i∈l:=by
 constructor
 .intro h
  obtain⟨j,c,e⟩:=OR.mp h;exact(Int.ofNat.inj e)▸c
 .intro h
  exact OR.mpr ⟨i,h,rfl⟩
theorem uu{i:Nat}{l:a0a}{a:Bool}:F0 a (.int (i:Int)) (nL l)=My (.bl (if a then !decide (i∈l)else decide (i∈l))):=by
 rw[LZ];simp only[LL]
theorem j9{k:Type}{f:FD}(b:List k)(u v:k->D)(p:k->Bool)(g:it δ β=My (.ok (b.map u),β))
  (i:∀x∈b,∃a,tg (u x) (jm nv bt δ)=My a/\tt a β=My (.ok (p x),β)/\(p x=OL->f a β=My (.ok (v x),β))) (j:b.length<=Pk):cN nv bt it tg tt (j2 f) δ β=My (.ok (.lst ((b.filter p).map v)),β):=by
 refine qi g ?_ (by rw[OH];exact Pj (List.length_filter_le _ _) j);have m:∀b:List k,(∀x∈b,∃a,tg (u x) (jm nv bt δ)=My a/\tt a β=My (.ok (p x),β)/\(p x=OL->f a β=My (.ok (v x),β)))->mx tg tt (j2 f) (b.map u) (jm nv bt δ) β=My (.ok ((b.filter p).map v),β):=by
  intro b
  induction b with
  |nil=>intro _;rfl
  |cons x b w=>
   intro h;obtain⟨a,d,c,l⟩:=h x OU;have e:=w λy C=>h y (OO _ C);rw[Pc,mx,Wt];cases q:p x with
   |true=>
    rw[q]at c;simp only[d,M.bind,M.ret,c,j2,l q,e,OZ,Pc,Ta,RO]
   |false=>
    rw[q]at c;simp only[d,M.bind,M.ret,c,e,Ph,Qj,RO]
 exact m b i
theorem mQ:∀(n:Nat) (a:a0b),cP n a=(OX a.length).map λ(i:Nat)=>D.tup [.int ((n+i:Nat):Int),a.getD i .non]
 |n,[]=>rfl
 |n,x::a=>by
  rw[cP,mQ (n+1) a,Pb,VB,Pc,O0];congr 1;refine PU λi _=>?_;simp only[VO];rw[show n+1+i=n+(i+1) by lia];rfl
noncomputable abbrev bI(b:LP)(i j:Nat):Int×Int:=(b.getD i []).getD j (0,0)
theorem io.getD{α:Type}{m:List (List α)}(h:io r c m)(d:i<r):m[i]?=My (m.getD i [])/\(m.getD i []).length=c:=by
 obtain⟨a,e,l⟩:=h.at d;have:m.getD i []=a:=by rw[O5,e];rfl
 rw[this];exact⟨e,l⟩
theorem mC{a:Type}{l:List a}{i:Nat}{d:a}(h:i<l.length):l[i]?=My (l.getD i d):=by
 rw[O5,ON h];rfl
theorem IR{a:a0e}(h:i<a.length):hY (.lst (a.map D.int)) (.int (i:Int))=My (.int (a.getD i 0)):=cA (by rw[OS,mC h];rfl)
theorem ul{b:LP}(a:io r c b)(g:i<r)(h:j<c):hY (dg b) (.int (i:Int))=My (.lst ((b.getD i []).map pD))/\hY (.lst ((b.getD i []).map pD)) (.int (j:Int))=My (pD (bI b i j)):=by
 obtain⟨e,l⟩:=a.getD g;refine⟨rM (by rw[OS,e];rfl),cA ?_⟩;rw[OS,mC (d:=(0,0)) (by lia)];rfl
noncomputable def oQ(a:a0e)(c:a0a):Int:=(c.map λi=>a.getD i 0).sum
def eM(a:a0e)(b:LP)(r:Nat)(c:a0a)(j:Nat):Int:=a.getD j 0-S r λi=>if i∈c then 0 else(bI b i j).1
def fQ(b:LP)(c:a0a)(j:Nat):Int:=(c.map λi=>(bI b i j).2).sum
def rC(a:a0e)(b:LP)(r c:Nat)(d e:a0a):Int:=S c λj=>if j∈e then eM a b r d j else fQ b d j
def hF(b:LP)(c d:a0a)(i j:Nat):Int:=(if i∈c/\j∉d then(bI b i j).2 else 0)-(if i∉c/\j∈d then(bI b i j).1 else 0)
theorem JF{b:LP}{d e:a0a}(h:d.Sublist (OX r))(g:e.Sublist (OX c)):
  rC cs b r c d e=oQ cs e+S r λi=>S c λj=>hF b d e i j:=by
 unfold rC oQ;rw[lU g,BJ,<-sj];refine dI λj l=>?_;by_cases q:j∈e
 .rw[OZ q,OZ q]
  unfold eM;rw[Int.sub_eq_add_neg,<-OF];congr 1;refine dI λi g=>?_;unfold hF;by_cases z:i∈d
  .simp[z,q]
  .simp[z,q]
 .rw[OY q,OY q,T5]
  unfold fQ;rw[lU h];refine dI λi g=>?_;unfold hF;by_cases z:i∈d
  .simp[z,q]
  .simp[z,q]
end
end L2.Pu
namespace L2.Pu
section
variable{X:Cx}{K:Pl}
variable{E:a0s}{o e:Expr}{b a:Ub}
end
end L2.Pu
namespace L2.Pu
noncomputable def Mf:G:=λ_ _=>OI
theorem dW{w:QH}{K:Pl}{E:a0s}:PS X w (tG K H Mf E):=λ_ _ _ _ _ _ h=>by
 obtain⟨_,_,_,_,_,_,_,e,_⟩:=h;cases e
section
variable{j:PM}{w:P0}{A:P7}{E:a0d}{s:OV}{l:OM}{t:Array (Int×Tok)}
theorem BY(f:A.handled=OI)(c:s.heap.IsTuple l (X8 t))
  (h:∀D d G,(∀b o,s.heap.get? b=My o->D.get? b=My o)->Q (.int (preSum (numAt t) t.size) G) {s with heap:=D,toks:=d}):
  O8 (Px j w) A (Wq (.builtin "sum") [.ref l]) Q E s:=by
 have a:l<s.heap.objs.size:=by obtain⟨_,e,_⟩:=c;exact Pq e
 refine call_sum_walkG (WI c ⟨_,_,_,_,_,_,numAt t,rfl,Walks.tuple (A:=A.in1) f _ l (Qc a) (X8 t),⟨⟨_,O7 _ rfl,rfl,rfl⟩,c.at λo e=>OK _ e⟩,λb hb=>?_,(λ_ _=>intItems_at),λD d G g=>?_⟩)
 .show b<(s.heap.push _).objs.size
  rw[Q1];rcases O6.mp hb with rfl|hb
  .exact Um _
  .rcases O6.mp hb with rfl|hb
   .exact Sk a
   .cases hb
 .have:=h D d G λb o e=>g b o (λhm=>by
   rcases O6.mp hm with i|hm
   .exact Pp (i▸Pq e) (Qg _)
   .cases hm) (OK _ e)
  simpa[X8]using this
variable{X:Cx}{K:Pl}
abbrev IC(K:Pl):a0k->Hp->VK->Prop:=λt H Q=>∃(p:OM) (j:a0e),t=[.ref p]/\(en K H p (j.map V.int)\/g_ K H p (j.map V.int))/\Q (.int j.sum) H
theorem AY(b:X.calm=OL):cD X (.builtin "sum") (IC X.K):=by
 intro a s f H t E Q I r h;obtain⟨p,l,rfl,hq|hq,q⟩:=h
 .exact qY b a s f H _ E Q I r ⟨p,l,rfl,hq,q⟩
 .obtain⟨u,rfl,g⟩:=gx r
  cases g;obtain⟨w,i,A,m⟩:=I.tuple hq;have c:=o7 i;obtain⟨t,D⟩:=c.allInts.items;have d:=c.numsOf;have j:w=(X8 t).toList:=by rw[<-D]
  rw[j,nums_intItems]at d;rw[D]at A;refine BY (I.ok.hd b) A λG n M k=>?_;have e:preSum (numAt t) t.size=l.sum:=by rw[preSum_eq,QJ (by simp),d]
  rw[e];exact⟨.int l.sum,H,I.kept k,⟨_,rfl⟩,q⟩
def n9:a0b->a0l
 |[.lst t]=>(eD t).map λj=> .int j.sum
 |[.tup t]=>(eD t).map λj=> .int j.sum
 |_=>OI
theorem LT:db K (IC K) n9:=λF H s Q w d A fr h e k=>by
 unfold n9 at e;split at e
 .rename_i t
  obtain⟨j,q,rfl⟩:=SF.mp e;obtain⟨v,rfl,g⟩:=ba.one h;obtain⟨a,l,rfl,r,b⟩:=bw.sqL g;rw[h8 q]at b;have c:=ba.ints j b;subst c;exact⟨a,j,rfl,.inl r,k _ H (To.refl fr) rfl⟩
 .rename_i t
  obtain⟨j,q,rfl⟩:=SF.mp e;obtain⟨v,rfl,g⟩:=ba.one h;obtain⟨a,l,rfl,r,b⟩:=bw.sqT g;rw[h8 q]at b;have c:=ba.ints j b;subst c;exact⟨a,j,rfl,.inr r,k _ H (To.refl fr) rfl⟩
 .cases e
theorem KP(j:a0e):n9 [.lst (j.map D.int)]=My (.int j.sum):=eG j
theorem KO(j:a0e):n9 [.tup (j.map D.int)]=My (.int j.sum):=eG j
end
end L2.Pu
namespace L2.Pu
open L2.Hs
noncomputable def Iti(a:OM)(D n:Nat):It:=
 ⟨λi H=>∃b w,H a=My (cg a b D w)/\w.length=n/\i<n,
  λi H v c=>∃p x,H p=OI/\v= .ref p/\c=upd H p (.tup [.ref x.1,x.2])/\∀b w,H a=My (cg a b D w)->(w[i]?).map (·.2)=My x,
  λi H=>∃b w,H a=My (cg a b D w)/\w.length=n/\i=n⟩
theorem HF:∀{w:a0o} {D:a0A} {i:Nat} {y:d_×OM×OP},U4 XY w D->D[i]?=My y->∃x,w[i]?=My x/\XY x y
 |_,_,0,_,.cons h t,e=>by cases e;exact⟨_,rfl,h⟩
 |_,_,i+1,_,.cons h t,e=>HF (i:=i) t e
 |_,_,0,_,.nil,e=>by cases e
 |_,_,_+1,_,.nil,e=>by cases e
section
variable{X:Cx}{a_:a0c}{σ:St}{H:Hp}{s:OV}{a:OM}{b:Bool}{ep i:Nat}{xs:a0o}
theorem pk(I:b_ X a_ σ H s)(h:H a=My (cg a b ep xs)):∃(o:PF) (es:Array RY),s.heap.get? a=My o/\o.data= .dict es ep/\es.size=xs.length/\o.ExactDict/\(a==UK)=OQ/\∀(i:Nat) (e:RY),es[i]?=My e->∃x,xs[i]?=My x/\e.key= .ref x.2.1/\aJ x.2.2 e.val:=by
 obtain⟨o,es,w,j,k,l,d,t,m,u,g⟩:x9 a b ep xs s.heap:=(I.hok a _ h).1;have n:w.length=xs.length:=by rw[<-OH (f:=(·.1)),<-ic g,OH]
 refine⟨o,es,j,l,by rw[<-O9,d,OH,n],k,m,λi e c=>?_⟩;rw[<-Qd,d,OS]at c;cases q:w[i]? with
 |none=>rw[q]at c;cases c
 |some y=>
  rw[q]at c;cases c;obtain⟨x,D,_,p,r⟩:=HF g q;exact⟨x,D,by rw[p],r⟩
theorem wJ{P:PM}{w:P0}{K:Pl}{x1}(a M:OM)(n ep:Nat):
  mX P w K (.Tuple elts x1 pos) (Iti a ep n) [M] M (λi h=>∃G d,Vq h M a i n ep G d) where
 mem:=by simp
 obj:=λi h D b c=>by
  obtain⟨G,d,e⟩:=D;cases Po.mp c;exact⟨_,e,λv q=>by cases q⟩
 keep:=λi h S D k=>by
  obtain⟨G,d,e⟩:=D;exact⟨G,d,k M (by simp) _ e⟩
 item:=by
  intro X m p r F i a_ s σ H E I f D t;subst m p r;obtain⟨G,d,e⟩:=D;obtain⟨b,xs,A,T,J⟩:=t;obtain⟨o,es,g,j,U,h4,h5,W⟩:=pk I A;have V:n=es.size:=by lia
  subst V;have hx:es[i]?=My es[i]:=S8 J;refine xG e g j hx λS Y Z sz kp=>⟨_,rfl,wpAny_letOwnedTupleGo_items (s:={s with heap:=S}) Y λB ei sb=>?_⟩;obtain⟨x,ex,L,N⟩:=W i _ hx;have O:s.heap.objs.size≠M:=RK (Pq e);have I2:b_ X a_ σ (upd H s.heap.objs.size (.tup [.ref x.2.1,x.2.2])) {s with heap:=B,toks:=s.toks}:=
   b_.turnNew I f (λb u c q=>sb.extBut b u (λz=>c (by rw[z];simp)) (kp b u (λz=>c (by rw[z];simp)) q)) (OW _) ⟨by show 2<=Pk;decide,[es[i].key,es[i].val],.cons L (.cons N .nil),_,sb.extBut _ _ O Z,rfl,_,rfl⟩
  refine⟨.ref s.heap.objs.size,_,I2,rfl,⟨s.heap.objs.size,x.2,I.hok.fresh (OW _),rfl,rfl,λb' aa C=>?_⟩,⟨_,_,ei⟩,λb c=>?_⟩
  .obtain⟨o',es',Q,R,_,_,_,g6⟩:=pk I C
   rw[g]at Q;cases Q;rw[j]at R;cases R;obtain⟨y,ey,l,fv⟩:=g6 i _ hx;rw[ey];rw[L]at l
   injection l with l
   exact Qb My (R6 l.symm (aJ.inj fv N))
  .cases Po.mp c
   rw[bb O.symm];exact(f _ c).1
 done:=by
  intro X m p r F i a_ s σ H E I f D t;subst m p r;obtain⟨G,d,e⟩:=D;obtain⟨b,xs,A,T,J⟩:=t;obtain⟨o,es,g,j,U,_⟩:=pk I A;have V:n=es.size:=by lia
  subst V;refine z5 (I.ok.hd F) e g j (by lia) λS kp=>⟨rfl,b_.turnL (t':=s.toks) I f λb o c q=>kp b o (λz=>c (by rw[z];simp)) q⟩
 self:=λ_ _ _ _ _ D h=>by
  obtain⟨G,d,e⟩:=D;exact xF (es:=(Pr n (⟨0,.none,.none⟩:RY)).toArray) (by rw[Pg,Rz];exact e) h
variable{E:a0s}{K:Pl}{o:Expr}{w i z:Ub}{B:List Expr}{C:Nat}
def iItm(i:TE):TI:=λσ H R=>i σ H λx c=>∃a b ep xs,x= .ref a/\c a=My (cg a b ep xs)/\R (Iti a ep xs.length) c
theorem CP(p:PE X o to)(c:TR o "items" X.env (Qu o X.env)=Qu o X.env:=by rfl)(d:(w.endLine==i.line)=OL:=by rfl):PI X (.Tuple B C z) (.Call (.Attribute o "items" w) [] [] i) (iItm to):=by
 intro a_ s σ H R I h;refine Zd c d (d5 (p a_ s σ H _ I h) λv f g=>?_);obtain⟨x,m,n,D,a,b,ep,xs,rfl,r,q⟩:=g;cases D;obtain⟨j,E,g,t,u,k,y,_⟩:=pk n r;refine⟨"dict","dict.items",PySem.F.plainAttrs_dict,PySem.F.slot_dict_items,PySem.F.type_dict_items,⟨j,g,k.1⟩,λb e=>?_,?_⟩
 .cases e;exact⟨j,g,k.2.1⟩
 refine Vy rfl (Yv (x3 ⟨j,g,k.1⟩ y ?_));have l:b_ X a_ σ m {f with heap:=f.heap.push {cls:= .type "dict_items",data:= .fields #[.ref a]},toks:=f.toks}:=n.kept λb o e=>OK _ e;refine xH (s:={f with heap:=f.heap.push {cls:= .type "dict_items",data:= .fields #[.ref a]}}) ⟨_,O7 _ rfl,rfl,rfl⟩ (OK _ g) t ?_;rw[u];exact⟨_,[_],_,_,m,rfl,l.kept (t':=f.toks) λb o e=>OK _ e,wJ a _ _ ep,⟨_,_,O7 _ rfl⟩,λb A=>by
  cases Po.mp A;exact l.fpOk (OW _) (l.hok.fresh (OW _)),q⟩
def itmD:D->a0D
 | .dct b ks vs=>My (UN (λk v=> .tup [dK b k,v]) ks vs)
 |_=>OI
theorem z6{F:Fx}{H:Hp}{b:Bool}{a:OM}{ep:Nat}{xs:a0o}(B:¬F.A a)(C:H a=My (cg a b ep xs))(g:R=xs.map (·.1))(I:∀x∈xs,e8 K F H b x.1 x.2.1)(h:ba K F H T (xs.map (·.2.2))):s_ K (Iti a ep xs.length) F H (UN (λk v=> .tup [dK b k,v]) R T):=λO j s t fr i=>by
 have J:T.length=xs.length:=by rw[h.length,OH]
 have L:R.length=xs.length:=by rw[g,OH]
 have c:=t.kp a _ B C;refine⟨λd o=>?_,λe=>⟨b,xs,c,rfl,by rw[e,YF,L,J,Nat.min_self]⟩⟩;have e:i<xs.length:=by
  have:=(OT.mp o).1;rw[YF]at this;lia
 refine⟨⟨b,xs,c,rfl,e⟩,λy Q w=>?_⟩;obtain⟨p,x,l,rfl,rfl,z⟩:=w;have m:=z b xs c;rw[ON e]at m;have f:xs[i].2=x:=PH m;subst f;have n:bM j (upd j p (.tup [.ref xs[i].2.1,xs[i].2.2])):=bM.upd l;obtain⟨v,q⟩:∃v,T[i]?=My v:=⟨_,ON (by lia)⟩;have N:R[i]?=My xs[i].1:=by rw[g,OS,ON e];rfl
 rw[List.getElem?_zipWith,N,q]at o;cases o;have D:=ba.tr t _ _ h;obtain⟨u,r,E⟩:=D.get q;rw[OS,ON e]at r;cases r;have t3:=(fr.same n).tr fr;exact⟨n,nY (.inl ⟨fr.fresh l,.inl ao⟩) (ba.cons (bw.tr t3 _ _ (xf ((I _ (Qr e)).tr t))) (ba.cons (bw.tr t3 _ _ E) ba.nil))⟩
def nItm(f:FD):FL:=λa=>M.bind (f a) λd=>M.ofO (itmD d)
theorem v7(m:PE X o (tV X.K f E))(c:TR o "items" X.env (Qu o X.env)=Qu o X.env:=by rfl)(g:(w.endLine==i.line)=OL:=by rfl):PI X (.Tuple B C z) (.Call (.Attribute o "items" w) [] [] i) (iV X.K (nItm f) E):=
 (CP m c g).imp λσ H R j=>i_ j λF s D fr n h=>⟨F,s,D,fr,n,(run.bind (R:=bw X.K F) h).mono λv p j=>by
  obtain⟨d,G,t,b,M⟩:=j;obtain⟨P,e,k⟩:=run.ofO M;cases d<;>first|(cases e;done)|skip
  cases e;unfold bw at b;obtain⟨a,ep,xs,rfl,l,q,r,u⟩:=b;exact⟨a,_,ep,xs,rfl,l.2,k _ p (To.refl t.fr) (z6 l.1 l.2 q r u)⟩⟩
end
end L2.Pu
namespace L2.Hs
theorem vR:mroOf (.type "reversed")=Ry [.type "reversed",.type "object"]:=by rw[mroOf_type];kernel_rfl
theorem DK:typeLookup (.type "reversed") "__new__"=Ry (My (.builtin "reversed.__new__")):=by rw[XD,V7];kernel_rfl
theorem DF:Bind.madeBy (.type "reversed")=Ry (My "reversed.__new__"):=madeBy_type vR DK (by decide +kernel)
theorem Jr:isSubtype (.type "reversed") (.type "reversed")=Ry OL:=by rw[Ur];kernel_rfl
theorem CA:isSubtype (.type "range_iterator") (.type "reversed")=Ry OQ:=by rw[Ur];kernel_rfl
theorem Kj:entryFor table "reversed.__new__"=My Builtin.«reversed.__new__»:=entryFor_of_tree (by kernel_rfl)
section
variable{l:PM}{w:P0}{A:P7}{E:a0d}{s:OV}
theorem ES(a:IsRange s.heap r 0 n 1 t u v)(j:0<=n)(g:n<2^62)
  (h:Q (.ref s.heap.objs.size) {s with heap:=s.heap.push {cls:= .type "range_iterator",data:= .fields #[SW (n-1),SW n,SW (-1)]}}):O8 (Px l w) A (Wq (.type "reversed") [.ref r]) Q E s:=by
 refine Yh (codeAny_of_tree ?_);show O8 _ _ (callAny (.type "reversed") _) _ _ _;refine OJ ⟨Code.quiet_builtin _ (by decide +kernel),U7 F.entry_type_call ?_⟩;rw[Around.under_plain (weight_type_call_type "reversed" [.ref r] []) (units_type_call_type "reversed" [.ref r] [])];have g:(Sm "reversed"==Sm "type")=OQ:=by decide +kernel
 have k:((YY "reversed").bind (·.mro.findSome? λt=>(YY t).bind λb=>if b.noNew then My OL else if b.attrs.any (·.1=="__new__")then My OQ else OI)).getD OQ=OQ:=by decide +kernel
 have e:=vR;have c:=DF;have i:checkTypeCall "reversed" ⟨[.ref r],[]⟩=Ry ():=by kernel_rfl
 repeat (any_goals (first|assumption|wp_step))
 refine codeAny_call_builtin (by decide +kernel) Kj (SU (show checkBuiltinCall "reversed.__new__" ⟨[.type "reversed",.ref r],[]⟩=Ry () by kernel_rfl) ?_);have f:s.TypeIs (.ref r) "range":=⟨_,a,rfl⟩;unfold Builtin.«reversed.__new__»
 repeat (any_goals (first|assumption|wp_step))
 refine SU Jr (OJ ?_);refine OG (m:=Ve _ _ _) ?_;refine SU (show Ve "reversed" (Sm "reversed") ⟨[.type "reversed",.ref r],[]⟩=Ry ()from rfl) ?_;refine OG (m:=checkCount "reversed" 1 1 _) (OJ ?_);show O8 _ _ (specialOf (.ref r) (Q5 "__reversed__")>>=_) _ _ s;refine OG (So f F.slot_range_reversed.lookup ?_);show O8 _ _ (bindSpecial (.builtin "range.__reversed__") (.ref r)>>=_) _ _ s;refine OG (SU (F.slot_range_reversed.bind _) ?_);show O8 _ _ (rule "reversed.__new__.own-method">>=_) _ _ s;refine OG (Ro (OG (Yj (codeAny_call_builtin F.slot_range_reversed.plain F.entry_range_reversed (F.slot_range_reversed.check _ _ _ _ _ _ _ _ f (F.args_range_reversed_1 _) ?_)))));unfold Builtin.«range.__reversed__»;refine OG (m:=selfOnly "range.__reversed__" _) (OJ (OG ?_));unfold Builtin.Range.rangeFields;refine OG (QT a rfl (x:= .int 0 t) rfl (OG (m:=asInt? _) (OJ ?_)));refine OG (QT a rfl (x:= .int n u) rfl (OG (m:=asInt? _) (OJ ?_)));refine OG (QT a rfl (x:= .int 1 v) rfl (OG (m:=asInt? _) (OJ (OJ ?_))));have D:UB 0 n 1=n:=by rw[rangeSize_one];split<;>lia
 simp only[D];have d:(QA 0&&QA n&&QA 1&&QA (-1)&&QA (0-1)&&QA n)=OL:=by
  have:QA n=OL:=by unfold QA;simp;lia
  rw[this];decide
 simp only[d,Qq,R0,Ph,Qj];rw[show(0:Int)+(n-1)*1=n-1 by lia];refine OG (Qi (OJ (OJ ?_)));exact OG (Rq (T:="range_iterator") (b:=OQ) ⟨_,O7 _ rfl,rfl⟩ CA (OG (Ro (OJ h))))
end
end L2.Hs
namespace L2.Pu
open L2.Hs
noncomputable def Itd(n:Nat):It:=⟨λi _=>i<n,λi H v a=>v= .int ((n:Int)-1-i)/\a=H,λi _=>n<=i⟩
theorem mE{P:PM}{w:P0}{K:Pl}(G:OM)(n:Nat):mX P w K x (Itd n) [G] G (λi h=>Wc h G ((n:Int)-1+(i:Nat)*-1) ((n:Int)-(i:Nat)) (-1)) where
 mem:=by simp
 obj:=λi h D b c=>by
  cases Po.mp c;exact⟨_,D,λv z=>by
   have C:Data.fields _=Data.cell v:=z;cases C⟩
 keep:=λi h M D k=>k G (by simp) _ D
 item:=by
  intro X g j l m i a s A H E I f D p;subst g j l;obtain⟨q,f1,f2,r,u,y⟩:=f G (by simp);refine(Walks.range (prog:=X.prog) (w:=X.w) (I.ok.hd m) G ((n:Int)-1) (-1) n).item i s _ _ p D λv M B F d J=>?_;obtain⟨t,rfl⟩:=F;have L:b_ X a A H {s with heap:=M,toks:=B}:=I.turned (λb o c e=>J b o (by simpa using c) e) q f1 r u y;exact⟨_,rfl,rQ (s:={s with heap:=M,toks:=B}) (n:="range_iterator") d rfl rfl (by decide) ⟨.int ((n:Int)-1-i),H,L,⟨t,by rw[show(n:Int)-1+(i:Int)*-1=(n:Int)-1-i by lia]⟩,⟨rfl,rfl⟩,d,λb c=>(f b c).1⟩⟩
 done:=by
  intro X g j l m i a s A H E I f D p;subst g j l;obtain⟨q,f1,f2,r,u,y⟩:=f G (by simp);exact Zu (I.ok.hd m) D (by have:n<=i:=p;lia) λM N=>⟨rfl,I.turned (t':=s.toks) (λb o c e=>N b o c e) q f1 r u y⟩
 self:=λ_ _ _ _ _ D h=>V2 D h
section
variable{X:Cx}{E:a0s}{K:Pl}{B:Expr}
def Ot(a:TA):TI:=λb H R=>a b H λw c=>∃j:Int,w=[.int j]/\0<=j/\j<2^62/\R (Itd j.toNat) c
theorem zf{p w p2 f:Ub}(g:Gl X "reversed")(i:X.mg "reversed"=OI)(r:Gl X "range")(D:X.mg "range"=OI)(E:PA X [a] z)(G:Pe [a] X.env=[(OQ,Qu a X.env)]:=by rfl)
  (k:Pe [.Call (.Name "range" p) [a] [] w] X.env=[(OQ,Qu (.Call (.Name "range" p) [a] [] w) X.env)]:=by rfl):PI X B (.Call (.Name "reversed" p2) [.Call (.Name "range" p) [a] [] w] [] f) (Ot z):=by
 intro c s m H R I h;refine Call_ (fi I g i Boot.«reversed» (QB ?_ k rfl));refine Yy (Call_ (fi I r D X2 (QB (d5 (E w c s m H _ I h) λS d v=>?_) G rfl)));obtain⟨V,n,y,K,j,rfl,M,P,q⟩:=v;obtain⟨u,rfl,t,rfl⟩:=gx K;refine call_range_1 (YU (ES (Xz ..) M P (V2 (x:=j-1) (left:=j) (step:=-1) (O7 _ rfl) ?_)));have l:b_ X c m n {d with heap:=d.heap.push {cls:= .type "range",data:= .fields #[.int 0 d.toks,.int j t,.int 1 (d.toks+1)]},toks:=d.toks+1+1}:=y.kept λb o e=>OK _ e;refine⟨_,[_],_,_,n,rfl,l.kept (t':=d.toks+1+1) λb o e=>OK _ e,mE _ j.toNat,?_,λb A=>?_,q⟩
 .show Wc _ _ (((j.toNat:Nat):Int)-1+((0:Nat):Int)*-1) (((j.toNat:Nat):Int)-((0:Nat):Int)) (-1)
  rw[show((j.toNat:Nat):Int)-1+((0:Nat):Int)*-1=j-1 by lia,show((j.toNat:Nat):Int)-((0:Nat):Int)=j by lia];exact O7 _ rfl
 .cases Po.mp A
  exact l.fpOk (OW _) (l.hok.fresh (OW _))
noncomputable def di(n:Nat):a0b:=(OX n).map λ(i:Nat)=> .int ((n:Int)-1-i)
theorem oZ:s_ K (Itd n) F H (di n):=λe f B t fr i=>by
 refine⟨λd w=>?_,λa=>?_⟩
 .unfold di at w
  have a:i<n:=by
   have:=(OT.mp w).1;simpa using this
  rw[OS,P9 a]at w;cases w;exact⟨a,λx g ⟨b,c⟩=>by subst b c;exact⟨bM.refl _,rfl⟩⟩
 .show n<=i
  rw[a];simp[di]
def rB:a0b->a0D
 |[.int j]=>if(decide (0<=j)&&decide (j<2^62))=OL then My (di j.toNat)else OI
 |_=>OI
theorem ED{p w p2 b:Ub}(c:Gl X "reversed")(d:X.mg "reversed"=OI)(m:Gl X "range")(D:X.mg "range"=OI)(G:PA X [a] (hU X.K g E))(M:Pe [a] X.env=[(OQ,Qu a X.env)]:=by rfl)
  (f:Pe [.Call (.Name "range" p) [a] [] w] X.env=[(OQ,Qu (.Call (.Name "range" p) [a] [] w) X.env)]:=by rfl):PI X B (.Call (.Name "reversed" p2) [.Call (.Name "range" p) [a] [] w] [] b) (iV X.K (cu rB g) E):=
 (zf c d m D G M f).imp λr H R i=>i_ i λF P S fr n h=>⟨F,P,S,fr,n,(run.bind (R:=ba X.K F) h).mono λx o i=>by
  obtain⟨y,V,t,s,u⟩:=i;obtain⟨l,e,k⟩:=run.ofO u;unfold rB at e;split at e
  .split at e
   .rename_i j
    cases e;simp only[PP,PX]at j;obtain⟨v,rfl,q⟩:=ba.one s;cases q.int;exact⟨_,rfl,j.1,j.2,k _ o (To.refl t.fr) oZ⟩
   .cases e
  .cases e⟩
variable{e m:Expr}{z tm:TE}{L p2:Ub}
theorem CO(a:a0g):Zc a.toArray OI OI (My (-1))=a.reverse.toArray:=by
 have b:Tp OI OI (My (-1)) a.toArray.size=((a.length:Int)-1,-1,-1):=by simp[Tp]
 unfold Zc;rw[b];refine Qb _ ?_;have c:sliceRange ((a.length:Int)-1) (-1) (-1)=(OX a.length).map λk=>a.length-1-k:=by
  unfold sliceRange;have d:(if(-1:Int)>0 then(if(a.length:Int)-1< -1 then(-1-((a.length:Int)-1)+-1-1)/ -1 else 0)else(if(a.length:Int)-1>-1 then((a.length:Int)-1- -1- -1-1)/(- -1)else 0)).toNat=a.length:=by
   rw[OY (by decide)];split
   .rw[show(- -1:Int)=1 by decide,Int.ediv_one];lia
   .lia
  simp only[d];exact PU λk _=>by lia
 show(sliceRange ((a.length:Int)-1) (-1) (-1)).filterMap _=_;rw[c,List.filterMap_map];rcases a with _|⟨x,r⟩
 .rfl
 generalize j:x::r=a;rw[uB (g:=λk=>a.getD (a.length-1-k) x) λk f=>by
  have:k<a.length:=Pn.mp f;simp only[VO,VM];rw[O5,ON (by omega)];rfl]
 refine Td (by simp) λi h l=>?_;have n:i<a.length:=by simpa using h
 rw[Te,UW,Yq,O5,ON (by lia)];rfl
def tRev(K:Pl)(z tm:TE):TE:=λc H Q=>z c H λx d=>tm c d λy b=>∃a e,x= .ref a/\y= .int (-1)/\en K b a e/\∀p,b p=OI->Q (.ref p) (upd b p (.lst e.reverse))
theorem Ln(l:PE X e z)(E:PE X m tm):PE X (.Subscript e (.Slice OI OI (My m) p2) L) (tRev X.K z tm):=by
 intro c s f H Q I h;refine Subscript_ (d5 (l c s f H _ I h) λv n o=>?_);obtain⟨x,p,r,G,M⟩:=o;refine wpAny_Slice ?_;rw[YO];refine OJ (OJ ?_);rw[evalPart_some];refine d5 (E c n f p _ r M) λu d B=>?_;obtain⟨y,C,g,F,a,P,rfl,rfl,S,q⟩:=B;cases G;obtain⟨t,rfl⟩:=F;obtain⟨its,i,D,j⟩:=g.list S;have k:b_ X c f C {d with heap:=d.heap.push {cls:= .type "slice",data:= .fields #[.none,.none,.int (-1) t]}}:=g.kept (t':=d.toks) λb J q=>OK _ q;show O8 (Px X.prog X.w) X.A (YR e (.Slice OI OI (My m) p2) (.ref a) (.ref d.heap.objs.size)) (EP X c f Q) X.xe {d with heap:=d.heap.push {cls:= .type "slice",data:= .fields #[.none,.none,.int (-1) t]}};refine tail_any (ops:=[.ref a,.ref d.heap.objs.size]) (D.isList.push _).typeIs slot_list_getitem.lookup (YS (D.isList.push _) (WN ..) .none .none (.int (-1) t) (by simp) ?_ (by rw[Pg,<-i.length];exact j)) (by with_unfolding_all rfl)
 rw[CO];exact⟨.ref _,_,k.lnew (t':=d.toks) (its:=its.reverse) (ys:=P.reverse) i.reverse (by rw[UD];exact j),rfl,q _ (k.hok.fresh (OW _))⟩
noncomputable def La:D->D->a0l
 | .lst ds,.int (-1)=>My (.lst ds.reverse)
 |_,_=>OI
theorem ba.reverse:∀{m:a0b} {e:a0k},ba K F H m e->ba K F H m.reverse e.reverse
 |[],e,h=>by have q:e=[]:=h;subst q;exact ba.nil
 |d::m,e,h=>by
  obtain⟨x,r,rfl,a,b⟩:=h;rw[Vf,Vf];exact ba.append (ba.reverse b) (ba.cons a ba.nil)
theorem NH(n:PE X e (tV X.K f E))(D:PE X m (tV X.K g E)):PE X (.Subscript e (.Slice OI OI (My m) p2) L) (tV X.K (f2 La f g) E):=
 (Ln n D).imp λr H Q b=>i_ b λF B G fr j h=>⟨F,B,G,fr,j,(run.bind (R:=bw X.K F) h).mono λv u b=>lv b λd w t M P=>⟨F,B,w,t.fr,j.tr (t.tr fr),(run.bind (R:=bw X.K F) P).mono λy A b=>lv b λx S t2 i o=>by
  obtain⟨z,c,k⟩:=run.ofO o;unfold La at c;split at c
  .cases c
   obtain⟨a,V,rfl,s,q⟩:=bw.sqL (bw.tr (t2.tr t.fr) _ _ M);cases i.int;exact⟨a,V,rfl,rfl,s,λp l=>k _ _ (t2.fr.upd _ l) (bw.newL t2.fr l (ba.reverse q))⟩
  .cases c⟩⟩
end
end L2.Pu
namespace L2.Pu
theorem Zv{A:P7}(a:dt k A):A.units+2<US:=P5 (UO (by decide:2<=64) _) a.units
open L2.Hs
section
variable{X:Cx}{E:a0s}{ke ve bc aa:Expr}{ad:List Expr}{ab:a0P}{P:Scope}{ac:Ub}{Nc cx:a0i}{bt:a0a}{g:TG}{tb:a0Y}
theorem JJ{kb:Bool}{b d:Ub}(y:X.N.Nodup)(k:X.N[i]?=My x)(K:uY X.env.scope x)(B:X.calm=OL)(S:cy X P Nc cx bt)(F:PI X bc aa wi)
  (L:∀(E:a0n) (C:OM) (j:a0q) (s:OV) (H:Hp),PG (aE X Nc P E C j s H) bc g/\dJ (aE X Nc P E C j s H) ad tt/\∀D,PB (aE X Nc P E C j s H) (.D ke ve) (⟨bc,aa,ad,0⟩::ab) P ac 0 D (tb D))
  (l:UJ (.DictComp ke ve (⟨bc,aa,ad,0⟩::ab) P ac) (My (.Name x b)) d.line X.env=Ry OL:=by rfl)
  (M:∀x,Qh aa X.env x=Ry x:=by intro _;rfl) (O:X.fn x=OL\/X.env.scope.names.lookup x=My .local:=by first|exact .inl rfl|exact .inr rfl|assumption):
  PS X (.Assign [.Name x b] (.DictComp ke ve (⟨bc,aa,ad,0⟩::ab) P ac) d) (fR (kE (λD=>cg D kb 0 []) cx bt wi λD J=>cV J g tt (tb D)) (dm i)):=by
 intro f s R H D I h;rw[exec_Assign_Name_used _ _ _ _ l];refine OG (RN (OG ?_));show O8 _ X.A (do let _ <-comprehension (.DictComp ke ve (⟨bc,aa,ad,0⟩::ab) P ac) P X.env _ newDict OQ (Qu aa X.env) (My (U6 (.Name x b) X.env))) _ _ s
 refine OG (Qk (SE (use:=My (U6 (.Name x b) X.env)) (Q:=λ_ s'=>SP X f D .next s') rfl M (S.clo I.ok) S.kind S.loc
  (Qk (F f s R H _ I h) (λv s1 U=>Qk U (λW Y n=>?_) λ_ _ e=>e) λ_ _ e=>e)) (λ_ s' Z=>OJ (OJ Z)) λ_ _ e=>e)
 obtain⟨it,j,tn,J,H2,e,o,T,p,f2,q⟩:=n;subst e;refine gM (c:= .D ke ve) ng (RR:=λG C=>X5 (Px X.prog X.w) X.A X.xe (My (U6 (.Name x b) X.env)) _ G C) B S L o T p f2 q λA C s' V m I' ns r q'=>?_;show O8 _ X.A (U6 (.Name x b) X.env (.ref A)) _ _ s';refine W5 (kG I' y k K (v:= .ref A) rfl (λY o n=>?_) O);obtain⟨a,sb,ha⟩:=n;have t:C≠a:=by
  rcases ha with rfl|ha
  .exact r.2.1
  .exact λz=>r.2.2.2.1 x a ha z.symm
 exact⟨m,ns.sameBut sb t,λh' u=>⟨_,V,o.letgo r u,q'⟩⟩
theorem yQ{kb:Bool}{a c:Ub}(j:X.N.Nodup)(d:X.N[i]?=My x)(G:uY X.env.scope x)(k:X.calm=OL)(S:cy X P Nc cx bt)(l:PI X bc aa (iV X.K u E))
  (m:∀(w:a0n) (C:OM) (f:a0q) (s:OV) (H:Hp),PG (aE X Nc P w C f s H) bc g/\dJ (aE X Nc P w C f s H) ad (g8 X.K v E0)/\∀D,PB (aE X Nc P w C f s H) (.D ke ve) (⟨bc,aa,ad,0⟩::ab) P ac 0 D (tb D))
  (n:cB X.K g t) (o:dH t) (p:∀D,eE X.K (RD X.K kb) D (tb D) b)
  (e:UJ (.DictComp ke ve (⟨bc,aa,ad,0⟩::ab) P ac) (My (.Name x a)) c.line X.env=Ry OL:=by rfl)
  (M:∀x,Qh aa X.env x=Ry x:=by intro _;rfl) (q:X.fn x=OL\/X.env.scope.names.lookup x=My .local:=by first|exact .inl rfl|exact .inr rfl|assumption):
  PS X (.Assign [.Name x a] (.DictComp ke ve (⟨bc,aa,ad,0⟩::ab) P ac) c) (tG X.K X.H₀ (f9 i (gJ cx.length bt u t v b (j8 kb))) E):=
 aN ((JJ (kb:=kb) j d G k S l m e M q).imp λD r H h=>uK n o p h)
theorem NJ{X:Cx}{E:a0s}{f g:FD}{ac:Ub}(w:PE X e1 (tV X.K f E))(a:PE X e2 (tV X.K g E))(D:qq e2:=by exact λ_ _=>rfl):PE X (.Subscript e1 e2 ac) (tV X.K (f2 hY f g) E):=bN aY bW w a D
end
end L2.Pu
namespace L2.Hs
section
variable{X:Cx}
end
end L2.Hs
namespace L2.Pu
open L2.Hs
section
variable{K:Pl}
end
end L2.Pu
namespace L2.Pu
section
variable{X:Cx}{E:a0s}{K:Pl}{f:QH}{a:Hp}{B:Ow}{g:a0m}{H h:Hp}{d:Ds}{e b:Bg}{c:St}
end
end L2.Pu
namespace L2.Pu
open PySem.SeqAt
open PySem.AutoSeq1 (wpAny_loadPart')
open PySem.MeetsSeq PySem.MeetsSeq2 PySem.MeetsSeq3
end L2.Pu
namespace L2.Hs
section
variable{X:Cx}
def KK(b:Bool):TE:=λ_ H Q=>∀D,H D=OI->Q (.ref D) (upd H D (cg D b 0 []))
theorem m9{b:Bool}:PE X (.Dict [] [] f) (KK b):=by
 intro a s c H Q I h;rw[arm_eval_Dict];refine OG (RN ?_);show O8 _ _ newDict _ _ _;exact ng a s c H _ _ I λe d _=>⟨.ref _,_,d,rfl,h _ (I.hok.fresh (OW _))⟩
def uz(xs:a0o)(k:d_)(c:OM)(v:V):a0o:=if(tD xs k).isSome then xs.map (λx=>if x.1=k then(x.1,x.2.1,v)else x)else xs++[(k,c,v)]
theorem ye(h:∀x y,XY x y->XY (f x) (g y)):∀{w:a0o} {D:a0A},U4 XY w D->U4 XY (w.map f) (D.map g)
 |_,_,.nil=> .nil
 |_,_,.cons a t=> .cons (h _ _ a) (ye h t)
theorem BP(p:U4 XY b d)(r:aJ v u):U4 XY (uz b k c v) (storedH d k c u):=by
 have f:=pI (k:=k) p;unfold uz;cases e:Y5 d k with
 |none=>
  rw[e]at f;cases q:tD b k with
  |some w=>rw[q]at f;exact f.elim
  |none=>
   rw[storedH_new e];exact pG ⟨rfl,rfl,r⟩ p
 |some w=>
  rw[e]at f;cases q:tD b k with
  |none=>rw[q]at f;exact f.elim
  |some a=>
   rw[storedH_old e];refine ye (λx y h=>?_) p;unfold putAt;rw[<-h.1];by_cases z:x.1=k
   .rw[OZ z,OZ z];exact⟨rfl,h.2.1,r⟩
   .rw[OY z,OY z];exact h
theorem Js(w:a0o)(k:d_)(c:OM)(v:V):(uz w k c v).length<=w.length+1:=by
 unfold uz;split
 .rw[OH];exact Vo _
 .simp
def IE(K:Pl):V->V->V->Hp->(Hp->Prop)->Prop:=λo i v H Q=>∃a b D w k c,o= .ref a/\i= .ref c/\H a=My (cg a b D w)/\(∀x∈w,vl K H b x.1 x.2.1)/\vl K H b k c/\w.length<Pk/\∀d,Q (upd H a (cg a b d (uz w k c v)))
theorem jQ(t:X.A.units+2<US):HA X (IE X.K):=by
 intro j s W H o i v Y Z u Q I y B C h;obtain⟨a,b,M,w,k,c,rfl,rfl,l,F,J,P,q⟩:=h;cases y;cases B;obtain⟨S,L,p,N,f⟩:=lC I l F;refine wpAny_setItem_heap (p7 t) (oX I J) L (λV D E=>?_) N;have m:=BP (k:=k) (c:=c) p C;obtain⟨o,G,g,r,O,R,T,x,U⟩:=D;have d:=Qb TK (ic m);rw[OH,OH]at d;have:=Js w k c v;exact⟨_,I.write (by rw[l];trivial) (.inl rfl) (λb u n e=>(E.2 b n).trans e) ⟨o,r⟩ (qh ⟨o,G,_,r,O,R,by rw[T];unfold entryOfKey;rw[p8],U,f,by lia,m⟩),q g⟩
theorem call_lenD:cD X (.builtin "len") (λG H Q=>∃a b E D,G=[.ref a]/\H a=My (cg a b E D)/\(∀x∈D,vl X.K H b x.1 x.2.1)/\Q (.int D.length) H):=by
 intro j s v H G z Q I r h;obtain⟨a,b,E,D,rfl,k,e,q⟩:=h;obtain⟨u,rfl,l⟩:=gx r;cases l;obtain⟨f,g,p,y,i⟩:=lC I k e;have c:=Qb TK (ic p);rw[OH,OH]at c;have M:=jD;have P:((D.length:Nat):Int)<2^63:=by lia
 refine U1 kind_len plain_len entry_len (args_len1 _) ?_;unfold Builtin.«len»;refine OG (m:=oneArg "len" _) (OJ ?_);have n:MeetsIn X.prog X.w (Builtin.«dict.__len__» ⟨[.ref a],[]⟩) (λ_ R s=>s.heap.DictOfH (KB X.prog X.w b) a f/\R (.ok (.ret (.int f.length s.toks))) {s with toks:=s.toks+1}):=
  .of_wp λA R s ⟨S,h⟩=>by
   obtain⟨o,V,E,t,B,d,e,C,M⟩:=S;show O8 _ _ (dictSize a>>=_) _ _ s;unfold dictSize;refine OG (OG (Sw t d (OJ ?_)));show O8 _ _ (Builtin.Dict.pendingCount a>>=_) _ _ s;refine OG (wpAny_pendingCount_other i ?_);refine wpAny_ret_mkInt ?_;have:V.size=f.length:=by rw[<-O9,e,OH]
   rw[Nat.add_zero,this];exact h
 refine OG (m:=callSpecial? (.ref a) (Q5 "__len__")) (wpAny_callSpecial?_slot (name:=Q5 "__len__") g.typeIs F.slot_dict_len
  (call_meetsIn F.slot_dict_len g.typeIs F.entry_dict_len (F.args_dict_len_1 _) n ⟨g,?_⟩))
 show O8 _ _ _ _ _ {s with toks:=s.toks+1};refine OG (QG (OJ ?_));refine OG (Wh ?_);rw[<-c];show O8 _ _ (if((D.length:Nat):Int)<0 then _ else _) _ _ _;rw[OY (by lia)];show O8 _ _ (if((D.length:Nat):Int)≥2^63 then _ else _) _ _ _;rw[OY (by lia)];exact OG (wpAny_mkInt (OJ ⟨_,rfl,.int D.length,H,I.tok _,⟨_,rfl⟩,q⟩))
end
end L2.Hs
namespace L2.Pu
open L2.Hs
def IM:a0b->a0l
 |[.dct _ ks _]=>My (.int ks.length)
 |_=>OI
def x_(a:a0G)(k:d_):a0G:=if k∈a then a else a++[k]
def W_(a:a0G)(w:a0b)(k:d_)(d:D):a0b:=if k∈a then(a.zip w).map (λp=>if p.1=k then d else p.2)else w++[d]
section
variable{K:Pl}{F:Fx}{H:Hp}
theorem LV:db K (λw H Q=>∃a b D E,w=[.ref a]/\H a=My (cg a b D E)/\(∀x∈E,vl K H b x.1 x.2.1)/\Q (.int E.length) H) IM:=λF H M Q P d S fr h e k=>by
 unfold IM at e;split at e
 .rename_i b i j
  cases e;obtain⟨v,rfl,c⟩:=ba.one h;unfold bw at c;obtain⟨a,D,w,rfl,f,rfl,g,l⟩:=c;exact⟨a,b,D,w,rfl,f.2,λx G=>(g x G).s,k _ H (To.refl fr) (by rw[OH];rfl)⟩
 .cases e
theorem pV:∀{xs:a0o},(tD xs k).isSome=decide (k∈xs.map (·.1))
 |[]=>by simp[tD]
 |x::xs=>by
  have w:=pV (k:=k) (xs:=xs);unfold tD at w⊢;rw[SQ];by_cases q:x.1=k
  .rw[Pf q];simp[q]
  .rw[PY q]
   dsimp only
   rw[w];exact decide_eq_decide.mpr (by rw[Pc,O6];exact⟨.inr,λz=>z.resolve_left λy=>q y.symm⟩)
theorem CB{w:a0o}:(uz w k c v).map (·.1)=x_ (w.map (·.1)) k:=by
 unfold uz x_;rw[pV];by_cases q:k∈w.map (·.1)
 .rw[OZ (Pf q),OZ q,O0]
  refine PU λx _=>?_;show(if x.1=k then(x.1,x.2.1,v)else x).1=x.1;split<;>rfl
 .rw[OY (λz=>q (QP z)),OY q,Pw];rfl
theorem Jt{xs:a0o}(D:bw K F H d v)(h:ba K F H f (xs.map (·.2.2))):ba K F H (W_ (xs.map (·.1)) f k d) ((uz xs k c v).map (·.2.2)):=by
 unfold uz W_;rw[pV];by_cases q:k∈xs.map (·.1)
 .rw[OZ (Pf q),OZ q]
  clear q
  induction xs generalizing f with
  |nil=>exact ba.nil
  |cons x xs E=>
   cases f with
   |nil=>cases h
   |cons w f=>
    obtain⟨u,r,e,a,b⟩:=h;rw[Pc,SB]at e;obtain⟨rfl,rfl⟩:=e;refine ba.cons (xs:=((xs.map λx=>if x.1=k then(x.1,x.2.1,v)else x).map (·.2.2))) ?_ (E b);show bw K F H (if x.1=k then d else w) (if x.1=k then(x.1,x.2.1,v)else x).2.2;by_cases z:x.1=k
    .rw[OZ z,OZ z];exact D
    .rw[OY z,OY z];exact a
 .rw[OY (λz=>q (QP z)),OY q,Pw]
  exact ba.append h (ba.cons D ba.nil)
theorem KR{b:Bool}(a:∀x∈e,e8 K F H b x.1 x.2.1)(d:e8 K F H b k c):∀x∈uz e k c v,e8 K F H b x.1 x.2.1:=λx w=>by
 unfold uz at w;split at w
 .obtain⟨y,hy,rfl⟩:=OR.mp w
  split
  .exact a y hy
  .exact a y hy
 .rcases PD.mp w with h|h
  .exact a x h
  .cases Po.mp h
   exact d
variable{X:Cx}{E:a0s}{z:QH}
def Mg(i:Nat)(b:Bool):G:=λw z=>My (.nx (w.set i (My (.odc b [] []))),z)
theorem HY{b:Bool}(h:PS X z (fR (KK b) (dm i))):PS X z (tG X.K X.H₀ (Mg i b) E):=h.imp λD j H c=>by
 obtain⟨B,F,G,M,o,d,ok,e,q⟩:=c;cases e;intro p f;obtain⟨k,a,g⟩:=ok.newAt (i:=i) (sl:= .odc b [] []) (u:=cg p b 0 []) f (.inr ⟨_,ao⟩) λe _=>⟨p,rfl,e,0,[],ao,rfl,(λx w=>by cases w),ba.nil⟩;exact q _ _ _ g a
def pb(i:Nat)(a c:FD):G:=λw z=>match c (hE w) z with
 |some (.ok d,β1)=>match a (hE w) β1 with
  |some (.ok kd,β2)=>match w.getD i OI with
   |some (.odc b ks vs)=>match jp b kd with
    |some k=>if(noL d&&decide (ks.length<Pk))=OL then My (.nx (w.set i (My (.odc b (x_ ks k) (W_ ks vs k d)))),β2)else OI
    |none=>OI
   |_=>OI
  |_=>OI
 |some (.error C,β1)=>My (.ex C w,β1)
 |none=>OI
theorem tu(h:PS X z (fR (tV X.K fv E) (EJ (jh i) (tV X.K fk E) (IE X.K)))):PS X z (tG X.K X.H₀ (pb i fk fv) E):=h.imp λD σ H Q=>by
 obtain⟨B,M,P,S,o,R,ok,e,q⟩:=Q;refine⟨ot B M,hE P,S,ok.frA,ok.viewA,?_⟩;unfold pb at e;split at e
 .rename_i d β1 p
  refine⟨.ok d,_,p,λv H1 t V=>?_⟩;obtain⟨g,T⟩:=ok.to rfl t;split at e
  .rename_i kd β2 U
   split at e
   .rename_i b ks vs L
    split at e
    .rename_i k W
     split at e
     .rename_i hn
      cases e;rw[PP,PX]at hn;obtain⟨w,r,a,rfl,hB,h2⟩:=g.tell i _ (getD_some L);refine⟨_,r,ot B M,hE P,β1,g.frA,g.viewA,.ok kd,_,U,λkv H2 t2 y=>?_⟩;obtain⟨j,n⟩:=g.to rfl t2;obtain⟨_,l,a',Y,Z,ep,F,hD,A,N,dl⟩:=j.tell i _ (getD_some L);rw[r]at l;cases l;cases Y;obtain⟨hz,rfl⟩:=uk W;have nk:noL (dK b k)=OL:=by
       cases b with
       |true=>show(OL&&(noLs (k.2.map Pu.D.int)&&OL))=OL;rw[i6];rfl
       |false=>exact i6 k.2
      obtain⟨c,rfl,O⟩:=xB hz (j.noB nk y);have I:=bw.tr n.tr _ _ (g.noB hn.1 V);subst A;refine⟨a,b,ep,F,k,c,rfl,rfl,hD,λx G=>(N x G).s,O.s,by rw[<-OH (f:=(·.1))];exact hn.2,λm=>?_⟩;obtain⟨J,s3⟩:=j.writeAt (sl:= .odc b (x_ (F.map (·.1)) k) (W_ (F.map (·.1)) vs k d)) (u:=cg a b m (uz F k c v)) r hB (.inr ⟨_,ao⟩) λt=>⟨a,rfl,hB,m,_,ao,CB.symm,KR (λx G=>(N x G).tr t) (O.tr t),Jt (bw.tr t _ _ I) (ba.tr t _ _ dl)⟩;exact q _ B _ ((T.trans n).trans s3) J
     .cases e
    .cases e
   .cases e
  .cases e
 .rename_i C β1 p
  cases e;refine⟨.error C,_,p,λH' t=>?_⟩;obtain⟨j,n⟩:=ok.to rfl t;exact q _ B H' n j
 .cases e
def sO:a0b->a0l
 |[.dct OQ ks _]=>if ks.length<64 then fS (ks.map λk=>iv k.2)else OI
 |_=>OI
theorem zU{K:Pl}:db K (m7 K) sO:=λF H S Q V d X fr h e k=>by
 unfold sO at e;split at e
 .rename_i r t
  obtain⟨v,rfl,c⟩:=ba.one h;unfold bw at c;obtain⟨a,P,G,rfl,i,rfl,f,u⟩:=c;split at e
  .rename_i hn
   rw[OH]at hn;obtain⟨g,s,rfl⟩:=iQ e;have M:∀x∈G,x.1.2∈g:=λx w=>by
    obtain⟨l,b,e⟩:=s.2.2.2 (iv x.1.2) (OR.mpr ⟨x.1,OR.mpr ⟨x,w,rfl⟩,rfl⟩);rw[eF e];exact b
   refine⟨a,OQ,P,G,rfl,i.2,λx w=>⟨(f x w).s,(s.2.2.1 _ (M x w)).1⟩,by lia,λl j b D m=>?_⟩;have n:g=j.map (·.1):=lR s.1 m λy=>by
    refine⟨λE=>?_,λE=>?_⟩
    .obtain⟨q,o,e⟩:=OR.mp (s.2.2.1 y E).2
     obtain⟨x,w,rfl⟩:=OR.mp o;refine(D.map (·.1)).mem_iff.mpr ?_;rw[O0];exact OR.mpr ⟨x,w,eF e⟩
    .have:=(D.map (·.1)).mem_iff.mp E
     rw[O0]at this;obtain⟨x,w,rfl⟩:=OR.mp this;exact M x w
   rw[n]at k;refine k _ _ (fr.upd _ b) (bw.newL fr b (lB λz p=>?_));obtain⟨x,w,rfl⟩:=OR.mp (D.mem_iff.mp p);exact xf (f x w)
  .cases e
 .cases e
end
end L2.Pu
namespace L2.Pu
section
variable{X:Cx}
end
end L2.Pu
namespace L2.Pu
open L2.Hs
section
variable{X:Cx}{E:a0s}{K:Pl}{w:Expr}
def Op(a:TA):TI:=λb H R=>a b H λw c=>∃j:Int,w=[.int j,.int (-1),.int (-1)]/\-1<=j/\j<2^62/\R (Itd (j+1).toNat) c
theorem zg(n:Gl X "range")(D:X.mg "range"=OI)(E:PA X [a,b,c] z)(G:Pe [a,b,c] X.env=[(OQ,Qu a X.env),(OQ,Qu b X.env),(OQ,Qu c X.env)]:=by rfl)(f:Pe [b,c] X.env=[(OQ,Qu b X.env),(OQ,Qu c X.env)]:=by rfl):
  PI X w (.Call (.Name "range" p) [a,b,c] [] x) (Op z):=by
 intro d s l H R I h;refine Call_ (fi I n D X2 (QB (d5 (E x d s l H _ I h) λP i u=>?_) (by rw[G,f]) (by rw[f];rfl)));obtain⟨S,m,v,K,j,rfl,V,M,q⟩:=u;cases K with
 |cons r g=>cases g with
  |cons y g=>cases g with
   |cons A g=>
    cases g;obtain⟨t,rfl⟩:=r;obtain⟨t',rfl⟩:=y;obtain⟨t2,rfl⟩:=A;refine call_range_3 (by decide) (wpAny_pyIter_range (Xz ..) (PySem.W.small_down (by lia) M (by decide) (by decide)) ?_);have k:b_ X d l m {i with heap:=i.heap.push {cls:= .type "range",data:= .fields #[.int j t,.int (-1) t',.int (-1) t2]}}:=v.kept (t':=i.toks) λb o e=>OK _ e;refine⟨_,[_],_,_,m,rfl,k.kept (t':=i.toks) λb o e=>OK _ e,mE _ (j+1).toNat,?_,λb B=>?_,q⟩
    .show Wc _ _ ((((j+1).toNat:Nat):Int)-1+((0:Nat):Int)*-1) ((((j+1).toNat:Nat):Int)-((0:Nat):Int)) (-1)
     have C:(((j+1).toNat:Nat):Int)-1+((0:Nat):Int)*-1=j:=by lia
     have F:(((j+1).toNat:Nat):Int)-((0:Nat):Int)=UB j (-1) (-1):=by
      rw[PySem.W.rangeSize_downNat];rfl
     rw[C,F];exact O7 _ rfl
    .cases Po.mp B
     exact k.fpOk (OW _) (k.hok.fresh (OW _))
def K7:a0b->a0D
 |[.int j,.int (-1),.int (-1)]=>if(decide (-1<=j)&&decide (j<2^62))=OL then My (di (j+1).toNat)else OI
 |_=>OI
theorem EE(j:Gl X "range")(D:X.mg "range"=OI)(G:PA X [a,b,c] (hU X.K g E))(M:Pe [a,b,c] X.env=[(OQ,Qu a X.env),(OQ,Qu b X.env),(OQ,Qu c X.env)]:=by rfl)(d:Pe [b,c] X.env=[(OQ,Qu b X.env),(OQ,Qu c X.env)]:=by rfl):PI X w (.Call (.Name "range" p) [a,b,c] [] z) (iV X.K (cu K7 g) E):=
 (zg j D G M d).imp λA H R f=>i_ f λF P S fr m h=>⟨F,P,S,fr,m,(run.bind (R:=ba X.K F) h).mono λI n f=>by
  obtain⟨J,V,t,s,x⟩:=f;obtain⟨l,e,k⟩:=run.ofO x;unfold K7 at e;split at e
  .split at e
   .rename_i i
    cases e;simp only[PP,PX]at i;obtain⟨v,r,rfl,o,q⟩:=s;obtain⟨B,C,rfl,u,y⟩:=ba.two q;cases o.int;cases u.int;cases y.int;exact⟨_,rfl,i.1,i.2,k _ n (To.refl t.fr) oZ⟩
   .cases e
  .cases e⟩
end
end L2.Pu
namespace L2.Pu
section
variable{P:PM}{w:P0}{K:Pl}{mg:a0j}{aa:Qt}
theorem AL{M:QH}{N ps:a0i}(n m:Nat)(g:FL)(F:c_ K x qual M f fd)(S:br N ps (ah M))(R:ps.length=n)(T:N.length=m)
  (u:∀(j:OP) (A:P7) (D:a0B) (s:OV) (H:Hp) (E:XK),dt k (A.deeper (T8 qual (ah M) s.heap.objs.size f j))->
   PSs (eW (fx P w) P w K mg aa N qual (ah M) f j A D s H E) (cf M) (wL (C_ K g (λ_=>E)))):ee P w K mg aa (fx P w) (k+1) f fd ps (X_ K (ck K) n λds=>g (vw (lr m ds))):=by
 subst R T;refine F.okE S (λvs H Q E h=>h.1) λj A D s H vs Q E Y h=>?_;obtain⟨hl,p,ds,β,fr,hd,r,y,e,h⟩:=h;refine⟨_,u j A D s H E Y,?_⟩;obtain⟨B,ok,U,Z,hn⟩:=oh (N:=N) fr hd;have J:∀{L:Ow} {i:Hp},f_ B H L i->Fr (d4 L p.bg) i y->To p H i y/\∀a,p.A a->L a≠OI:=λ{L i} s O=>by
  have V:∀a,p.A a->L a≠OI:=λa G=>by
   rw[s.tg a (U a G)];rcases U a G with z|z<;>rw[z]<;>simp
  refine⟨⟨λa o G n=>s.kp a o G ?_,λa G=>O.occ a (V a G),λb l e=>fr.bgA b l e,O.bag⟩,V⟩;cases q:B a with
  |none=>exact .inl rfl
  |some t=>
   have:=U a (hn a (by rw[q];simp));rcases this with z|z
   .rw[q]at z;exact .inr z
   .obtain⟨b,l,e,w⟩:=Z a z
    obtain⟨W,n2⟩:=n b l e;rcases w with w|w
    .exact Pp w W
    .exact Pp w n2
 refine⟨d4 B p.bg,vw (lr N.length ds),β,ok.fr,ok.view,r,y,e,?_⟩;cases r with
 |ok d=>
  intro v i t hv;obtain⟨I,X⟩:=ok.to (F:=d4 B p.bg) rfl t;obtain⟨t1,V⟩:=J X I.fr;obtain⟨a,xs,rfl,n0,W,dl⟩:=hv;have tr:Tr ((d4 B p.bg).but a) i (p.but a) i:=⟨λc hc _ z=>hc (Or.imp (V c) id z),λ_ _ _ h=>h,rfl⟩;exact h _ i t1 ⟨a,xs,rfl,n0,W,ba.tr tr _ _ dl⟩
 |error C=>
  intro i t;obtain⟨I,X⟩:=ok.to (F:=d4 B p.bg) rfl t;exact h i (J X I.fr).1
variable{X:Cx}{E:a0s}{o e c:Expr}{x:List Expr}{s l:Ub}{m:PZ}{k n:Nat}{f C:OM}{w:Py}{u:a0i}{a r:a0R}{t:a0r}{g h:FL}
theorem ck.pre{K:Pl}(t:To F H H1 i)(h:ck K F H1 H' j v):ck K F H H' j v:=by
 obtain⟨a,c,b,d,r⟩:=h;exact⟨a,c,b,t.none d,r⟩
def EM(g:FL):FD:=λa=>M.bind (g a) λc=>M.ret (.lst c)
theorem NI(h:PE X e (C_ X.K g E)):PE X e (tV X.K (EM g) E):=h.imp λq H Q b=>i_ b λF c f fr d r=>⟨F,c,f,fr,d,(run.bind (R:=ck X.K F H) r).mono λv u b=>lv b λo k t i m=>by
 obtain⟨a,n,rfl,j,l,p⟩:=i;exact run.ret t.fr m ⟨a,n,rfl,⟨λz=>fr.occ a z j,.inl l⟩,ba.tr Fx.tr_of _ _ p⟩⟩
theorem EQ(e:cN p v y z A b B F=My (.ok (.lst H),j)):fj p v y z A b B F=My (.ok H,j):=by
 unfold cN at e;unfold fj;split at e
 .cases e
 .cases e
 .rename_i d
  split at e
  .rename_i i
   split at e
   .rename_i q
    cases e;simp only[d,i,OZ q]
   .cases e
  all_goals cases e
theorem Nz(e:g δ β=My (.ok ds,β1)):EM g δ β=My (.ok (.lst ds),β1):=by
 unfold EM;rw[M.bind_ok e];rfl
def L5(i j:Nat):Ds->M a0b:=λa=>match a.getD i OI,a.getD j OI with
 |some (.own ds),My (.sh d)=>M.ofO ((hY (.lst ds) d).bind c9)
 |_,_=>M.fail
theorem K4{g:G}(l:kh X.K O T)(h:PS X (.For Q z body [] s) (wM (L0 X.K (N_ (tE X.K) (jh i) (jh j))) O (tG X.K X.H₀ g E))):PS X (.For Q z body [] s) (tG X.K X.H₀ (mo (L5 i j) T g) E):=yT (λ{B C H M P N R} f r=>by
 unfold L5 at r;split at r
 .rename_i ds d b p
  obtain⟨x,e,k⟩:=run.ofO r;obtain⟨v,u,a,D,rfl,_,y,A⟩:=f.tell i _ (getD_some b);obtain⟨w,F,I⟩:=f.tell j _ (getD_some p);cases d<;>first|cases e|skip
  rename_i n;cases(show bw X.K (d4 B C) H (.int n) w from I).int;cases q:nj ds n with
  |none=>rw[show hY (.lst ds) (.int n)=nj ds n from rfl,q]at e;cases e
  |some c=>
   rw[show hY (.lst ds) (.int n)=nj ds n from rfl,q]at e;obtain⟨v,J,m⟩:=uW A q;refine⟨_,u,_,F,a,D,n,v,rfl,rfl,en.of y,J,?_⟩;cases c<;>first
    |(cases e;obtain⟨a,o,rfl,t,L⟩:=bw.sqL m;exact .inl ⟨a,rfl,⟨o,t⟩,k _ H (To.refl f.fr) (uq m)⟩)
    |(cases e;obtain⟨a,o,rfl,t,L⟩:=bw.sqT m;exact .inr ⟨a,rfl,⟨o,t⟩,k _ H (To.refl f.fr) (vY m)⟩)
    |cases e
 .obtain⟨_,_,e,_⟩:=r
  cases e) l h
variable{a:QH}
end
end L2.Pu
namespace L2.Pu
open L2.Hs
def V_(a w:a0G):Prop:=Up (a.map (kl OL))/\w.length<=1000/\∀k,k∈a↔k∈w
theorem uj:∀{a b:a0G},a.map (kl OL)=b.map (kl OL)->a=b
 |[],[],_=>rfl
 |[],_::_,h=>by cases h
 |_::_,[],h=>by cases h
 |x::a,y::b,h=>by
  obtain⟨c,d⟩:=S5 h;rw[uj d,show x=y from R6 (S5 c).1 (S5 c).2]
theorem ui{a:a0G}:kl OL k∈a.map (kl OL)↔k∈a:=⟨λh=>by
 obtain⟨y,w,e⟩:=OR.mp h;rw[show k=y from R6 (S5 e).1.symm (S5 e).2.symm];exact w,λh=>OR.mpr ⟨k,h,rfl⟩⟩
theorem V_.eq{c d D:a0G}(a:V_ c D)(b:V_ d D):c=d:=uj (lR a.1 b.1 λx=>⟨λh=>by
 obtain⟨y,w,rfl⟩:=OR.mp h;exact ui.mpr ((b.2.2 y).mpr ((a.2.2 y).mp w)),λh=>by
 obtain⟨y,w,rfl⟩:=OR.mp h;exact ui.mpr ((a.2.2 y).mpr ((b.2.2 y).mp w))⟩)
open Classical in
def oi:a0b->a0l
 |[.dct OL ks _]=>if h:∃a,V_ a ks then My (.lst (h.choose.map (dK OL)))else OI
 |_=>OI
theorem CC{b a:a0G}(h:V_ a b):oi [.dct OL b c]=My (.lst (a.map (dK OL))):=by
 have q:∃a,V_ a b:=⟨a,h⟩;unfold oi;simp only[Xw q];rw[q.choose_spec.eq h]
theorem qU{K:Pl}{F:Fx}{H:Hp}{w:Type}{f:w->D}{g:w->OM}:∀{a:List w},(∀z∈a,bw K F H (f z) (.ref (g z)))->ba K F H (a.map f) (a.map λz=>V.ref (g z))
 |[],_=>ba.nil
 |z::a,h=>ba.cons (h z OU) (qU λx E=>h x (OO z E))
theorem zS{K:Pl}:db K (m7 K) oi:=λF H M Q P d S fr h e k=>by
 unfold oi at e;split at e
 .rename_i t u
  split at e
  .rename_i q
   cases e;have s:=q.choose_spec;generalize q.choose=ls at s k;obtain⟨v,rfl,g⟩:=ba.one h;unfold bw at g;obtain⟨a,G,D,rfl,n,rfl,i,A⟩:=g;refine⟨a,OL,G,D,rfl,n.2,λx w=>⟨(i x w).s,Vz (Ql _)⟩,by have:=s.2.1;rw[OH]at this;exact this,λl j m E o=>?_⟩;have c:∀z∈j,∃x∈D,z=kA OL x:=λz b=>by
    obtain⟨x,w,e⟩:=OR.mp (E.mem_iff.mp b);exact⟨x,w,e.symm⟩
   have p:ls=j.map λz=>(z.1.headD 0,z.1.tail):=uj (by
    rw[O0];refine(lR s.1 o λy=>?_).trans (PU λz b=>?_)
    .constructor
     .intro hy
      obtain⟨r,f,rfl⟩:=OR.mp hy;obtain⟨x,w,rfl⟩:=OR.mp ((s.2.2 r).mp f);exact OR.mpr ⟨kA OL x,E.mem_iff.mpr (OR.mpr ⟨x,w,rfl⟩),rfl⟩
     .intro hy
      obtain⟨z,b,rfl⟩:=OR.mp hy;obtain⟨x,w,rfl⟩:=c z b;exact ui.mpr ((s.2.2 x.1).mpr (OR.mpr ⟨x,w,rfl⟩))
    .obtain⟨x,w,rfl⟩:=c z b
     rfl)
   rw[p,O0]at k;refine k _ _ (fr.upd _ m) (bw.newL fr m (qU λz b=>?_));obtain⟨x,w,rfl⟩:=c z b;exact xf (i x w)
  .cases e
 .cases e
end L2.Pu
namespace HT
open PySem.SeqAt
open PySem.AutoSeq1 (wpAny_loadPart')
open PySem.MeetsSeq PySem.MeetsSeq2 PySem.MeetsSeq3
section
variable{a:PM}{w:P0}{A:P7}{E:a0d}{s:OV}
end
end HT
namespace L2
section
variable{X:Cx}
end
end L2
namespace L2.Pu
section
variable{X:Cx}{E:a0s}{E0:XK}{k:Nat}{f C:OM}{fd:Py}{P:a0i}{U:Sp}{Y:xl}{Z:a0k}{ds:a0g}
theorem JE(F:ee X.prog X.w X.K X.mg X.base Y k f fd P U)(c:dt k X.A.in1)(d:aC X.K fd P ds)(C:aw Z ds)(D:cM Y X E)
  (I:b_ X j i H s) (r:aw vs us) (h:U (vs++Z) H Q (E i)):O8 (Px X.prog X.w) X.A.in1 (Wq (.ref f) us) (EP X j i Q) X.xe s:=by
 have b:aw (vs++Z) (us++ds):=r.append C;have g:(us++ds).length=P.length:=by rw[<-b.length];exact F.len _ _ _ _ h
 refine Yh (Uq (F.run X.A.in1 X.stack s H ⟨us,[]⟩ (us++ds) (vs++Z) Q (E i) c I.env0.in1 (d s us I.kIn g) b h) λr G a=>?_);cases r with
 |error e=>exact D j i H s e G I a
 |ok fl=>
  cases fl with
  |ret u=>exact I.after a
  |next=>exact Rp a
  |brk=>exact Rp a
  |cont=>exact Rp a
def IF(C:OM)(U:Sp)(E0:XK):a0k->Hp->VK->Prop:=λf H Q=>∃l a k,f=[.ref l]/\H l=My (.ins C a k)/\U [.ref l] H (λv b=>∃n,v= .int n/\0<=n/\n<2^63/\Q (.int n) b) E0
theorem BA(D:r_ X.K C "__len__" f)(G:ee X.prog X.w X.K X.mg X.base Y k f fd P U)(b:dt (k+1) X.A)(c:aC X.K fd P [])(E:cM Y X (λ_=>E0)):cD X (.builtin "len") (IF C U E0):=by
 intro a s y H M us Q I r h;obtain⟨l,B,S,rfl,d,q⟩:=h;obtain⟨u,rfl,e⟩:=gx r;cases e;obtain⟨L,O,_⟩:=il I.hok d;obtain⟨N,J,_⟩:=O.look;obtain⟨m,F⟩:=I.fr;refine PySem.W.len_K F I.ok.mod.kin J D.at_ D.fn (Qk (JE (us:=[.ref l]) (vs:=[.ref l]) G b.in1 c .nil E I (.cons rfl .nil) q) (λw R z=>?_) λ_ _ z=>z);obtain⟨T,g,i,j,n,rfl,o,p,v⟩:=z;obtain⟨t,rfl⟩:=j;exact⟨⟨o,p⟩,.int n,g,i.tok _,⟨_,rfl⟩,v⟩
variable{K:Pl}{e:Expr}{p s:Ub}
def rY(C:OM)(a:a0b->M D)(b:FD):FD:=λe=>M.bind (b e) λx=>match x with
 | .obj C1 ns ds=>if C1=C then M.bind (a [.obj C1 ns ds]) λr=>match r with
   | .int n=>if 0<=n/\n<2^63 then M.ret (.int n)else M.fail
   |_=>M.fail
  else M.fail
 |_=>M.fail
theorem jR{E:a0s}(e:mm=M.fail)(r:run (bw K F) F E c mm H Q d):False:=by
 obtain⟨r,b,a,_⟩:=r;rw[e]at a;cases a
theorem DN(h:tV K (rY C u x) (λ_=>E0) y H Q):tV K x (λ_=>E0) y H λv g=>IF C (y2 K 1 u) E0 [v] g Q:=by
 obtain⟨F,p,s,fr,j,h⟩:=h;refine⟨F,p,s,fr,j,(run.bind (R:=bw K F) h).mono λv g b=>lv b λd f t k e=>?_⟩;cases d with
 |obj C1 ns ds=>
  simp only at e;split at e
  .rename_i z
   subst z;have i:=k;unfold bw at i;obtain⟨l,m,G,rfl,_,o,_⟩:=i;refine⟨l,m,_,rfl,o,rfl,F,[.obj C1 ns ds],f,t.fr,ba.cons k ba.nil,run.toE ((run.bind (R:=bw K F) e).mono λq r b=>lv b λD E t2 c a=>?_)⟩;cases D with
   |int n=>
    simp only at a;split at a
    .rename_i w
     exact⟨n,c,w.1,w.2,run.ret t2.fr a rfl⟩
    .exact(jR rfl a).elim
   |_=>exact(jR rfl a).elim
  .exact(jR rfl e).elim
 |_=>exact(jR rfl e).elim
theorem Kz(D:r_ X.K C "__len__" f)(G:ee X.prog X.w X.K X.mg X.base (fx X.prog X.w) k f fd P (y2 X.K 1 l))(c:dt (k+1) X.A)(d:aC X.K fd P [])(E:cM (fx X.prog X.w) X (λ_=>E0))(g:Gl X "len")(a:X.mg "len"=OI)
  (i:PE X e (tV X.K m (λ_=>E0))) (b:Pe [e] X.env=(OQ,Qu e X.env)::Pe [] X.env:=by rfl):PE X (.Call (.Name "len" p) [e] [] s) (tV X.K (rY C l m) (λ_=>E0)):=
 (iE (BA D G c d E) g a VP (dX i gF b) (by decide) (by decide) b rfl).imp λj H Q h=>DN h
variable{o:Expr}{es:List Expr}{I:QH}{z:Ub}{x m:PZ}{n:Nat}
def AO(m:a0b->M a0b)(g:FL):FL:=λe=>M.bind (g e) m
theorem LE{m:a0b->M a0b}(G:ee X.prog X.w X.K X.mg X.base (fx X.prog X.w) k f fd P (X_ X.K (ck X.K) n m))(u:dt k X.A)(y:Gl X x)(hm:X.mg x=My (.ref f))(B:U8 X.K (.ref f)=OL)(I:aC X.K fd P [])(hx:cM (fx X.prog X.w) X E)
  (ha:PA X (e::es) (hU X.K g E)) (hn:∀o z r c,g o z=My (.ok r,c)->r.length=n) (a:(x==("__debug__":PZ))=OQ:=by decide) (J:Pe (e::es) X.env=(OQ,Qu e X.env)::Pe es X.env:=by rfl) (b:(SL s (Pe es X.env)).any (·.1)=OQ:=by rfl):
  PE X (.Call (.Name x p) (e::es) [] s) (C_ X.K (AO m g) E):=
 (jB G u y hm B I .nil hx ha a J b).imp λZ H Q L=>i_ L λF o z fr N r=>⟨F,o,z,fr,N,by
  obtain⟨V,h,j,l⟩:=run.bind (R:=ba X.K F) r;refine⟨V,h,j,?_⟩;cases V with
  |error C=>exact l
  |ok ds=>
   intro vs O t hd;obtain⟨d',D,t1,i,q,S,T,r1⟩:=l vs O t hd;have U:=hn _ _ _ _ j;refine⟨by rw[PN,<-hd.length,U],F,d',D,t1.fr,by rw[PN];exact i,q,S,T,?_⟩;cases q with
   |error C=>exact r1
   |ok d=>exact λv W t5 Y=>r1 v W t5 (Y.pre t1)⟩
theorem om0{d:a0b}(c:tx X.K C)(D:r_ X.K C m f)(G:ee X.prog X.w X.K X.mg X.base (fx X.prog X.w) k f fd P (X_ X.K (ck X.K) n mf))(j:dt k X.A)(l:jg X.K fd P d)(M:cM (fx X.prog X.w) X E)
  (q:PE X o (tV X.K fo E)) (S:d.length+1=n)
  (t:Qu (.Call (.Attribute o m z) [] [] s) X.env=(do
   let ov <-Qu o X.env
   Us z.atName
   let (f,first) <-Vk [ov] (Za ov m pl)
   callWith s f first (SL s (Pe [] X.env)) (Uo s (Sv [] X.env))):=by rfl):
  PE X (.Call (.Attribute o m z) [] [] s) (C_ X.K (rX C m mf fo ax d) E):=by
 obtain⟨ds,Z,b,u,V⟩:=l;refine(CQ (pl:=pl) q c D G j b u M t).imp λU H Q h=>?_;obtain⟨F,p,x,fr,y,h⟩:=DC (T:=ck X.K) (g:=ax) ck.pre V (λp x r B e=>by cases e;simpa using S) h;refine⟨F,p,x,fr,y,h.mono λv W ⟨a,I,fs,J,ha,L,Y,N,aa,i,O,R⟩=>⟨a,I,fs,J,ha,L,?_⟩⟩;exact run.ret i R ba.nil
def rS(i:Nat):G:=λe f=>match e.getD i OI with
 |some (.own cs)=>if cs≠[]then My (.nx (e.set i (My (.own cs.dropLast))),f)else OI
 |_=>OI
theorem K0(h:PS X I (rq (KM X.K "list" Lc (jh i)))):PS X I (tG X.K X.H₀ (rS i) E):=h.imp λD A H l=>by
 obtain⟨B,n,p,s,o,r,ok,e,q⟩:=l;unfold rS at e;split at e
 case h_2=>cases e
 rename_i k t;split at e
 case isFalse=>cases e
 rename_i m;cases e;obtain⟨v,d,a,f,rfl,u,b,g⟩:=ok.tell i _ (getD_some t);have F:=g.length;have l0:=Su.mpr m;have j:=ba.erase (k.length-1) g;rw[Xf (by lia),Xf (by lia)]at j;refine⟨_,d,.inl ⟨rfl,f,en.of b⟩,a,f,f[f.length-1]'(by omega),rfl,rfl,b,ON _,?_⟩;obtain⟨c,y⟩:=ok.writeOwn (ds:=k.dropLast) (xs:=f.dropLast) d u b j;exact q _ _ _ y c
end
end L2.Pu
namespace Law
open L2 L2.Pu
open L2.Hs (tM oY jV m9 jQ iM)
noncomputable def cp(i:Nat):QH:=PySem.Challenge.pw_edgetally_k17_paper_told.main.body.getD i (.Pass ⟨0,0,0,0⟩)
abbrev lW:QH:=cp 61
set_option genSizeOf false in
set_option genInjectivity false in
structure Ad where
 Aa:OM
 Ab:OM
 Ac:Py
 Ae:OM
 Af:OM
 Ag:Py
 Ah:OM
 Ai:Py
 Aj:OM
 Ak:Py
 Al:OM
 Am:Py
 An:OM
 Ao:Py
 Aq:OM
 Ar:Py
 As:OM
 At:Py
 Au:OM
 Av:Py
 Aw:OM
 Ax:Py
 Ay:OM
 Az:Py
 A0:OM
 A1:Py
 A2:OM
 A3:Py
 A4:OM
 A5:Py
 A6:OM
 A7:Py
 A8:OM
 A9:Py
 Ba:OM
 Bb:Py
 Bc:OM
 Bd:Py
 Be:OM
 Bf:Py
 Bh:OM
 Bi:Py
 Bj:OM
 Bk:Py
 Bl:OM
 Bm:Py
 Bn:OM
 Bo:Py
 Bp:OM
 Bq:Py
 Br:OM
 Bs:Py
 Bt:OM
 Bu:Py
 Bv:OM
 Bw:Py
 Bx:OM
 By:Py
 Bz:OM
 B0:Py
 B4:OM
 B5:Py
 B7:OM
 B8:Py
 Ca:OM
 Cb:Py
 Cc:OM
 Cd:Py
 Cf:OM
 Cg:Py
 Ch:OM
 Ci:Py
 Cj:OM
 Ck:Py
 Cl:OM
 Cn:Py
 Co:OM
 Cp:Py
 Cq:OM
 Cr:Py
 Cs:OM
 Ct:Py
 Cu:OM
 Cv:Py
 Cw:OM
 Cy:Py
 Cz:OM
 C0:Py
 C2:OM
 C3:Py
 C4:OM
 C5:Py
 C6:OM
 C7:Py
 C8:OM
 C9:Py
structure o_ (K:Pl) (mg:a0j) (a:Ad):Prop where
 Da:mg "ValueError"=OI
 Db:mg "abs"=OI
 Dc:mg "any"=OI
 Dd:mg "bool"=OI
 De:mg "enumerate"=OI
 Df:mg "int"=OI
 Dg:mg "isinstance"=OI
 Dh:mg "len"=OI
 Di:mg "list"=OI
 Dj:mg "max"=OI
 Dl:mg "min"=OI
 Dm:mg "range"=OI
 Do:mg "reversed"=OI
 Dp:mg "sorted"=OI
 Dq:mg "str"=OI
 Dr:mg "sum"=OI
 Dt:mg "tuple"=OI
 Du:mg "zip"=OI
 Dv:mD K mg "MOST" (.int 40)
 Dw:mD K mg "MOST_COLUMNS" (.int 6)
 Dx:mD K mg "MOST_ROWS" (.int 4)
 Dy:mD K mg "WIDE" (.int 500)
 Dz:c_ K "free" "free" (cp 13) a.Af a.Ag
 D0:mg "free"=My (.ref a.Af)
 D3:jg K a.Ag ["rows","columns","pair"] [.tup [.int 0,.int 40]]
 D4:c_ K "check_sums" "check_sums" (cp 14) a.Ah a.Ai
 D5:mg "check_sums"=My (.ref a.Ah)
 D6:aC K a.Ai ["rowsums","columnsums"] []
 D7:c_ K "check_pair" "check_pair" (cp 15) a.Aj a.Ak
 D8:mg "check_pair"=My (.ref a.Aj)
 D9:aC K a.Ak ["pair"] []
 Ea:c_ K "settled_bounds" "settled_bounds" (cp 16) a.Al a.Am
 Eb:mg "settled_bounds"=My (.ref a.Al)
 Ec:aC K a.Am ["bounds","rows","columns"] []
 Ed:c_ K "factorial" "factorial" (cp 18) a.An a.Ao
 Ee:mg "factorial"=My (.ref a.An)
 Ef:aC K a.Ao ["number"] []
 Eg:c_ K "ways" "ways" (cp 19) a.Aq a.Ar
 Eh:mg "ways"=My (.ref a.Aq)
 Ei:aC K a.Ar ["parts"] []
 Ej:c_ K "fillings" "fillings" (cp 20) a.As a.At
 Ek:mg "fillings"=My (.ref a.As)
 El:aC K a.At ["rests","many","pairs"] []
 Em:c_ K "need_of" "need_of" (cp 22) a.Au a.Av
 En:mg "need_of"=My (.ref a.Au)
 Eo:aC K a.Av ["rowsums","over"] []
 Ep:c_ K "room_inside" "room_inside" (cp 23) a.Aw a.Ax
 Er:mg "room_inside"=My (.ref a.Aw)
 Es:aC K a.Ax ["columnsums","bounds","over","column"] []
 Et:c_ K "room_beside" "room_beside" (cp 24) a.Ay a.Az
 Eu:mg "room_beside"=My (.ref a.Ay)
 Ev:aC K a.Az ["bounds","over","column"] []
 Ew:c_ K "room_of" "room_of" (cp 25) a.A0 a.A1
 Ex:mg "room_of"=My (.ref a.A0)
 Ey:aC K a.A1 ["columnsums","bounds","over","into"] []
 Ez:c_ K "narrowest" "narrowest" (cp 26) a.A2 a.A3
 E2:mg "narrowest"=My (.ref a.A2)
 E3:aC K a.A3 ["columnsums","bounds","over"] []
 E4:c_ K "choices" "choices" (cp 27) a.A4 a.A5
 E5:mg "choices"=My (.ref a.A4)
 E6:aC K a.A5 ["many"] []
 E7:c_ K "check_fit" "check_fit" (cp 28) a.A6 a.A7
 E8:mg "check_fit"=My (.ref a.A6)
 E9:aC K a.A7 ["rowsums","columnsums","bounds"] []
 Fa:c_ K "check_wide" "check_wide" (cp 31) a.A8 a.A9
 Fb:mg "check_wide"=My (.ref a.A8)
 Fc:aC K a.A9 ["rowsums"] []
 Fd:c_ K "settled_for_net" "settled_for_net" (cp 32) a.Ba a.Bb
 Fe:mg "settled_for_net"=My (.ref a.Ba)
 Ff:aC K a.Bb ["rowsums","columnsums","bounds"] []
 Fg:c_ K "column_fillings" "column_fillings" (cp 33) a.Bc a.Bd
 Fh:mg "column_fillings"=My (.ref a.Bc)
 Fi:aC K a.Bd ["rests","columnsums","bounds","column"] []
 Fj:c_ K "rests_behind" "rests_behind" (cp 34) a.Be a.Bf
 Fk:mg "rests_behind"=My (.ref a.Be)
 Fl:aC K a.Bf ["rests","counts"] []
 Fm:c_ K "nodes_by_level" "nodes_by_level" (cp 35) a.Bh a.Bi
 Fn:mg "nodes_by_level"=My (.ref a.Bh)
 Fo:aC K a.Bi ["rowsums","columnsums","bounds"] []
 Fp:c_ K "node_counts" "node_counts" (cp 36) a.Bj a.Bk
 Fq:mg "node_counts"=My (.ref a.Bj)
 Fs:aC K a.Bk ["rests","filled","behind"] []
 Ft:c_ K "counted_nodes" "counted_nodes" (cp 37) a.Bl a.Bm
 Fu:mg "counted_nodes"=My (.ref a.Bl)
 Fv:aC K a.Bm ["rowsums","columnsums","bounds"] []
 Fw:c_ K "paper_rows" "paper_rows" (cp 38) a.Bn a.Bo
 Fy:mg "paper_rows"=My (.ref a.Bn)
 Fz:aC K a.Bo ["counted"] []
 F4:c_ K "_law_bag" "_law_bag" (cp 41) a.Bp a.Bq
 F5:mg "_law_bag"=My (.ref a.Bp)
 F6:aC K a.Bq ["_law_script"] []
 F7:c_ K "_law_pull" "_law_pull" (cp 42) a.Br a.Bs
 F8:mg "_law_pull"=My (.ref a.Br)
 F9:aC K a.Bs ["_law_bag_here","_law_lot"] []
 Ga:c_ K "_law_same" "_law_same" (cp 43) a.Bt a.Bu
 Gb:mg "_law_same"=My (.ref a.Bt)
 Gc:aC K a.Bu ["_law_found","_law_due"] []
 Gd:c_ K "_law_grid" "_law_grid" (cp 44) a.Bv a.Bw
 Ge:mg "_law_grid"=My (.ref a.Bv)
 Gf:aC K a.Bw ["_law_bag_here","_law_block","_law_columns","_law_things"] []
 Gg:c_ K "_law_small" "_law_small" (cp 45) a.Bx a.By
 Gi:mg "_law_small"=My (.ref a.Bx)
 Gj:aC K a.By ["_law_bag_here"] []
 Gk:c_ K "_law_wide" "_law_wide" (cp 46) a.Bz a.B0
 Gm:mg "_law_wide"=My (.ref a.Bz)
 Gn:aC K a.B0 ["_law_bag_here"] []
 Gp:c_ K "_law_large" "_law_large" (cp 47) a.B4 a.B5
 Gq:mg "_law_large"=My (.ref a.B4)
 Gr:aC K a.B5 ["_law_bag_here"] []
 Gs:c_ K "_law_turned" "_law_turned" (cp 48) a.B7 a.B8
 Gu:mg "_law_turned"=My (.ref a.B7)
 Gv:aC K a.B8 ["_law_block"] []
 Gx:c_ K "_law_rowsums" "_law_rowsums" (cp 49) a.Ca a.Cb
 Gy:mg "_law_rowsums"=My (.ref a.Ca)
 Gz:aC K a.Cb ["_law_grid_here"] []
 G0:c_ K "_law_columnsums" "_law_columnsums" (cp 50) a.Cc a.Cd
 G1:mg "_law_columnsums"=My (.ref a.Cc)
 G2:aC K a.Cd ["_law_grid_here"] []
 G3:c_ K "_law_free" "_law_free" (cp 51) a.Cf a.Cg
 G4:mg "_law_free"=My (.ref a.Cf)
 G5:aC K a.Cg ["_law_block","_law_columns"] []
 G6:c_ K "_law_bounds" "_law_bounds" (cp 52) a.Ch a.Ci
 G7:mg "_law_bounds"=My (.ref a.Ch)
 G8:aC K a.Ci ["_law_bag_here","_law_grid_here"] []
 G9:c_ K "_law_copied" "_law_copied" (cp 53) a.Cj a.Ck
 Ha:mg "_law_copied"=My (.ref a.Cj)
 Hc:aC K a.Ck ["_law_block"] []
 Hd:c_ K "_law_fit" "_law_fit" (cp 54) a.Cl a.Cn
 He:mg "_law_fit"=My (.ref a.Cl)
 Hf:aC K a.Cn ["_law_rests","_law_lot","_law_pairs"] []
 Hg:c_ K "_law_less" "_law_less" (cp 55) a.Co a.Cp
 Hh:mg "_law_less"=My (.ref a.Co)
 Hi:aC K a.Cp ["_law_rests","_law_column"] []
 Hj:c_ K "_law_factorial" "_law_factorial" (cp 56) a.Cq a.Cr
 Hk:mg "_law_factorial"=My (.ref a.Cq)
 Hl:aC K a.Cr ["_law_lot"] []
 Hm:c_ K "_law_ways" "_law_ways" (cp 57) a.Cs a.Ct
 Hn:mg "_law_ways"=My (.ref a.Cs)
 Ho:aC K a.Ct ["_law_parts"] []
 Hq:c_ K "_law_net" "_law_net" (cp 58) a.Cu a.Cv
 Hr:mg "_law_net"=My (.ref a.Cu)
 Ht:aC K a.Cv ["_law_grid_here","_law_limits"] []
 Hu:c_ K "_law_nodes" "_law_nodes" (cp 59) a.Cw a.Cy
 Hv:mg "_law_nodes"=My (.ref a.Cw)
 Hw:aC K a.Cy ["_law_rowsums_here","_law_columnsums_here","_law_limits"] []
 Hx:c_ K "_law_counted" "_law_counted" (cp 60) a.Cz a.C0
 Hy:mg "_law_counted"=My (.ref a.Cz)
 Hz:aC K a.C0 ["_law_rowsums_here","_law_columnsums_here","_law_limits"] []
 Ia:c_ K "__init__" "Net.__init__" (aF (cp 39) 0) a.C2 a.C3
 Ib:Mk K a.Ae a.C2
 Id:wh K a.C3 ["self","rowsums","columnsums","bounds"] ["bounds"] 3 [.kw 0]
 Ie:c_ K "paper" "Net.paper" (aF (cp 39) 10) a.C4 a.C5
 Ig:r_ K a.Ae "paper" a.C4
 Ih:aC K a.C5 ["self"] []
 Ii:c_ K "__len__" "Net.__len__" (aF (cp 39) 2) a.C6 a.C7
 Ij:r_ K a.Ae "__len__" a.C6
 Ik:aC K a.C7 ["self"] []
 Il:tx K a.Ae
 Im:mg "Net"=My (.ref a.Ae)
 Io:dS K a.Ae "column_list"
 Ip:dS K a.Ae "counted"
 Iq:dS K a.Ae "pairs"
 Ir:dS K a.Ae "row_list"
 Iu:c_ K "__init__" "EdgeError.__init__" (aF (cp 2) 0) a.Ab a.Ac
 Iw:aC K a.Ac ["self","word","why"] []
 Ix:mg "EdgeError"=My (.ref a.Aa)
 Iy:ZW K a.Aa "__init__" a.Ab
section
variable(P:PM)(w:P0){K:Pl}{mg:a0j}(ac:Qt){a:Ad}
theorem iT:br ["_law_bag_here","_law_lot","_law_cells","_law_at","_law_cell"] ["_law_bag_here","_law_lot"] (ah (cp 42)):=fy
theorem zq(N:o_ K mg a):ee P w K mg ac (fx P w) 2 a.Br a.Bs ["_law_bag_here","_law_lot"] (y2 K 2 cw):=by
 refine N.F7.ok (k:=1) iT (λvs H Q E h=>h.1) (λY A x s H vs Q E hr h=>?_);obtain⟨_,F,ds,D,fr,hd,r,Z,e,k⟩:=h;obtain⟨G,rfl,ok,I,h1,rfl,rfl⟩:=zG e;obtain⟨v,w',rfl,d1,d2⟩:=ba.two hd;unfold bw at d1;obtain⟨b,l,d,rfl⟩:=d1;cases d2.int;obtain⟨t,J⟩:=fr.bag b l d;obtain⟨ab,al,m⟩:=fr.bgA b l d;obtain⟨W,L,aa,X⟩:=ok.at;obtain⟨_,_,ad,_⟩:=vF ok I;have M:((D.cells.map V.int).length:Int)=(D.cells.length:Int):=by rw[OH]
 have O:nj (D.cells.map V.int) (D.pos:Int)=My (.int D.cell):=Kt (by rw[OS,L];rfl);refine⟨_,cS (oK (i:=2) iT.nd rfl (RM rfl) (fX dG (pv 0) bQ (λ_ _=>rfl)))
  (cS (oK (i:=3) iT.nd rfl (RM rfl) (dO kY (fX dG (pv 0) bQ (λ_ _=>rfl)) (iE lF (by rfl) N.Dh VP (dX (pv 2) gF))))
  (cS (oK (i:=4) iT.nd rfl (RM rfl) (fX dG (pv 2) (pv 3) (λ_ _=>rfl)))
  (cS (IH (vG N1 (pv 4) (dO Lx bQ bQ) (tR _))
   (cS (ef (dO vO (pv 4) (pv 1)) (fV (pv 2) (pv 3) gj)) (ig (az (dO kY (pv 4) (pv 1))))) pS)
  (cS (ef (dO oN (fX dG (pv 0) bQ (λ_ _=>rfl)) bQ) (fV (pv 0) bQ gj))
  (cS (ef (dO kY (dO Lz (dO oN (dO oN (fX dG (pv 0) bQ (λ_ _=>rfl)) (dO kY (pv 4) bQ)) bQ) bQ) bQ) (fV (pv 0) bQ gj))
  (ig (az (dO kY (dO vO (fX dG (pv 0) bQ (λ_ _=>rfl)) bQ) (pv 1))))))))),?_⟩
 refine⟨_,rfl,b,_,_,_,rfl,rfl,en.of t,rfl,?_⟩;refine⟨_,rfl,b,_,_,_,rfl,rfl,en.of t,rfl,_,rfl,l,_,rfl,.inl (en.of J),_,_,rfl,rfl,?_,?_⟩
 .have:=W
  rw[M];lia
 refine⟨_,rfl,_,rfl,l,_,_,_,rfl,rfl,en.of J,by rw[M,X];exact O,?_⟩;refine⟨_,rfl,_,_,rfl,rfl,⟨by decide,by decide,by decide⟩,_,_,rfl,rfl,_,rfl,?_⟩;have S:∀{R:Hp} {p:OM} {o:HO},(∀c,F.A c->R c≠OI)->∀c,F.A c->upd R p o c≠OI:=λ{R p o} f c u z=>by
  by_cases q:c=p
  .subst q;rw[ao]at z;cases z
  .rw[bb q]at z;exact f c u z
 refine ite2 (λg=>?_) (λg=>?_)
 .have S_:(10:Int)^18<=D.cell:=QP g
  refine⟨_,rfl,_,rfl,_,_,rfl,rfl,⟨I,h1⟩,_,rfl,_,rfl,l,_,_,D.pos,rfl,rfl,J,?_,?_⟩
  .rw[M,X,OH]
   exact Ka W
  refine⟨_,rfl,_,rfl,_,_,rfl,rfl,I,?_⟩;have T:iZ D G=D.cell % G:=OZ S_;have U:jU D G=⟨D.cells.set D.pos (D.cell/G),D.i,D.j⟩:=OZ S_;rw[T,U]at k;refine k _ _ ⟨λc o u n=>by rw[bb (n b l d).2];exact u,S fr.occ,fr.bgA,λb' l' y=>?_⟩ rfl;rw[d]at y;cases y;exact⟨by rw[bb m];exact t,by rw[ao,TY]⟩
 .have S_:¬(10:Int)^18<=D.cell:=λq=>g (Pf q)
  refine⟨_,rfl,b,_,_,_,rfl,rfl,en.of t,rfl,_,_,rfl,rfl,_,rfl,b,_,_,1,rfl,rfl,t,rfl,?_⟩;have B:(upd H b (.lst [.ref l,.int (D.i+1),.int D.j])) b=My (.lst [.ref l,.int (D.i+1),.int D.j]):=ao;refine⟨_,rfl,b,_,_,_,rfl,rfl,en.of B,rfl,_,rfl,_,_,rfl,rfl,(by show(0:Int)<2147483629;decide),_,_,rfl,rfl,_,_,rfl,rfl,_,_,rfl,rfl,.inr ⟨by decide,by decide⟩,_,_,rfl,rfl,(by show(0:Int)<2147483629;decide),_,rfl,b,_,_,2,rfl,rfl,B,rfl,?_⟩;have C:(upd (upd H b (.lst [.ref l,.int (D.i+1),.int D.j])) b (.lst [.ref l,.int (D.i+1),.int D.nxt])) b=My (.lst [.ref l,.int (D.i+1),.int D.nxt]):=ao;refine⟨_,rfl,b,_,_,_,rfl,rfl,en.of C,rfl,_,_,rfl,rfl,⟨by decide,by decide⟩,_,rfl,_,_,rfl,rfl,I,?_⟩;have T:iZ D G=D.nxt/64 % G:=OY S_;have U:jU D G=⟨D.cells,D.i+1,D.nxt⟩:=OY S_;rw[T,U]at k;refine k _ _ ⟨λc o u n=>by rw[bb (n b l d).1,bb (n b l d).1];exact u,S (S fr.occ),fr.bgA,λb' l' y=>?_⟩ rfl;rw[d]at y;cases y;exact⟨C,by rw[bb m.symm,bb m.symm];exact J⟩
theorem CH:br ["_law_script"] ["_law_script"] (ah (cp 41)):=fy
theorem nd1:(["_law_cell"]:a0i).Nodup:=by decide +kernel
theorem CW(N:o_ K mg a):ee P w K mg ac (fx P w) 1 a.Bp a.Bq ["_law_script"] (NR K):=by
 refine N.F4.ok CH (λS H Q E h=>?_) (λW A M s H S Q E hr h=>?_)
 .obtain⟨a,ns,rfl,_⟩:=h
  rfl
 .obtain⟨a,ns,rfl,X,k⟩:=h
  refine⟨_,ig (az (fW (dX (dO LB (lZ rfl (cx:=["_law_cell"]) (cy.plain rfl (by decide +kernel) (by decide +kernel)) (JM (tL vq (pv 0) vK (vJ bQ)))
   (λcl C fp s H=>⟨vM (i:=0) nd1 rfl (RM rfl),tJ,λD=>aO rfl (iE ET (by rfl) N.Db Boot.«abs» (dX (pv 0) gF)) rfl⟩)) (fW (dX bQ gF))) (dX bQ (dX bQ gF))))),?_⟩
  obtain⟨q,I,Y⟩:=OC ns;refine⟨_,rfl,63,rfl,a,_,rfl,X,λp Z=>?_⟩;rw[I];have L:bM H (upd H p (.lst (q.map V.int))):=bM.upd Z;refine⟨p,rfl,⟨_,en.of ao⟩,λD B=>?_⟩;have r:D≠p:=λz=>by subst z;rw[ao]at B;cases B
  refine xY (xs:=q.map V.int) (λi F g=>∃G:a0e,(∃v,F=[v])/\G.length=i/\(∀c∈G,0<=c)/\g D=My (.lst (G.map V.int))/\g p=My (.lst (q.map V.int))/\bM H g) ⟨[],⟨_,rfl⟩,rfl,(λ_ h=>nomatch h),ao,by rw[bb r.symm,ao],L.trans (bM.upd B)⟩
   (λi F g _ ⟨_,_,_,_,_,e,_⟩=>en.of e) ?_ ?_
  .rintro i x F g n ⟨G,⟨v,rfl⟩,l,m,d,t,u⟩
   have aa:i<q.length:=by have:=(OT.mp n).1;rwa[OH]at this
   obtain⟨z,rfl⟩:∃z,x=V.int z:=by
    rw[OS]at n;cases e:q[i]? with
    |none=>rw[e]at n;cases n
    |some z=>rw[e]at n;exact⟨z,(PH n).symm⟩
   unfold dm KJ;refine iteT ?_;refine⟨_,rfl,_,rfl,G.map V.int,d,by rw[OH];exact qz (by lia),G++[if z<0 then -z else z],⟨_,rfl⟩,by rw[O1,l];rfl,λc hc=>?_,by rw[ao,Pw];rfl,by rw[bb r.symm];exact t,λb o e=>?_⟩
   .rcases PD.mp hc with hc|hc
    .exact m c hc
    .obtain rfl:c=_:=by simpa using hc
     split<;>lia
   .rw[bb (aB e (L.free B))]
    exact u b o e
  .rintro F g ⟨G,⟨v,rfl⟩,l,m,d,t,u⟩
   rw[OH]at l;refine⟨by decide,λp2 j=>⟨D,p2,_,_,rfl,rfl,by rw[bb (aB d j)];exact d,ao,by rw[OH];exact Qo (qz (by simp;lia)),λO y=>⟨(by show 3<=Pk;decide),λR f=>?_⟩⟩⟩;have T:bM g (upd g p2 (.lst [V.int 1])):=bM.upd j;have U:=T.trans (bM.upd (o:= .lst (G.map V.int++[V.int 1])) y);have J:O≠R:=λz=>by subst z;rw[ao]at f;cases f
   refine k R O _ ((u.trans U).free f) ((u.trans T).free y) ⟨G++[1],0,0,ao,by rw[bb J,ao,Pw];rfl,by simp,by rw[O1];simp;lia,λc hc=>?_,by decide⟩ ((u.trans U).trans (bM.upd f));rcases PD.mp hc with hc|hc
   .exact m c hc
   .obtain rfl:c=1:=by simpa using hc
    decide
theorem fP(N:o_ K mg a):FB P w K mg ac 2 "_law_pull" a.Br a.Bs ["_law_bag_here","_law_lot"] 2 cw:=⟨zq P w ac N,N.F8,N.F7.kp,N.F9⟩
abbrev QF(K:Pl)(a:Ad)(k:Nat)(x:PZ)(f:OM)(d:Py)(E:a0i)(n:Nat):={m:a0b->M D//∀(P:PM) (w:P0) {mg:a0j} (ac:Qt) (N:o_ K mg a),FB P w K mg ac k x f d E n m}
abbrev QM(K:Pl)(a:Ad)(k:Nat)(f:OM)(d:Py)(E:a0i)(n:Nat):={m:a0b->M D//∀(P:PM) (w:P0) {mg:a0j} (ac:Qt) (N:o_ K mg a),ee P w K mg ac (fx P w) k f d E (y2 K n m)}
theorem JB:br ["rows","columns","pair"] ["rows","columns","pair"] (ah (cp 13)):=fy
def Le(K:Pl)(a:Ad):QM K a 2 a.Af a.Ag ["rows","columns","pair"] 3:=⟨_,λP w mg ac N=>by
 exact bu (k:=1) 3 3 _ N.Dz JB rfl rfl λb A G s H E d=>am (aK (az (bp rfl (hL ["row","pair","columns"] ["row"] [2,1]) (cJ (by rfl) N.Dm (dq (vv 0))) (λM C c s H=>⟨(dy 0 e_),aT,λD=>aO rfl (bp rfl (hL ["column","pair"] ["column"] [1]) (cJ (by rfl) N.Dm (dq (vv 2))) (λM C c s H=>⟨(dy 0 e_),aT,λD=>aO rfl (vv 1) rfl⟩) aq ay (λD=>aS)) rfl⟩) aq ay (λD=>aS))))⟩
theorem rm:br ["rowsums","columnsums"] ["rowsums","columnsums"] (ah (cp 14)):=fy
def iC(K:Pl)(a:Ad):QF K a 2 "check_sums" a.Ah a.Ai ["rowsums","columnsums"] 2:=⟨_,λP w mg ac N=>⟨by
 exact bu (k:=1) 2 2 _ N.D4 rm rfl rfl λb A G s H E c=>af (bZ (nZ (vi jY jY nz nz (ai) (dA N.Dh (dq (vv 0))) (kB N.Dx))) (am (dW)) (bF))
   (af (bZ (nZ (vi jY jY nz nz (ai) (dA N.Dh (dq (vv 1))) (kB N.Dw))) (am (dW)) (bF))
   (af (bZ (kD (sE (lS (bK (lH rfl) xA (by rfl) N.Dc Boot.«any» (dq (bp rfl (hL ["many"] ["many"] []) (bh (vv 0)) (λM C d s H=>⟨(dy 0 e_),aT,λD=>aO rfl (jO rE xx (vv 0) (ai)) rfl⟩) aq ay (λD=>aS))))) (nV (lS (bK (lH rfl) xA (by rfl) N.Dc Boot.«any» (dq (bp rfl (hL ["many"] ["many"] []) (bh (vv 1)) (λM C d s H=>⟨(dy 0 e_),aT,λD=>aO rfl (jO rE xx (vv 0) (ai)) rfl⟩) aq ay (λD=>aS)))))))) (am (dW)) (bF))
   (af (bZ (bC (fY c) h9 (gf N.Dr (dq (vv 0))) (gf N.Dr (dq (vv 1)))) (am (dW)) (bF))
   (am (bZ (bC w8 DU (gf N.Dr (dq (vv 0))) (kB N.Dv)) (am (dW)) (bF)))))),N.D5,N.D4.kp,N.D6⟩⟩
theorem gT:br ["pair","low","high"] ["pair"] (ah (cp 15)):=fy
def iD(K:Pl)(a:Ad):QF K a 2 "check_pair" a.Aj a.Ak ["pair"] 1:=⟨_,λP w mg ac N=>⟨by
 exact bu (k:=1) 1 3 _ N.D7 gT rfl rfl λb A D s H E c=>af (HZ (jC (cI aI (cI aI ii)) (cE (cE gi))) (ef (vv 0) (bP rfl (aA (dy 1 gT.nd) (aA (dy 2 gT.nd) bA)))))
   (am (bZ (nZ (BW jY jY jY nz nz nz (ai) (vv 1) (vv 2) (kB N.Dv))) (am (dW)) (bF))),N.D8,N.D7.kp,N.D9⟩⟩
theorem eS:br ["bounds","rows","columns","pairs","pair"] ["bounds","rows","columns"] (ah (cp 16)):=fy
def cR(K:Pl)(a:Ad):QF K a 3 "settled_bounds" a.Al a.Am ["bounds","rows","columns"] 3:=⟨_,λP w mg ac N=>⟨by
 have c:=(Le K a).2 P w ac N;have b:=(iD K a).2 P w ac N
 exact bu (k:=2) 3 5 _ N.Ea eS rfl rfl λf A G s H E d=>af (bZ (bC tP xy (vv 0) (wG)) (am (aK (az (Jl c (d.mono (by decide)) (by rfl) N.D0 N.Dz.kp N.D3 i5 (dv (vv 1) (vv 2)) (λM S r e h=>by rw[(cj (cj ZA)) M S r e h];rfl))))) (bF))
   (af (bZ (kD (sE (bC (fY d) h9 (dA N.Dh (dq (vv 0))) (vv 1)) (nV (lS (bK (lH rfl) xA (by rfl) N.Dc Boot.«any» (dq (bp rfl (hL ["pairs","columns"] ["pairs"] [2]) (bh (vv 0)) (λV C g s H=>⟨(dy 0 e_),aT,λD=>aO rfl (jO (fY d) h9 (dA N.Dh (dq (vv 0))) (vv 1)) rfl⟩) aq ay (λD=>aS)))))))) (am (dW)) (bF))
   (af (bG aI (bo bV rfl (bh (vv 0)) (dy 3 eS.nd) (am (bG aI (bo bV rfl (bh (vv 3)) (dy 4 eS.nd) (am (oB (dC (vc b d (dq (vv 4)))))))))))
   (am (aK (az (bp rfl (hL ["pairs"] ["pairs"] []) (bh (vv 0)) (λV C g s H=>⟨(dy 0 e_),aT,λD=>aO rfl (dL gb oW (by rfl) N.Di Boot.«list» (dq (vv 0))) rfl⟩) aq ay (λD=>aS))))))),N.Eb,N.Ea.kp,N.Ec⟩⟩
theorem fU:br ["number","product","factor"] ["number"] (ah (cp 18)):=fy
def jl(K:Pl)(a:Ad):QF K a 2 "factorial" a.An a.Ao ["number"] 1:=⟨_,λP w mg ac N=>⟨by
 exact bu (k:=1) 1 3 _ N.Ed fU rfl rfl λb A D s H E c=>af (aN (eo 1 fU.nd (ai)))
   (af (bG aI (bo bV rfl (j5 (by rfl) N.Dm (dv (ai) (aV aM bH (vv 0) (ai)))) (dy 2 fU.nd) (am (oC vV (kU (i:=1) fU.nd rfl (by first|exact RM rfl|exact Ts rfl) (vv 2) vZ)))))
   (am (aK (az (vv 1))))),N.Ee,N.Ed.kp,N.Ef⟩⟩
theorem jt:br ["parts","part","told"] ["parts"] (ah (cp 19)):=fy
def tF(K:Pl)(a:Ad):QF K a 3 "ways" a.Aq a.Ar ["parts"] 1:=⟨_,λP w mg ac N=>⟨by
 have b:=(jl K a).2 P w ac N
 exact bu (k:=2) 1 3 _ N.Eg jt rfl rfl λd A D s H E c=>af (bG aI (bo bV rfl (bh (vv 0)) (dy 1 jt.nd) (am (bZ (bC rE xx (vv 1) (ai)) (am (dW)) (bF)))))
   (af (aN (eo 2 jt.nd (vc b c (dq (bK (AY rfl) LT (by rfl) N.Dr Boot.«sum» (dq (vv 0)))))))
   (af (bG aI (bo bV rfl (bh (vv 0)) (dy 1 jt.nd) (am (oC DS (kU (i:=2) jt.nd rfl (by first|exact RM rfl|exact Ts rfl) (vc b c (dq (vv 1))) Kc)))))
   (am (aK (az (vv 2)))))),N.Eh,N.Eg.kp,N.Ei⟩⟩
theorem cQ:br ["rests","many","pairs","lows","tops","begun","row","fewest_behind","most_behind"] ["rests","many","pairs"] (ah (cp 20)):=fy
def jT(K:Pl)(a:Ad):QF K a 2 "fillings" a.As a.At ["rests","many","pairs"] 3:=⟨_,λP w mg ac N=>⟨by
 exact bu (k:=1) 3 9 _ N.Ej cQ rfl rfl λc A G s H E d=>af (aN (eo 3 cQ.nd (bp rfl (hL ["low","high"] ["low","high"] []) (bh (vv 2)) (λM C b s H=>⟨(bP rfl (aA (dy 0 e_) (aA (dy 1 e_) bA))),aT,λD=>aO rfl (vv 0) rfl⟩) (da (aR aq (aR aq cz)) (aP (aP bS))) (c8 (aQ ay (aQ ay cr))) (λD=>aS))))
   (af (aN (eo 4 cQ.nd (bp rfl (hL ["rest","low","high"] ["rest","low","high"] []) (o8 (by rfl) N.Du (dv (vv 0) (vv 2))) (λM C b s H=>⟨(bP rfl (aA (dy 0 e_) (aA (bP rfl (aA (dy 1 e_) (aA (dy 2 e_) bA))) bA))),aT,λD=>aO rfl (bK (jc rfl) rK (by rfl) N.Dl Boot.«min» (dv (vv 0) (vv 2))) rfl⟩) (da (aR aq (aR (da (aR aq (aR aq cz)) (aP (aP bS))) cz)) (aP (aP bS))) (c8 (aQ ay (aQ (c8 (aQ ay (aQ ay cr))) cr))) (λD=>aS))))
   (af (aN (eo 5 cQ.nd (c7 (dq (cm (dv (cm (gA)) (vv 1)))))))
   (af (bG aI (bo bV rfl (cJ (by rfl) N.Dm (dq (dA N.Dh (dq (vv 0))))) (dy 6 cQ.nd) (af (aN (eo 7 cQ.nd (gf N.Dr (dq (vf (vv 3) (zt (aV aM bH (vv 6) (ai))) (zu))))))
   (af (aN (eo 8 cQ.nd (gf N.Dr (dq (vf (vv 4) (zt (aV aM bH (vv 6) (ai))) (zu))))))
   (am (yR (i:=5) cQ.nd rfl (by first|exact RM rfl|exact Ts rfl) rfl (hL ["counts","left","count","lows","row","most_behind","tops","fewest_behind"] ["counts","left","count"] [3,6,8,4,7]) (bh (vv 5)) (λM C b s H=>⟨(bP rfl (aA (dy 0 e_) (aA (dy 1 e_) bA))),aT,λD=>pT rfl rfl rfl (j5 (by rfl) N.Dm (dv (bK (qZ rfl) IO (by rfl) N.Dj Boot.«max» (dv (bN aY bW (vv 3) (vv 4)) (aV eA f6 (vv 1) (vv 5)))) (aV aM bH (bK (jc rfl) rK (by rfl) N.Dl Boot.«min» (dv (bN aY bW (vv 6) (vv 4)) (aV eA f6 (vv 1) (vv 7)))) (ai)))) (dy 2 e_) (aT) (aO rfl (cm (dv (aV aM bH (vv 0) (cm (dq (vv 2)))) (aV eA f6 (vv 1) (vv 2)))) rfl)⟩) (da (aR aq (aR aq cz)) (aP (aP bS))) (c8 (aQ ay (aQ ay cr))) (λD=>J7 aq ay (aS))))))))
   (am (aK (az (bp rfl (hL ["counts","left"] ["counts","left"] []) (bh (vv 5)) (λM C b s H=>⟨(bP rfl (aA (dy 0 e_) (aA (dy 1 e_) bA))),rV (bC (dD d) eL (vv 1) (ai)),λD=>aO rfl (vv 0) rfl⟩) (da (aR aq (aR aq cz)) (aP (aP bS))) (c8 (aQ ay (aQ ay cr))) (λD=>aS)))))))),N.Ek,N.Ej.kp,N.El⟩⟩
theorem wV:br ["rowsums","over"] ["rowsums","over"] (ah (cp 22)):=fy
def kR(K:Pl)(a:Ad):QF K a 2 "need_of" a.Au a.Av ["rowsums","over"] 2:=⟨_,λP w mg ac N=>⟨by
 exact bu (k:=1) 2 2 _ N.Em wV rfl rfl λb A G s H E c=>am (aK (az (gf N.Dr (dq (bp rfl (hL ["row","rowsums"] ["row"] [0]) (bh (vv 1)) (λM C d s H=>⟨(dy 0 e_),aT,λD=>aO rfl (bN aY bW (vv 1) (vv 0)) rfl⟩) aq ay (λD=>aS)))))),N.En,N.Em.kp,N.Eo⟩⟩
theorem ju:br ["columnsums","bounds","over","column","lows"] ["columnsums","bounds","over","column"] (ah (cp 23)):=fy
def cX(K:Pl)(a:Ad):QF K a 2 "room_inside" a.Aw a.Ax ["columnsums","bounds","over","column"] 4:=⟨_,λP w mg ac N=>⟨by
 exact bu (k:=1) 4 5 _ N.Ep ju rfl rfl λb A G s H E c=>af (yR (i:=4) ju.nd rfl (by first|exact RM rfl|exact Ts rfl) rfl (hL ["row","pairs","over","column"] ["row","pairs"] [2,3]) (lh (by rfl) N.De (dq (vv 1))) (λM C d s H=>⟨(bP rfl (aA (dy 0 e_) (aA (dy 1 e_) bA))),rV (bC kX (DT (neg:=OL)) (vv 0) (vv 2)),λD=>aO rfl (bN aY bW (bN aY bW (vv 1) (vv 3)) (ai)) rfl⟩) (da (aR aq (aR aq cz)) (aP (aP bS))) (c8 (aQ ay (aQ ay cr))) (λD=>aS))
   (am (aK (az (aV eA f6 (bN aY bW (vv 0) (vv 3)) (gf N.Dr (dq (vv 4))))))),N.Er,N.Ep.kp,N.Es⟩⟩
theorem pO:br ["bounds","over","column"] ["bounds","over","column"] (ah (cp 24)):=fy
def cY(K:Pl)(a:Ad):QF K a 2 "room_beside" a.Ay a.Az ["bounds","over","column"] 3:=⟨_,λP w mg ac N=>⟨by
 exact bu (k:=1) 3 3 _ N.Et pO rfl rfl λb A G s H E c=>am (aK (az (gf N.Dr (dq (bp rfl (hL ["row","bounds","column"] ["row"] [0,2]) (bh (vv 1)) (λM C d s H=>⟨(dy 0 e_),aT,λD=>aO rfl (bN aY bW (bN aY bW (bN aY bW (vv 1) (vv 0)) (vv 2)) (ai)) rfl⟩) aq ay (λD=>aS)))))),N.Eu,N.Et.kp,N.Ev⟩⟩
theorem wU:br ["columnsums","bounds","over","into"] ["columnsums","bounds","over","into"] (ah (cp 25)):=fy
def kQ(K:Pl)(a:Ad):QF K a 3 "room_of" a.A0 a.A1 ["columnsums","bounds","over","into"] 4:=⟨_,λP w mg ac N=>⟨by
 have b:=(cX K a).2 P w ac N;have c:=(cY K a).2 P w ac N;exact bu (k:=2) 4 4 _ N.Ew wU rfl rfl λe A G s H E d=>am (aK (az (gf N.Dr (dq (bp rfl (hL ["column","into","columnsums","bounds","over"] ["column"] [3,0,1,2]) (cJ (by rfl) N.Dm (dq (dA N.Dh (dq (vv 0))))) (λM C f s H=>⟨(dy 0 e_),aT,λD=>aO rfl (v_if (bC zm (DT (neg:=OQ)) (vv 0) (vv 1)) (vc b d (ss (vv 2) (vv 3) (vv 4) (vv 0))) (vc c d (pj (vv 3) (vv 4) (vv 0)))) rfl⟩) aq ay (λD=>aS)))))),N.Ex,N.Ew.kp,N.Ey⟩⟩
theorem sS:br ["columnsums","bounds","over"] ["columnsums","bounds","over"] (ah (cp 26)):=fy
def ji(K:Pl)(a:Ad):QF K a 3 "narrowest" a.A2 a.A3 ["columnsums","bounds","over"] 3:=⟨_,λP w mg ac N=>⟨by
 have b:=(cX K a).2 P w ac N;have c:=(cY K a).2 P w ac N;exact bu (k:=2) 3 3 _ N.Ez sS rfl rfl λe A G s H E d=>am (aK (az (bp rfl (hL ["column","columnsums","bounds","over"] ["column"] [0,1,2]) (cJ (by rfl) N.Dm (dq (dA N.Dh (dq (vv 0))))) (λM C f s H=>⟨(dy 0 e_),rV (bC rE xx (vc b d (ss (vv 1) (vv 2) (vv 3) (vv 0))) (vc c d (pj (vv 2) (vv 3) (vv 0)))),λD=>aO rfl (vv 0) rfl⟩) aq ay (λD=>aS)))),N.E2,N.Ez.kp,N.E3⟩⟩
theorem hV:br ["many","told","number"] ["many"] (ah (cp 27)):=fy
def kT(K:Pl)(a:Ad):QF K a 2 "choices" a.A4 a.A5 ["many"] 1:=⟨_,λP w mg ac N=>⟨by
 exact bu (k:=1) 1 3 _ N.E4 hV rfl rfl λb A G s H E c=>af (aN (eo 1 hV.nd (c7 (dq (c7 (gA))))))
   (af (bG aI (bo bV rfl (cJ (by rfl) N.Dm (dq (vv 0))) (dy 2 hV.nd) (am (aN (eo 1 hV.nd (aV aM bH (vv 1) (bp rfl (hL ["chosen","number"] ["chosen"] [2]) (bh (vv 1)) (λM C d s H=>⟨(dy 0 e_),aT,λD=>aO rfl (aV aM bH (vv 0) (c7 (dq (vv 1)))) rfl⟩) aq ay (λD=>aS))))))))
   (am (aK (az (vv 1))))),N.E5,N.E4.kp,N.E6⟩⟩
theorem iu:br ["rowsums","columnsums","bounds","over","into"] ["rowsums","columnsums","bounds"] (ah (cp 28)):=fy
def ff(K:Pl)(a:Ad):QF K a 4 "check_fit" a.A6 a.A7 ["rowsums","columnsums","bounds"] 3:=⟨_,λP w mg ac N=>⟨by
 have c:=(kT K a).2 P w ac N;have b:=(ji K a).2 P w ac N;have d:=(kR K a).2 P w ac N;have e:=(kQ K a).2 P w ac N
 exact bu (k:=3) 3 5 _ N.E7 iu rfl rfl λg A D s H E f=>am (bG aI (bo bV rfl (bh (vc c f (dq (dA N.Dh (dq (vv 0)))))) (dy 3 iu.nd) (af (aN (eo 4 iu.nd (vc b f (pj (vv 1) (vv 2) (vv 3)))))
   (am (bZ (bC w8 DU (vc d f (dv (vv 0) (vv 3))) (vc e f (ss (vv 1) (vv 2) (vv 3) (vv 4)))) (am (dW)) (bF)))))),N.E8,N.E7.kp,N.E9⟩⟩
theorem ft:br ["rowsums","wide","many"] ["rowsums"] (ah (cp 31)):=fy
def iB(K:Pl)(a:Ad):QF K a 2 "check_wide" a.A8 a.A9 ["rowsums"] 1:=⟨_,λP w mg ac N=>⟨by
 exact bu (k:=1) 1 3 _ N.Fa ft rfl rfl λb A D s H E c=>af (aN (eo 1 ft.nd (ai)))
   (af (bG aI (bo bV rfl (bh (vv 0)) (dy 2 ft.nd) (am (oC vV (kU (i:=1) ft.nd rfl (by first|exact RM rfl|exact Ts rfl) (aV aM bH (vv 2) (ai)) vZ)))))
   (am (bZ (bC w8 DU (vv 1) (kB N.Dy)) (am (dW)) (bF)))),N.Fb,N.Fa.kp,N.Fc⟩⟩
theorem gC:br ["rowsums","columnsums","bounds","settled"] ["rowsums","columnsums","bounds"] (ah (cp 32)):=fy
def dj(K:Pl)(a:Ad):QF K a 4 "settled_for_net" a.Ba a.Bb ["rowsums","columnsums","bounds"] 3:=⟨_,λP w mg ac N=>⟨by
 have c:=(iC K a).2 P w ac N;have b:=(cR K a).2 P w ac N;have d:=(iB K a).2 P w ac N
 exact bu (k:=3) 3 4 _ N.Fd gC rfl rfl λf A D s H E e=>af (oB (dC (vc c e (dv (vv 0) (vv 1)))))
   (af (aN (eo 3 gC.nd (vc b e (pj (vv 2) (dA N.Dh (dq (vv 0))) (dA N.Dh (dq (vv 1)))))))
   (af (oB (dC (vc d e (dq (vv 0)))))
   (am (aK (az (vv 3)))))),N.Fe,N.Fd.kp,N.Ff⟩⟩
theorem kI:br ["rests","columnsums","bounds","column"] ["rests","columnsums","bounds","column"] (ah (cp 33)):=fy
def cL(K:Pl)(a:Ad):QF K a 3 "column_fillings" a.Bc a.Bd ["rests","columnsums","bounds","column"] 4:=⟨_,λP w mg ac N=>⟨by
 have b:=(jT K a).2 P w ac N;exact bu (k:=2) 4 4 _ N.Fg kI rfl rfl λc A G s H E d=>am (aK (az (vc b d (pj (vv 0) (bN aY bW (vv 1) (vv 3)) (bp rfl (hL ["pairs","column"] ["pairs"] [3]) (bh (vv 2)) (λM C e s H=>⟨(dy 0 e_),aT,λD=>aO rfl (bN aY bW (vv 0) (vv 1)) rfl⟩) aq ay (λD=>aS)))))),N.Fh,N.Fg.kp,N.Fi⟩⟩
theorem oo:br ["rests","counts"] ["rests","counts"] (ah (cp 34)):=fy
def eK(K:Pl)(a:Ad):QF K a 2 "rests_behind" a.Be a.Bf ["rests","counts"] 2:=⟨_,λP w mg ac N=>⟨by
 exact bu (k:=1) 2 2 _ N.Fj oo rfl rfl λb A G s H E c=>am (aK (az (dL dR jE (by rfl) N.Dt Boot.«tuple» (dq (bp rfl (hL ["rest","count"] ["rest","count"] []) (o8 (by rfl) N.Du (dv (vv 0) (vv 1))) (λM C d s H=>⟨(bP rfl (aA (dy 0 e_) (aA (dy 1 e_) bA))),aT,λD=>aO rfl (aV eA f6 (vv 0) (vv 1)) rfl⟩) (da (aR aq (aR aq cz)) (aP (aP bS))) (c8 (aQ ay (aQ ay cr))) (λD=>aS)))))),N.Fk,N.Fj.kp,N.Fl⟩⟩
theorem bU:br ["rowsums","columnsums","bounds","here","told","column","behind"] ["rowsums","columnsums","bounds"] (ah (cp 35)):=fy
def fI(K:Pl)(a:Ad):QF K a 4 "nodes_by_level" a.Bh a.Bi ["rowsums","columnsums","bounds"] 3:=⟨_,λP w mg ac N=>⟨by
 have c:=(eK K a).2 P w ac N;have b:=(cL K a).2 P w ac N
 exact bu (k:=3) 3 7 _ N.Fm bU rfl rfl λe A G s H E d=>af (aN (eo 3 bU.nd (c7 (dq (dL dR jE (by rfl) N.Dt Boot.«tuple» (dq (vv 0)))))))
   (af (ow (eo 4 bU.nd (fW (dq (vv 3)))))
   (af (bG aI (bo bV rfl (cJ (by rfl) N.Dm (dq (dA N.Dh (dq (vv 1))))) (dy 5 bU.nd) (af (aN (eo 6 bU.nd (BT (by rfl) N.Dp rfl (hL ["rests","counts","columnsums","bounds","column"] ["rests","counts"] [1,2,5]) (bh (vv 3)) (λM C f s H=>⟨(dy 0 e_),aT,λD=>pT rfl rfl rfl (bh (vc b d (ss (vv 0) (vv 2) (vv 3) (vv 4)))) (dy 1 e_) (aT) (tM (rP d) rfl (vc c d (dv (vv 0) (vv 1))) rfl)⟩) aq ay (λD=>nu aq ay (DO)))))
   (af (lX (dC (l5 Ri RC RE fN (pv 4) (dq (vv 6)))))
   (am (aN (eo 3 bU.nd (vv 6))))))))
   (am (aK (az (vv 4)))))),N.Fn,N.Fm.kp,N.Fo⟩⟩
theorem bO:br ["rests","filled","behind","tables","dealings","counts","tables_behind","dealings_behind"] ["rests","filled","behind"] (ah (cp 36)):=fy
def gU(K:Pl)(a:Ad):QF K a 4 "node_counts" a.Bj a.Bk ["rests","filled","behind"] 3:=⟨_,λP w mg ac N=>⟨by
 have b:=(eK K a).2 P w ac N;have c:=(tF K a).2 P w ac N
 exact bu (k:=3) 3 8 _ N.Fp bO rfl rfl λe A D s H E d=>af (aN (eo 3 bO.nd (ai)))
   (af (aN (eo 4 bO.nd (ai)))
   (af (bG aI (bo bV rfl (bh (vv 1)) (dy 5 bO.nd) (af (HZ (jC (cI aI (cI aI ii)) (cE (cE gi))) (ef (bN (oY (Zv d)) xz (vv 2) (vc b d (dv (vv 0) (vv 5)))) (bP rfl (aA (dy 6 bO.nd) (aA (dy 7 bO.nd) bA)))))
   (af (oC vW (kU (i:=3) bO.nd rfl (by first|exact RM rfl|exact Ts rfl) (vv 6) AA))
   (am (oC vW (kU (i:=4) bO.nd rfl (by first|exact RM rfl|exact Ts rfl) (aV l7 rJ (vc c d (dq (vv 5))) (vv 7)) AA)))))))
   (am (aK (az (cm (dv (vv 3) (vv 4)))))))),N.Fq,N.Fp.kp,N.Fs⟩⟩
theorem bD:br ["rowsums","columnsums","bounds","levels","last","here","told","level","behind"] ["rowsums","columnsums","bounds"] (ah (cp 37)):=fy
def d6(K:Pl)(a:Ad):QF K a 5 "counted_nodes" a.Bl a.Bm ["rowsums","columnsums","bounds"] 3:=⟨_,λP w mg ac N=>⟨by
 have d:=(fI K a).2 P w ac N;have c:=(cL K a).2 P w ac N;have e:=(gU K a).2 P w ac N
 exact bu (k:=4) 3 9 _ N.Ft bD rfl rfl λh A G s H E f=>af (aN (eo 3 bD.nd (vc d f (pj (vv 0) (vv 1) (vv 2)))))
   (af (aN (eo 4 bD.nd (dA N.Dh (dq (vv 1)))))
   (af (yQ (kb:=OQ) (i:=5) bD.nd rfl (by first|exact RM rfl|exact Ts rfl) rfl (hL ["rests"] ["rests"] []) (bh (bN aY bW (vv 3) (vv 4))) (λM C g s H=>⟨(dy 0 e_),aT,λD=>jV (b:=OQ) (rP f) rfl (vv 0) (cm (dv (ai) (ai))) rfl⟩) aq ay (λD=>ny))
   (af (ow (eo 6 bD.nd (fW (dq (vv 5)))))
   (af (bG aI (bo bV rfl (ED (by rfl) N.Do (by rfl) N.Dm (dq (vv 4))) (dy 7 bD.nd) (af (aN (eo 8 bD.nd (vv 5)))
   (af (yQ (kb:=OQ) (i:=5) bD.nd rfl (by first|exact RM rfl|exact Ts rfl) rfl (hL ["rests","columnsums","bounds","level","behind"] ["rests"] [1,2,7,8]) (bh (bN aY bW (vv 3) (vv 7))) (λM C g s H=>⟨(dy 0 e_),aT,λD=>jV (b:=OQ) (rP f) rfl (vv 0) (vc e f (pj (vv 0) (vc c f (ss (vv 0) (vv 1) (vv 2) (vv 3))) (vv 4))) rfl⟩) aq ay (λD=>ny))
   (am (lX (dC (l5 Ri RC RE fN (pv 6) (dq (vv 5))))))))))
   (am (aK (az (Jk (kb:=OL) rfl (hL ["level","nodes","rests","counts"] ["level","nodes","rests","counts"] []) (lh (by rfl) N.De (dq (NH (vv 6) (Ky ym IN (ai))))) (λM C g s H=>⟨(bP rfl (aA (dy 0 e_) (aA (dy 1 e_) bA))),aT,λD=>pT rfl rfl rfl (v7 (vv 1)) (bP rfl (aA (dy 2 e_) (aA (dy 3 e_) bA))) (aT) (jV (b:=OL) (rP f) rfl (cm (dv (vv 0) (vv 2))) (vv 3) rfl)⟩) (da (aR aq (aR aq cz)) (aP (aP bS))) (c8 (aQ ay (aQ ay cr))) (λD=>nu (da (aR aq (aR aq cz)) (aP (aP bS))) (c8 (aQ ay (aQ ay cr))) (ny)))))))))),N.Fu,N.Ft.kp,N.Fv⟩⟩
theorem rj:br ["counted"] ["counted"] (ah (cp 38)):=fy
def iA(K:Pl)(a:Ad):{m:a0b->M a0b//∀(P:PM) (w:P0) {mg:a0j} (ac:Qt) (_:o_ K mg a),ee P w K mg ac (fx P w) 2 a.Bn a.Bo ["counted"] (X_ K (ck K) 1 m)}:=⟨_,λP w mg ac N=>by
 exact AL (k:=1) 1 1 _ N.Fw rj rfl rfl λb A G s H E c=>ig (az (zw rfl (hL ["level","rests","tables","dealings"] ["level","rests","tables","dealings"] []) (v7 (vv 0)) (λS C d s H=>⟨(bP rfl (aA (bP rfl (aA (dy 0 e_) (aA (dy 1 e_) bA))) (aA (bP rfl (aA (dy 2 e_) (aA (dy 3 e_) bA))) bA))),aT,λD=>aO rfl (cm (ss (vv 0) (vv 1) (vv 2) (vv 3))) rfl⟩) (da (aR (da (aR aq (aR aq cz)) (aP (aP bS))) (aR (da (aR aq (aR aq cz)) (aP (aP bS))) cz)) (aP (aP bS))) (c8 (aQ (c8 (aQ ay (aQ ay cr))) (aQ (c8 (aQ ay (aQ ay cr))) cr))) (λD=>aS)))⟩
theorem yM:br ["_law_found","_law_due"] ["_law_found","_law_due"] (ah (cp 43)):=fy
def gv(K:Pl)(a:Ad)(b:a0b->M D):G:=
  aD (ri (uF (aL rN (aa (ag 1) (aa (aL fE (aa (fC (.ty "list")) (aa (fC (.ty "tuple")) (ax)))) (ax))))) (aD (ri (qc (fB (f2 (gX) (aL iK (aa (ag 1) (aa (fC (.ty "list")) (ax)))) (aL iK (aa (ag 0) (aa (fC (.ty "list")) (ax)))))) (fB (f2 (gX) (aL iK (aa (ag 1) (aa (fC (.ty "tuple")) (ax)))) (aL iK (aa (ag 0) (aa (fC (.ty "tuple")) (ax))))))) (eV (fC (.bl OQ))) (gNil))
  (aD (ri (fB (f2 (gX) (aL fZ (aa (ag 0) (ax))) (aL fZ (aa (ag 1) (ax))))) (eV (fC (.bl OQ))) (gNil))
  (eV (f2 (F0 OL) (fC (.bl OQ)) (cN 2 [] (xj (aa (ag 0) (aa (ag 1) (ax)))) (J_ (fF (gs 0) (fF (gs 1) jP))) (λ_=>M.ret OL) (j2 (bz b (aa (ag 0) (aa (ag 1) (ax)))))))))) (gNil))
  (aD (ri (fB (f2 (xI) (ag 1) (fC .non))) (eV (f2 (xI) (ag 0) (fC .non))) (gNil))
  (aD (ri (qc (fB (f2 (gX) (aL iK (aa (ag 1) (aa (fC (.ty "str")) (ax)))) (aL iK (aa (ag 0) (aa (fC (.ty "str")) (ax)))))) (fB (f2 (gX) (aL iK (aa (ag 1) (aa (fC (.ty "bool")) (ax)))) (aL iK (aa (ag 0) (aa (fC (.ty "bool")) (ax))))))) (eV (fC (.bl OQ))) (gNil))
  (eV (xT (aL rN (aa (ag 0) (aa (aL fE (aa (fC (.ty "int")) (aa (fC (.ty "str")) (ax)))) (ax)))) (f2 (fK) (ag 0) (ag 1))))))
def cT(K:Pl)(a:Ad):Nat->a0b->M D
 |0=>λ_=>M.fail
 |n+1=>d7 2 (gv K a (cT K a n))
theorem oO(N:o_ K mg a):∀n,ee P w K mg ac (fx P w) (n+1) a.Bt a.Bu ["_law_found","_law_due"] (y2 K 2 (cT K a n))
 |0=>⟨λS H Q E h=>h.1,λA G s H M m S Q E b g i r h=>by
  obtain⟨_,F,o,p,_,_,j,V,e,_⟩:=h;cases e⟩
 |n+1=>by
  have c:=oO N n;unfold cT;exact bu (k:=n+1) 2 2 (gv K a (cT K a n)) N.Ga yM rfl rfl λf A G s H E b=>af (bZ (lS (bK pz zV (by rfl) N.Dg Boot.«isinstance» (dv (vv 1) (cm (dv (p0 (d:= .ty "list") (cZ (v:= .ty "list") (by rfl) N.Di Boot.«list» rfl) (λ_ _=>rfl)) (p0 (d:= .ty "tuple") (cZ (v:= .ty "tuple") (by rfl) N.Dt Boot.«tuple» rfl) (λ_ _=>rfl))))))) (af (bZ (kD (sE (bC (fY b) h9 (kC N.Dg (dv (vv 1) (p0 (d:= .ty "list") (cZ (v:= .ty "list") (by rfl) N.Di Boot.«list» rfl) (λ_ _=>rfl)))) (kC N.Dg (dv (vv 0) (p0 (d:= .ty "list") (cZ (v:= .ty "list") (by rfl) N.Di Boot.«list» rfl) (λ_ _=>rfl))))) (nV (bC (fY b) h9 (kC N.Dg (dv (vv 1) (p0 (d:= .ty "tuple") (cZ (v:= .ty "tuple") (by rfl) N.Dt Boot.«tuple» rfl) (λ_ _=>rfl)))) (kC N.Dg (dv (vv 0) (p0 (d:= .ty "tuple") (cZ (v:= .ty "tuple") (by rfl) N.Dt Boot.«tuple» rfl) (λ_ _=>rfl)))))))) (am (aK (az (pJ)))) (bF))
   (af (bZ (bC (fY b) h9 (dA N.Dh (dq (vv 0))) (dA N.Dh (dq (vv 1)))) (am (aK (az (pJ)))) (bF))
   (am (aK (az (jO kX (DT (neg:=OL)) (pJ) (bp rfl (hL ["_law_one","_law_other"] ["_law_one","_law_other"] []) (o8 (by rfl) N.Du (dv (vv 0) (vv 1))) (λq C l s H=>⟨(bP rfl (aA (dy 0 e_) (aA (dy 1 e_) bA))),aT,λD=>aO rfl (yk c (b.mono (OW _)) (by rfl) N.Gb N.Ga.kp N.Gc w6 (dv (vv 0) (vv 1)) (cj (cj ZA))) rfl⟩) (da (aR aq (aR aq cz)) (aP (aP bS))) (c8 (aQ ay (aQ ay cr))) (λD=>aS)))))))) (bF))
   (af (bZ (bC tP xy (vv 1) (wG)) (am (aK (az (jO tP xy (vv 0) (wG))))) (bF))
   (af (bZ (kD (sE (bC (fY b) h9 (kC N.Dg (dv (vv 1) (p0 (d:= .ty "str") (cZ (v:= .ty "str") (by rfl) N.Dq Boot.«str» rfl) (λ_ _=>rfl)))) (kC N.Dg (dv (vv 0) (p0 (d:= .ty "str") (cZ (v:= .ty "str") (by rfl) N.Dq Boot.«str» rfl) (λ_ _=>rfl))))) (nV (bC (fY b) h9 (kC N.Dg (dv (vv 1) (p0 (d:= .ty "bool") (cZ (v:= .ty "bool") (by rfl) N.Dd Boot.«bool» rfl) (λ_ _=>rfl)))) (kC N.Dg (dv (vv 0) (p0 (d:= .ty "bool") (cZ (v:= .ty "bool") (by rfl) N.Dd Boot.«bool» rfl) (λ_ _=>rfl)))))))) (am (aK (az (pJ)))) (bF))
   (am (aK (az (HP (bK pz zV (by rfl) N.Dg Boot.«isinstance» (dv (vv 0) (cm (dv (p0 (d:= .ty "int") (cZ (v:= .ty "int") (by rfl) N.Df Boot.«int» rfl) (λ_ _=>rfl)) (p0 (d:= .ty "str") (cZ (v:= .ty "str") (by rfl) N.Dq Boot.«str» rfl) (λ_ _=>rfl)))))) (HM (jO (dD b) eL (vv 0) (vv 1)))))))))
theorem zo(N:o_ K mg a):FB P w K mg ac 7 "_law_same" a.Bt a.Bu ["_law_found","_law_due"] 2 (cT K a 5):=⟨(oO P w ac N 5).mono (by decide),N.Gb,N.Ga.kp,N.Gc⟩
theorem gE:br ["_law_bag_here","_law_block","_law_columns","_law_things","_law_grid_here","_law_thing","_law_at","_law_to"] ["_law_bag_here","_law_block","_law_columns","_law_things"] (ah (cp 44)):=fy
def nE(K:Pl)(a:Ad):G:=
  aD (qa 4 (gL 1 [2] (cu fG (aa (ag 1) (ax))) (gs 0) (λ_=>M.ret OL) (ql (xg (aa (fC (.int 0)) (ax)) (ag 1)))))
  (aD (EK (cu fG (aa (ag 3) (ax))) (sgN 5) (aD (f9 6 (bz cw (aa (ag 0) (aa (ag 1) (ax)))))
  (aD (f9 7 (bz cw (aa (ag 0) (aa (ag 2) (ax)))))
  (mn 4 (ag 6) (ag 7) (f2 eZ (f2 hY (f2 hY (ag 4) (ag 6)) (ag 7)) (fC (.int 1)))))))
  (eV (ag 4)))
def fJ(K:Pl)(a:Ad):a0b->M D:=d7 8 (nE K a)
theorem qL(N:o_ K mg a):FB P w K mg ac 3 "_law_grid" a.Bv a.Bw ["_law_bag_here","_law_block","_law_columns","_law_things"] 4 (fJ K a):=⟨by
 have b:=fP P w ac N;unfold fJ
 exact bu (k:=2) 4 8 (nE K a) N.Gd gE rfl rfl λd A G s H E c=>af (K2 (i:=4) gE.nd rfl (by first|exact RM rfl|exact Ts rfl) rfl (hL ["_law_row","_law_columns"] ["_law_row"] [2]) (cJ (by rfl) N.Dm (dq (vv 1))) (λM C e s H=>⟨(dy 0 e_),aT,λD=>aO rfl (N3 (dq (ai)) (vv 1)) rfl⟩) aq ay (λD=>vS))
   (af (bG aI (bo bV rfl (cJ (by rfl) N.Dm (dq (vv 3))) (dy 5 gE.nd) (af (aN (eo 6 gE.nd (vc b c (dv (vv 0) (vv 1)))))
   (af (aN (eo 7 gE.nd (vc b c (dv (vv 0) (vv 2)))))
   (am (tq (ef (aV aM bH (bN aY bW (bN aY bW (vv 4) (vv 6)) (vv 7)) (ai)) (fV (fX dG (pv 4) (vv 6) (λ_ _=>rfl)) (vv 7) gj))))))))
   (am (aK (az (vv 4))))),N.Ge,N.Gd.kp,N.Gf⟩
theorem hC:br ["_law_bag_here","_law_way","_law_block","_law_columns"] ["_law_bag_here"] (ah (cp 45)):=fy
def iY(K:Pl)(a:Ad):QF K a 4 "_law_small" a.Bx a.By ["_law_bag_here"] 1:=⟨_,λP w mg ac N=>⟨by
 have b:=fP P w ac N;have c:=qL P w ac N
 exact bu (k:=3) 1 4 _ N.Gg hC rfl rfl λe A D s H E d=>af (aN (eo 1 hC.nd (vc b d (dv (vv 0) (ai)))))
   (af (bZ (bC (dD d) eL (vv 1) (ai)) (am (aK (az (vc c d (ss (vv 0) (ai) (ai) (vc b d (dv (vv 0) (ai)))))))) (bF))
   (af (bZ (bC (dD d) eL (vv 1) (ai)) (am (aK (az (vc c d (ss (vv 0) (ai) (aV aM bH (ai) (vc b d (dv (vv 0) (ai)))) (vc b d (dv (vv 0) (ai)))))))) (bF))
   (af (bZ (bC (dD d) eL (vv 1) (ai)) (am (aK (az (vc c d (ss (vv 0) (aV aM bH (ai) (vc b d (dv (vv 0) (ai)))) (ai) (vc b d (dv (vv 0) (ai)))))))) (bF))
   (af (aN (eo 2 hC.nd (aV aM bH (ai) (vc b d (dv (vv 0) (ai))))))
   (af (aN (eo 3 hC.nd (aV aM bH (ai) (vc b d (dv (vv 0) (ai))))))
   (am (aK (az (vc c d (ss (vv 0) (vv 2) (vv 3) (vc b d (dv (vv 0) (ai))))))))))))),N.Gi,N.Gg.kp,N.Gj⟩⟩
theorem iR:br ["_law_bag_here","_law_grid_here","_law_lot","_law_first"] ["_law_bag_here"] (ah (cp 46)):=fy
def nC(K:Pl)(a:Ad):G:=
  aD (uw 1 (ax))
  (aD (EK (dE (f2 hY (aL dQ (aa (aL dQ (aa (fC (.int 40)) (ax))) (aa (aL dQ (aa (fC (.int 39)) (aa (fC (.int 1)) (ax)))) (aa (aL dQ (aa (fC (.int 30)) (aa (fC (.int 10)) (ax)))) (aa (aL dQ (aa (fC (.int 20)) (aa (fC (.int 20)) (ax)))) (aa (aL dQ (aa (fC (.int 24)) (aa (fC (.int 15)) (ax)))) (aa (aL dQ (aa (fC (.int 13)) (aa (fC (.int 27)) (ax)))) (ax)))))))) (bz cw (aa (ag 0) (aa (fC (.int 6)) (ax)))))) (sgN 2) (aD (f9 3 (bz cw (aa (ag 0) (aa (f2 eZ (ag 2) (fC (.int 1))) (ax)))))
  (uA 1 (aa (aL dQ (aa (ag 3) (aa (f2 KQ (ag 2) (ag 3)) (ax)))) (ax)))))
  (eV (ag 1)))
def iI(K:Pl)(a:Ad):a0b->M D:=d7 4 (nC K a)
theorem zn(N:o_ K mg a):FB P w K mg ac 3 "_law_wide" a.Bz a.B0 ["_law_bag_here"] 1 (iI K a):=⟨by
 have b:=fP P w ac N;unfold iI;refine bu (k:=2) 1 4 (nC K a) N.Gk iR rfl rfl λe A D s H E c=>?_;refine af (ow (eo 1 iR.nd (fW (gA)))) ?_;refine af ?_ ?_
 rotate_left
 exact(am (aK (az (vv 1))));refine bG (tgg:=dm 2) ?_ ?_;exact aI;generalize d:Expr.Subscript _ _ _=q;refine bo bV rfl ?_ (dy 2 iR.nd) ?_ ?_;subst d;refine bh ?_;refine NJ ?_ ?_;refine c7 ?_;refine dU ?_ ?_;refine c7 ?_;exact dq ai;refine dU ?_ ?_;refine c7 ?_;exact dv ai ai;refine dU ?_ ?_;refine c7 ?_;exact dv ai ai;refine dU ?_ ?_;refine c7 ?_;exact dv ai ai;refine dU ?_ ?_;refine c7 ?_;exact dv ai ai;refine dU ?_ ?_;refine c7 ?_;exact dv ai ai;exact gA;exact(vc b c (dv (vv 0) (ai)));exact af (aN (eo 3 iR.nd (vc b c (dv (vv 0) (aV aM bH (vv 2) (ai)))))) (am (lX (dC (l5 Ri RC RE fN (pv 1) (dq (c7 (dv (vv 3) (aV eA f6 (vv 2) (vv 3)))))))));subst d;intro _;rfl,N.Gm,N.Gk.kp,N.Gn⟩
theorem hG:br ["_law_bag_here","_law_way","_law_block","_law_columns"] ["_law_bag_here"] (ah (cp 47)):=fy
def li(K:Pl)(a:Ad):G:=
  aD (ri (fB (f2 (fK) (bz cw (aa (ag 0) (aa (fC (.int 6)) (ax)))) (fC (.int 0)))) (eV (bz (iI K a) (aa (ag 0) (ax)))) (gNil))
  (aD (f9 1 (bz cw (aa (ag 0) (aa (fC (.int 5)) (ax)))))
  (aD (ri (fB (f2 (fK) (ag 1) (fC (.int 0)))) (eV (bz (fJ K a) (aa (ag 0) (aa (fC (.int 2)) (aa (f2 eZ (fC (.int 2)) (bz cw (aa (ag 0) (aa (fC (.int 5)) (ax))))) (aa (bz cw (aa (ag 0) (aa (fC (.int 25)) (ax)))) (ax))))))) (gNil))
  (aD (ri (fB (f2 (fK) (ag 1) (fC (.int 1)))) (eV (bz (fJ K a) (aa (ag 0) (aa (fC (.int 4)) (aa (f2 eZ (fC (.int 2)) (bz cw (aa (ag 0) (aa (fC (.int 2)) (ax))))) (aa (bz cw (aa (ag 0) (aa (fC (.int 9)) (ax)))) (ax))))))) (gNil))
  (aD (f9 2 (f2 eZ (fC (.int 2)) (bz cw (aa (ag 0) (aa (fC (.int 2)) (ax))))))
  (aD (f9 3 (f2 eZ (fC (.int 2)) (bz cw (aa (ag 0) (aa (fC (.int 3)) (ax))))))
  (eV (bz (fJ K a) (aa (ag 0) (aa (ag 2) (aa (ag 3) (aa (bz cw (aa (ag 0) (aa (fC (.int 12)) (ax)))) (ax))))))))))))
def i8(K:Pl)(a:Ad):a0b->M D:=d7 4 (li K a)
theorem xb(N:o_ K mg a):FB P w K mg ac 4 "_law_large" a.B4 a.B5 ["_law_bag_here"] 1 (i8 K a):=⟨by
 have b:=fP P w ac N;have e:=zn P w ac N;have c:=qL P w ac N;unfold i8
 exact bu (k:=3) 1 4 (li K a) N.Gp hG rfl rfl λf A D s H E d=>af (bZ (bC (dD d) eL (vc b d (dv (vv 0) (ai))) (ai)) (am (aK (az (vc e d (dq (vv 0)))))) (bF))
   (af (aN (eo 1 hG.nd (vc b d (dv (vv 0) (ai)))))
   (af (bZ (bC (dD d) eL (vv 1) (ai)) (am (aK (az (vc c d (ss (vv 0) (ai) (aV aM bH (ai) (vc b d (dv (vv 0) (ai)))) (vc b d (dv (vv 0) (ai)))))))) (bF))
   (af (bZ (bC (dD d) eL (vv 1) (ai)) (am (aK (az (vc c d (ss (vv 0) (ai) (aV aM bH (ai) (vc b d (dv (vv 0) (ai)))) (vc b d (dv (vv 0) (ai)))))))) (bF))
   (af (aN (eo 2 hG.nd (aV aM bH (ai) (vc b d (dv (vv 0) (ai))))))
   (af (aN (eo 3 hG.nd (aV aM bH (ai) (vc b d (dv (vv 0) (ai))))))
   (am (aK (az (vc c d (ss (vv 0) (vv 2) (vv 3) (vc b d (dv (vv 0) (ai))))))))))))),N.Gq,N.Gp.kp,N.Gr⟩
theorem u5:br ["_law_block"] ["_law_block"] (ah (cp 48)):=fy
def oH(K:Pl)(a:Ad):QF K a 2 "_law_turned" a.B7 a.B8 ["_law_block"] 1:=⟨_,λP w mg ac N=>⟨by
 exact bu (k:=1) 1 1 _ N.Gs u5 rfl rfl λb A G s H E d=>am (aK (az (bp rfl (hL ["_law_to","_law_block"] ["_law_to"] [0]) (cJ (by rfl) N.Dm (dq (dA N.Dh (dq (bN aY bW (vv 0) (ai)))))) (λM C c s H=>⟨(dy 0 e_),aT,λD=>aO rfl (bp rfl (hL ["_law_row","_law_to"] ["_law_row"] [0]) (bh (vv 1)) (λM C c s H=>⟨(dy 0 e_),aT,λD=>aO rfl (bN aY bW (vv 0) (vv 1)) rfl⟩) aq ay (λD=>aS)) rfl⟩) aq ay (λD=>aS)))),N.Gu,N.Gs.kp,N.Gv⟩⟩
theorem sT:br ["_law_grid_here"] ["_law_grid_here"] (ah (cp 49)):=fy
def jj(K:Pl)(a:Ad):QF K a 2 "_law_rowsums" a.Ca a.Cb ["_law_grid_here"] 1:=⟨_,λP w mg ac N=>⟨by
 exact bu (k:=1) 1 1 _ N.Gx sT rfl rfl λb A G s H E c=>am (aK (az (bp rfl (hL ["_law_row"] ["_law_row"] []) (bh (vv 0)) (λM C d s H=>⟨(dy 0 e_),aT,λD=>aO rfl (gf N.Dr (dq (vv 0))) rfl⟩) aq ay (λD=>aS)))),N.Gy,N.Gx.kp,N.Gz⟩⟩
theorem oq:br ["_law_grid_here"] ["_law_grid_here"] (ah (cp 50)):=fy
def gl(K:Pl)(a:Ad):QF K a 3 "_law_columnsums" a.Cc a.Cd ["_law_grid_here"] 1:=⟨_,λP w mg ac N=>⟨by
 have b:=(oH K a).2 P w ac N;exact bu (k:=2) 1 1 _ N.G0 oq rfl rfl λc A G s H E d=>am (aK (az (bp rfl (hL ["_law_column"] ["_law_column"] []) (bh (vc b d (dq (vv 0)))) (λM C e s H=>⟨(dy 0 e_),aT,λD=>aO rfl (gf N.Dr (dq (vv 0))) rfl⟩) aq ay (λD=>aS)))),N.G1,N.G0.kp,N.G2⟩⟩
theorem yO:br ["_law_block","_law_columns"] ["_law_block","_law_columns"] (ah (cp 51)):=fy
def qQ(K:Pl)(a:Ad):G:=
  lj (gL 1 [1] (cu fG (aa (ag 0) (ax))) (gs 0) (λ_=>M.ret OL) (ql (fj 1 [] (cu fG (aa (ag 1) (ax))) (gs 0) (λ_=>M.ret OL) (j2 (aL fE (aa (fC (.int 0)) (aa (fC (.int 40)) (ax))))))))
def k8(K:Pl)(a:Ad):a0b->M a0t:=mz 2 (qQ K a)
theorem xa(N:o_ K mg a):ee P w K mg ac (fx P w) 2 a.Cf a.Cg ["_law_block","_law_columns"] (spG K 2 (k8 K a)):=by
 unfold k8;exact Ki (k:=1) 2 2 (qQ K a) N.G3 yO rfl rfl λb A G s H E d=>am (JD (az (Md rfl (hL ["_law_at","_law_columns"] ["_law_at"] [1]) (cJ (by rfl) N.Dm (dq (vv 0))) (λM C c s H=>⟨(dy 0 e_),aT,λD=>aO rfl (zw rfl (hL ["_law_to"] ["_law_to"] []) (cJ (by rfl) N.Dm (dq (vv 1))) (λM C c s H=>⟨(dy 0 e_),aT,λD=>aO rfl (cm (dv (ai) (ai))) rfl⟩) aq ay (λD=>aS)) rfl⟩) aq ay (λD=>vS))))
theorem de:br ["_law_bag_here","_law_grid_here","_law_told","_law_at","_law_row","_law_to","_law_count","_law_way"] ["_law_bag_here","_law_grid_here"] (ah (cp 52)):=fy
def hX(K:Pl)(a:Ad):QF K a 3 "_law_bounds" a.Ch a.Ci ["_law_bag_here","_law_grid_here"] 2:=⟨_,λP w mg ac N=>⟨by
 have c:=xa P w ac N;have b:=fP P w ac N
 exact bu (k:=2) 2 8 _ N.G6 de rfl rfl λe A D s H E d=>af (HX (eo 2 de.nd (Me c (d.mono (by decide)) (by rfl) N.G4 N.G3.kp N.G5 i5 (dv (dA N.Dh (dq (vv 1))) (dA N.Dh (dq (bN aY bW (vv 1) (ai))))) (cj (cj ZA)))))
   (af (bZ (bC (dD d) eL (vc b d (dv (vv 0) (ai))) (ai)) (am (aK (az (vv 2)))) (bF))
   (af (bG (jC (cI aI (cI aI ii)) (cE (cE gi))) (bo bV rfl (lh (by rfl) N.De (dq (vv 1))) (bP rfl (aA (dy 3 de.nd) (aA (dy 4 de.nd) bA))) (am (bG (jC (cI aI (cI aI ii)) (cE (cE gi))) (bo bV rfl (lh (by rfl) N.De (dq (vv 4))) (bP rfl (aA (dy 5 de.nd) (aA (dy 6 de.nd) bA))) (af (aN (eo 7 de.nd (vc b d (dv (vv 0) (ai)))))
   (af (bZ (bC (dD d) eL (vv 7) (ai)) (am (tq (ef (cm (dv (aV eA f6 (vv 6) (vc b d (dv (vv 0) (aV aM bH (vv 6) (ai))))) (bK (jc rfl) rK (by rfl) N.Dl Boot.«min» (dv (ai) (aV aM bH (vv 6) (vc b d (dv (vv 0) (ai)))))))) (fV (fX dG (pv 2) (vv 3) (λ_ _=>rfl)) (vv 5) gj)))) (bF))
   (am (bZ (bC (dD d) eL (vv 7) (ai)) (am (tq (ef (cm (dv (ai) (bK (qZ rfl) IO (by rfl) N.Dj Boot.«max» (dv (vv 6) (vc b d (dv (vv 0) (ai))))))) (fV (fX dG (pv 2) (vv 3) (λ_ _=>rfl)) (vv 5) gj)))) (bF))))))))))
   (am (aK (az (vv 2)))))),N.G7,N.G6.kp,N.G8⟩⟩
theorem u6:br ["_law_block"] ["_law_block"] (ah (cp 53)):=fy
def oI(K:Pl)(a:Ad):QF K a 2 "_law_copied" a.Cj a.Ck ["_law_block"] 1:=⟨_,λP w mg ac N=>⟨by
 exact bu (k:=1) 1 1 _ N.G9 u6 rfl rfl λb A G s H E c=>am (aK (az (bp rfl (hL ["_law_row"] ["_law_row"] []) (bh (vv 0)) (λM C d s H=>⟨(dy 0 e_),aT,λD=>aO rfl (dL gb oW (by rfl) N.Di Boot.«list» (dq (vv 0))) rfl⟩) aq ay (λD=>aS)))),N.Ha,N.G9.kp,N.Hc⟩⟩
theorem d9:br ["_law_rests","_law_lot","_law_pairs","_law_found","_law_rest","_law_duo","_law_longer","_law_one","_law_count"] ["_law_rests","_law_lot","_law_pairs"] (ah (cp 54)):=fy
def lY(K:Pl)(a:Ad):QF K a 2 "_law_fit" a.Cl a.Cn ["_law_rests","_law_lot","_law_pairs"] 3:=⟨_,λP w mg ac N=>⟨by
 exact bu (k:=1) 3 9 _ N.Hd d9 rfl rfl λb A G s H E c=>af (aN (eo 3 d9.nd (c7 (dq (c7 (gA))))))
   (af (bG (jC (cI aI (cI aI ii)) (cE (cE gi))) (bo bV rfl (o8 (by rfl) N.Du (dv (vv 0) (vv 2))) (bP rfl (aA (dy 4 d9.nd) (aA (dy 5 d9.nd) bA))) (af (ow (eo 6 d9.nd (fW (gA))))
   (af (bG aI (bo bV rfl (bh (vv 3)) (dy 7 d9.nd) (am (bG aI (bo bV rfl (j5 (by rfl) N.Dm (dv (bN aY bW (vv 5) (ai)) (aV aM bH (bK (jc rfl) rK (by rfl) N.Dl Boot.«min» (dv (bN aY bW (vv 5) (ai)) (vv 4))) (ai)))) (dy 8 d9.nd) (am (lX (dC (l5 Ri RC RE fN (pv 6) (dq (aV aM bH (vv 7) (c7 (dq (vv 8))))))))))))))
   (K3 6 (am (aN (eo 3 d9.nd (vv 6)))))))))
   (am (aK (az (bp rfl (hL ["_law_one","_law_lot"] ["_law_one"] [1]) (bh (vv 3)) (λM C d s H=>⟨(dy 0 e_),rV (bC (dD c) eL (gf N.Dr (dq (vv 0))) (vv 1)),λD=>aO rfl (vv 0) rfl⟩) aq ay (λD=>aS)))))),N.He,N.Hd.kp,N.Hf⟩⟩
theorem yN:br ["_law_rests","_law_column"] ["_law_rests","_law_column"] (ah (cp 55)):=fy
def jS(K:Pl)(a:Ad):QF K a 2 "_law_less" a.Co a.Cp ["_law_rests","_law_column"] 2:=⟨_,λP w mg ac N=>⟨by
 exact bu (k:=1) 2 2 _ N.Hg yN rfl rfl λb A G s H E c=>am (aK (az (bp rfl (hL ["_law_rest","_law_count"] ["_law_rest","_law_count"] []) (o8 (by rfl) N.Du (dv (vv 0) (vv 1))) (λM C d s H=>⟨(bP rfl (aA (dy 0 e_) (aA (dy 1 e_) bA))),aT,λD=>aO rfl (aV eA f6 (vv 0) (vv 1)) rfl⟩) (da (aR aq (aR aq cz)) (aP (aP bS))) (c8 (aQ ay (aQ ay cr))) (λD=>aS)))),N.Hh,N.Hg.kp,N.Hi⟩⟩
theorem eJ:br ["_law_lot","_law_found","_law_k"] ["_law_lot"] (ah (cp 56)):=fy
def gW(K:Pl)(a:Ad):QF K a 2 "_law_factorial" a.Cq a.Cr ["_law_lot"] 1:=⟨_,λP w mg ac N=>⟨by
 exact bu (k:=1) 1 3 _ N.Hj eJ rfl rfl λb A D s H E c=>af (aN (eo 1 eJ.nd (ai)))
   (af (bG aI (bo bV rfl (j5 (by rfl) N.Dm (dv (ai) (aV aM bH (vv 0) (ai)))) (dy 2 eJ.nd) (am (aN (eo 1 eJ.nd (aV l7 rJ (vv 1) (vv 2)))))))
   (am (aK (az (vv 1))))),N.Hk,N.Hj.kp,N.Hl⟩⟩
theorem iS:br ["_law_parts","_law_under","_law_part"] ["_law_parts"] (ah (cp 57)):=fy
def m8(K:Pl)(a:Ad):QF K a 3 "_law_ways" a.Cs a.Ct ["_law_parts"] 1:=⟨_,λP w mg ac N=>⟨by
 have b:=(gW K a).2 P w ac N
 exact bu (k:=2) 1 3 _ N.Hm iS rfl rfl λd A D s H E c=>af (aN (eo 1 iS.nd (ai)))
   (af (bG aI (bo bV rfl (bh (vv 0)) (dy 2 iS.nd) (am (aN (eo 1 iS.nd (aV l7 rJ (vv 1) (vc b c (dq (vv 2)))))))))
   (am (aK (az (aV CV LW (vc b c (dq (gf N.Dr (dq (vv 0))))) (vv 1)))))),N.Hn,N.Hm.kp,N.Ho⟩⟩
theorem iU:br ["self","rowsums","columnsums","bounds","settled"] ["self","rowsums","columnsums","bounds"] (ah (aF (cp 39) 0)):=fy
def ur(K:Pl)(a:Ad):IP:=
  mj (f9 4 (bz (dj K a).1 (aa (ag 1) (aa (ag 2) (aa (ag 3) (ax))))))
  (mj (o9 (bz (ff K a).1 (aa (ag 1) (aa (ag 2) (aa (ag 4) (ax))))))
  (i9 (aL rH (aa (ag 1) (ax)))
  (i9 (aL rH (aa (ag 2) (ax)))
  (i9 (ag 4)
  (i9 (bz (d6 K a).1 (aa (ag 1) (aa (ag 2) (aa (ag 4) (ax)))))
  (IT))))))
def oR(K:Pl)(a:Ad):a0b->M a0b:=ml 5 (ur K a)
theorem JW(N:o_ K mg a):ee P w K mg ac (fx P w) 6 a.C2 a.C3 ["self","rowsums","columnsums","bounds"] (Z4 K a.Ae ["row_list","column_list","pairs","counted"] 3 (oR K a)):=by
 have c:=(d6 K a).2 P w ac N;have d:=(ff K a).2 P w ac N;have b:=(dj K a).2 P w ac N;unfold oR
 exact Kh (k:=5) 3 5 (ur K a) N.Ia iU rfl rfl λf A D s H E e=>IU (aN (eo 4 iU.nd (vc b e (pj (vv 1) (vv 2) (vv 3)))))
   (IU (oB (dC (vc d e (pj (vv 1) (vv 2) (vv 4)))))
   (rO N.Il N.Ir (by decide) (by decide) (oM (pv 0) (dL gb oW (by rfl) N.Di Boot.«list» (dq (vv 1))) rfl)
   (rO N.Il N.Io (by decide) (by decide) (oM (pv 0) (dL gb oW (by rfl) N.Di Boot.«list» (dq (vv 2))) rfl)
   (rO N.Il N.Iq (by decide) (by decide) (oM (pv 0) (vv 4) rfl)
   (rO N.Il N.Ip (by decide) (by decide) (oM (pv 0) (vc c e (pj (vv 1) (vv 2) (vv 4))) rfl)
   (Oo))))))
theorem CG:br ["_law_grid_here","_law_limits"] ["_law_grid_here","_law_limits"] (ah (cp 58)):=fy
def pR(K:Pl)(a:Ad):QF K a 8 "_law_net" a.Cu a.Cv ["_law_grid_here","_law_limits"] 2:=⟨_,λP w mg ac N=>⟨by
 have c:=(jj K a).2 P w ac N;have b:=(gl K a).2 P w ac N;have e:=JW P w ac N;have d:=(oI K a).2 P w ac N;exact bu (k:=7) 2 2 _ N.Hq CG rfl rfl λg A D s H E f=>am (aK (az (Jj N.Ib e (f.mono (by decide)) (by rfl) N.Im N.Id i5 (dv (vc c f (dq (vv 0))) (vc b f (dq (vv 0)))) (Jh (vc d f (dq (vv 1))) (Kx)) (cj (cj ZA)) (cj ZA) rfl))),N.Hr,N.Hq.kp,N.Ht⟩⟩
theorem dN:br ["_law_rowsums_here","_law_columnsums_here","_law_limits","_law_levels","_law_to","_law_lot","_law_seen","_law_rests","_law_column"] ["_law_rowsums_here","_law_columnsums_here","_law_limits"] (ah (cp 59)):=fy
def kS(K:Pl)(a:Ad):QF K a 3 "_law_nodes" a.Cw a.Cy ["_law_rowsums_here","_law_columnsums_here","_law_limits"] 3:=⟨_,λP w mg ac N=>⟨by
 have d:=(lY K a).2 P w ac N;have c:=(jS K a).2 P w ac N
 exact bu (k:=2) 3 9 _ N.Hu dN rfl rfl λf A G s H E e=>af (ow (eo 3 dN.nd (fW (dq (c7 (dq (dL dR jE (by rfl) N.Dt Boot.«tuple» (dq (vv 0)))))))))
   (af (bG (jC (cI aI (cI aI ii)) (cE (cE gi))) (bo bV rfl (lh (by rfl) N.De (dq (vv 1))) (bP rfl (aA (dy 4 dN.nd) (aA (dy 5 dN.nd) bA))) (af (HY (eo 6 dN.nd (m9 (b:=OQ))))
   (af (K4 aI (bo bV rfl (ze (fX dG (pv 3) (pv 4) (λ_ _=>rfl))) (dy 7 dN.nd) (am (bG aI (bo bV rfl (bh (vc d e (pj (vv 7) (vv 5) (bp rfl (hL ["_law_row","_law_to"] ["_law_row"] [4]) (bh (vv 2)) (λM C g s H=>⟨(dy 0 e_),aT,λD=>aO rfl (bN aY bW (vv 0) (vv 1)) rfl⟩) aq ay (λD=>aS))))) (dy 8 dN.nd) (am (tu (ef (pJ) (fV (pv 6) (dL dR jE (by rfl) N.Dt Boot.«tuple» (dq (vc c e (dv (vv 7) (vv 8))))) (jQ (Zv e)))))))))))
   (K3 6 (am (lX (dC (l5 Ri RC RE fN (pv 3) (dq (bK (iM rfl e.units) zU (by rfl) N.Dp Boot.«sorted» (dq (vv 6)))))))))))))
   (am (aK (az (vv 3))))),N.Hv,N.Hu.kp,N.Hw⟩⟩
theorem bv:br ["_law_rowsums_here","_law_columnsums_here","_law_limits","_law_levels","_law_told","_law_rests","_law_stage","_law_tables","_law_dealings","_law_column","_law_more"] ["_law_rowsums_here","_law_columnsums_here","_law_limits"] (ah (cp 60)):=fy
def jk(K:Pl)(a:Ad):QF K a 4 "_law_counted" a.Cz a.C0 ["_law_rowsums_here","_law_columnsums_here","_law_limits"] 3:=⟨_,λP w mg ac N=>⟨by
 have c:=(kS K a).2 P w ac N;have f:=(lY K a).2 P w ac N;have d:=(jS K a).2 P w ac N;have e:=(m8 K a).2 P w ac N
 exact bu (k:=3) 3 11 _ N.Hx bv rfl rfl λh A G s H E g=>af (aN (eo 3 bv.nd (vc c g (pj (vv 0) (vv 1) (vv 2)))))
   (af (HY (eo 4 bv.nd (m9 (b:=OL))))
   (af (bG aI (bo bV rfl (bh (bN aY bW (vv 3) (Ky ym IN (ai)))) (dy 5 bv.nd) (am (tu (ef (cm (dv (ai) (ai))) (fV (pv 4) (cm (dv (dA N.Dh (dq (vv 1))) (vv 5))) (jQ (Zv g))))))))
   (af (bG aI (bo bV rfl (EE (by rfl) N.Dm (pj (aV eA f6 (dA N.Dh (dq (vv 1))) (ai)) (aV eA f6 (ai) (ai)) (aV eA f6 (ai) (ai)))) (dy 6 bv.nd) (am (bG aI (bo bV rfl (bh (bN aY bW (vv 3) (vv 6))) (dy 5 bv.nd) (af (aN (eo 7 bv.nd (ai)))
   (af (aN (eo 8 bv.nd (ai)))
   (af (bG aI (bo bV rfl (bh (vc f g (pj (vv 5) (bN aY bW (vv 1) (vv 6)) (bp rfl (hL ["_law_row","_law_stage"] ["_law_row"] [6]) (bh (vv 2)) (λM C i s H=>⟨(dy 0 e_),aT,λD=>aO rfl (bN aY bW (vv 0) (vv 1)) rfl⟩) aq ay (λD=>aS))))) (dy 9 bv.nd) (af (KZ (eo 10 bv.nd (bN (oY (Zv g)) xz (vv 4) (cm (dv (aV aM bH (vv 6) (ai)) (dL dR jE (by rfl) N.Dt Boot.«tuple» (dq (vc d g (dv (vv 5) (vv 9))))))))))
   (af (aN (eo 7 bv.nd (aV aM bH (vv 7) (bN aY bW (vv 10) (ai)))))
   (am (aN (eo 8 bv.nd (aV aM bH (vv 8) (aV l7 rJ (bN aY bW (vv 10) (ai)) (vc e g (dq (vv 9))))))))))))
   (am (tu (ef (cm (dv (vv 7) (vv 8))) (fV (pv 4) (cm (dv (vv 6) (vv 5))) (jQ (Zv g))))))))))))))
   (am (aK (az (bp rfl (hL ["_law_key","_law_told"] ["_law_key"] [4]) (bh (bK (iM rfl g.units) zS (by rfl) N.Dp Boot.«sorted» (dq (vv 4)))) (λM C i s H=>⟨(dy 0 e_),aT,λD=>aO rfl (aV aM bH (vv 0) (bN (oY (Zv g)) xz (vv 1) (vv 0))) rfl⟩) aq ay (λD=>aS)))))))),N.Hy,N.Hx.kp,N.Hz⟩⟩
theorem sU:br ["self"] ["self"] (ah (aF (cp 39) 10)):=fy
def jo(K:Pl)(a:Ad):{m:a0b->M a0b//∀(P:PM) (w:P0) {mg:a0j} (ac:Qt) (N:o_ K mg a),ee P w K mg ac (fx P w) 3 a.C4 a.C5 ["self"] (X_ K (ck K) 1 m)}:=⟨_,λP w mg ac N=>by
 have b:=(iA K a).2 P w ac N;exact AL (k:=2) 1 1 _ N.Ie sU rfl rfl λc A D s H E d=>ig (az (LE b (d.mono (by decide)) rfl N.Fy N.Fw.kp N.Fz i5 (dq (HN N.Il N.Ip (vv 0))) (cj λ_ _ _ _=>u3)))⟩
theorem pP:br ["self"] ["self"] (ah (aF (cp 39) 2)):=fy
def fA(K:Pl)(a:Ad):QM K a 2 a.C6 a.C7 ["self"] 1:=⟨_,λP w mg ac N=>by
 exact bu (k:=1) 1 1 _ N.Ii pP rfl rfl λb A D s H E c=>am (aK (az (bK L2.Hs.call_lenD LV (by rfl) N.Dh VP (dq (HN N.Il N.Ip (vv 0))))))⟩
theorem gD:br ["_law_script","_law_bag_here","_law_grid_here","_law_limits","_law_net_here","_law_due","_law_told"] ["_law_script"] (ah lW):=fy
def oG(K:Pl)(a:Ad):{g:G//∀(P:PM) (w:P0) {mg:a0j} (ac:Qt) (N:o_ K mg a) (f:OM) (p:OP) (A:P7) (D:a0B) (s:OV) (H:Hp) (E:XK),dt 8 (A.deeper (Rows.envOfC "law" (ah lW) s.heap.objs.size f p))->PSs (eW (fx P w) P w K mg ac ["_law_script","_law_bag_here","_law_grid_here","_law_limits","_law_net_here","_law_due","_law_told"] "law" (ah lW) f p A D s H E) (cf lW).tail (tG K H g (λ_=>E))}:=⟨_,λP w mg ac N f p A D s H E k=>by
 have l:=(iY K a).2 P w ac N;have n:=fP P w ac N;have m:=xb P w ac N;have j:=(hX K a).2 P w ac N;have o:=(pR K a).2 P w ac N;have h:=(jj K a).2 P w ac N;have d:=(gl K a).2 P w ac N;have i:=(jk K a).2 P w ac N;have b:=(jo K a).2 P w ac N;have c:=zo P w ac N;have e:=(fA K a).2 P w ac N
 exact af (aN (eo 2 gD.nd (vc l k (dq (vv 1)))))
   (af (bZ (bC (dD k) eL (vc n k (dv (vv 1) (ai))) (ai)) (am (aN (eo 2 gD.nd (vc m k (dq (vv 1)))))) (bF))
   (af (aN (eo 3 gD.nd (vc j k (dv (vv 1) (vv 2)))))
   (af (aN (eo 4 gD.nd (vc o k (dv (vv 2) (vv 3)))))
   (af (aN (eo 5 gD.nd (vc i k (pj (vc h k (dq (vv 2))) (vc d k (dq (vv 2))) (vv 3)))))
   (af (K1 (eo 6 gD.nd (om0 N.Il N.Ig b (k.mono (by decide)) (jg.nil N.Ih) i5 (vv 4) rfl)))
   (af (bZ (kD (sE (nZ (lS (vc c k (dv (vv 6) (vv 5))))) (nV (nZ (lS (vc c k (dv (Kz N.Ij e (k.mono (by decide)) N.Ik i5 (by rfl) N.Dh (vv 4)) (dA N.Dh (dq (vv 5)))))))))) (am (aK (az (pJ)))) (bF))
   (af (K0 (dC (Lr Ri PySem.F.slot_list_pop PySem.F.type_list_pop LK (pv 6))))
   (af (lX (dC (l5 Ri RC RE fN (pv 6) (dq (cm (ss (ai) (cm (gA)) (ai) (ai)))))))
   (am (aK (az (HP (vc c k (dv (NI (om0 N.Il N.Ig b (k.mono (by decide)) (jg.nil N.Ih) i5 (vv 4) rfl)) (vv 5))) (HM (jO (fY k) h9 (vv 6) (vv 5)))))))))))))))⟩
theorem LD{f:OM}{o:Py}(F:c_ K "law" "law" lW f o)(N:o_ K mg a)(T:∀G:Bg,G.ok->∃d,(oG K a).1 [OI,My (.sh .bag),OI,OI,OI,OI,OI] G=My (.rt (.bl OL),d)):
  ee P w K mg ac (fx P w) 9 f o ["_law_script"] (HV K):=by
 have c:=CW P w ac N;refine F.okE (k:=8) gD (λM H Q E h=>?_) (λg A D s H M Q E p h=>?_)
 .obtain⟨a,ns,rfl,_⟩:=h
  rfl
 .obtain⟨a1,ns,rfl,r,q,k⟩:=h
  have rest:=(oG K a).2 P w ac N f g A D s H E p;refine⟨_,cS (rest:=(cf lW).tail) (eo 1 gD.nd (jB c (p.mono (by decide)) rfl N.F5 N.F4.kp N.F6 .nil w6 (dX (pv 0) gF))) rest,?_⟩;refine⟨_,rfl,a1,ns,rfl,r,λb l C i j t u=>?_⟩;obtain⟨G,ok,m⟩:=Kr (K:=K) (a:=a1) (n:=["_law_script","_law_bag_here","_law_grid_here","_law_limits","_law_net_here","_law_due","_law_told"].length-2) u i j t;obtain⟨d,e⟩:=T G ok;exact⟨_,_,_,G,_,d,m,e,λv I y s fr B=>by cases B.bl;exact k y⟩
end
end Law
namespace L2.Pu
noncomputable def dk:Nat->Nat
 |0=>1
 |n+1=>dk n*(n+1)
noncomputable def pr(l:a0a):Nat:=l.foldr (·*·) 1
theorem Li:pr []=1:=rfl
theorem zb(l m:a0a):pr (l++m)=pr l*pr m:=by
 induction l with
 |nil=>simp[pr]
 |cons x l w=>
  show x*pr (l++m)=x*pr l*pr m;rw[w,Uy]
theorem Jo{w:Type}{l:List w}{i:Nat}{x:w}(h:l[i]?=My x):l.take (i+1)=l.take i++[x]:=by
 rw[List.take_succ,h];rfl
theorem jA{w:Type}{f:w->Nat}{l:List w}{i:Nat}{x:w}(h:l[i]?=My x):pr ((l.take (i+1)).map f)=pr ((l.take i).map f)*f x:=by
 rw[Jo h,Pw,zb];simp[pr]
theorem mr:∀n,0<dk n
 |0=>by decide
 |n+1=>Nat.mul_pos (mr n) (Nat.succ_pos _)
theorem EL:∀{n m:Nat},n<=m->dk n<=dk m:=by
 intro n m h
 induction h with
 |refl=>exact OW _
 |step h w=>exact Pj w (XQ _ (Nat.succ_pos _))
theorem Oy:dk 40<=2^160:=by decide +kernel
theorem jG{n:Nat}(h:n<=40):dk n<=2^160:=Pj (EL h) Oy
theorem tH{l:a0a}(h:∀x∈l,0<x):0<pr l:=by
 induction l with
 |nil=>decide
 |cons x l w=>exact Nat.mul_pos (h x OU) (w λy D=>h y (OO _ D))
theorem NW{l:a0a}{m:Nat}(h:∀x∈l,x<=2^m):pr l<=2^(m*l.length):=by
 induction l with
 |nil=>exact Nat.one_le_two_pow
 |cons x l w=>
  show x*pr l<=_;rw[Pb,Nat.mul_succ,XU,Nat.pow_add];exact Nat.mul_le_mul (h x OU) (w λy D=>h y (OO _ D))
theorem ik{l:a0a}{x:Nat}(h:x∈l):x<=l.sum:=by
 induction l with
 |nil=>cases h
 |cons y l w=>
  rw[Pz];rcases O6.mp h with rfl|h
  .exact RH _ _
  .have:=w h;lia
theorem eC{t m:Nat}(h:t<=2^m)(w:m<=999):t<2^1000:=P5 (Pj h (VW (by decide) w)) (Nat.pow_lt_pow_right (by decide) (by decide))
theorem pU{t n:Nat}(a:t<2^1000)(b:n<2^1000):DB (.int (t:Int)) (.int (n:Int))=My (.int ((t*n:Nat):Int)):=by
 have c:gB (t:Int)=OL:=Pf (by rw[Wb];exact a);have d:gB (n:Int)=OL:=Pf (by rw[Wb];exact b);show(if(gB (t:Int)&&gB (n:Int))=OL then _ else _)=_;simp only[c,d,Vl,Qq];rfl
theorem IY{t g:Nat}(d:0<g)(a:g<2^1000):xQ (.int (t:Int)) (.int (g:Int))=My (.int ((t/g:Nat):Int)):=by
 have b:decide ((0:Int)<(g:Int))=OL:=Pf (by lia);have c:decide (((g:Int)).natAbs.log2<9000)=OL:=Pf (by
  rw[Wb];have:=(Nat.log2_lt (n:=g) (k:=1000) (RK ‹_›)).mpr a;lia)
 show(if(decide ((0:Int)<(g:Int))&&decide (((g:Int)).natAbs.log2<9000))=OL then _ else _)=_;simp only[b,c,Vl,Qq];rfl
theorem iG(l:a0a):(nI l).sum=((l.sum:Nat):Int):=by
 induction l with
 |nil=>rfl
 |cons x l w=>
  show(x:Int)+(nI l).sum=_;rw[w,Pz,Sf]
theorem l8{l:a0a}{i:Nat}{d:D}(h:((nI l).map D.int)[i]?=My d):∃n,l[i]?=My n/\d= .int (n:Int):=by
 obtain⟨x,w,rfl⟩:=bL h;obtain⟨n,E,rfl⟩:=bL w;exact⟨n,E,rfl⟩
theorem k4(l:a0a):((nI l).map D.int).length=l.length:=by rw[OH,OH]
def Sq(l:a0a)(d:D):Prop:=d=nL l\/d= .tup ((nI l).map D.int)
theorem Sq.seq{l:a0a}{d:D}(h:Sq l d):c9 d=My ((nI l).map D.int):=by rcases h with rfl|rfl<;>rfl
theorem rg2'{i j:Int}(a:0<=i)(b:i<=10^9)(c:0<=j)(d:j<=10^9):m6 [.int i,.int j]=My (aZ i (j-i).toNat):=by
 have q:(decide (-(2^62)<=i)&&decide (i<2^62)&&decide (-(2^62)<=j)&&decide (j<2^62))=OL:=by
  simp only[PP,PX];lia
 show(if(decide (-(2^62)<=i)&&decide (i<2^62)&&decide (-(2^62)<=j)&&decide (j<2^62))=OL then My (aZ i (j-i).toNat)else OI)=_;rw[OZ q]
theorem rg2{n:Nat}(h:n<=1000):m6 [.int 2,.int ((n:Int)+1)]=My (aZ 2 (n-1)):=by
 rw[rg2' (by decide) (by decide) (by lia) (by lia),show((n:Int)+1-2).toNat=n-1 by lia]
end L2.Pu
namespace L2.Pu
open L2.Hs
def j4(k:a0e):LI->LI
 |[]=>[k]
 |x::l=>if bR k x=OL then k::x::l else if k=x then x::l else x::j4 k l
theorem lb{k y:a0e}:∀{l:LI},y∈j4 k l↔y=k\/y∈l
 |[]=>by simp[j4]
 |x::l=>by
  unfold j4;split
  .simp
  .split
   .rename_i h
    subst h;simp
   .rw[O6,lb,O6]
    exact or_left_comm
theorem v5{k:a0e}:∀{l:LI},Up l->Up (j4 k l)
 |[],_=>by unfold j4;exact Qz _ _
 |x::l,h=>by
  obtain⟨a,b⟩:=R5.mp h;unfold j4;split
  .rename_i q
   refine R5.mpr ⟨λy hy=>?_,h⟩;rcases O6.mp hy with rfl|hy
   .exact q
   .exact oV q (a y hy)
  .split
   .exact h
   .rename_i q1 q2
    refine R5.mpr ⟨λy hy=>?_,v5 b⟩;rcases lb.mp hy with rfl|hy
    .cases q:bR x y with
     |true=>rfl
     |false=>exact Pp (ma (by simpa using q1) q) q2
    .exact a y hy
def kH(a:LI):LI:=a.foldr j4 []
theorem jr:∀a,Up (kH a)
 |[]=> .nil
 |k::a=>v5 (jr a)
theorem d8{y:a0e}:∀{a:LI},y∈kH a↔y∈a
 |[]=>by simp[kH]
 |k::a=>by
  show y∈j4 k (kH a)↔_;rw[lb,d8,O6]
theorem HR{l:LI}(h:Up l):l.Nodup:=h.imp λ{a b} q e=>by
 subst e;rw[gq]at q;cases q
theorem KS{a:LI}(c:∀k∈a,1<=k.length){m:LI}(w:m.length<63)(e:∀k∈a,k∈m):fS (a.map iv)=My (.lst ((kH a).map iv)):=by
 refine sP ⟨jr a,P5 (nd_len (HR (jr a)) λx D=>e x (d8.mp D)) w,λk b=>⟨c k (d8.mp b),OR.mpr ⟨k,d8.mp b,rfl⟩⟩,λd E=>?_⟩;obtain⟨k,b,rfl⟩:=OR.mp E;exact⟨k,d8.mpr b,rfl⟩
end L2.Pu
namespace L2.Nt
noncomputable def sm{w:Type}(l:List w)(f:w->Nat):Nat:=(l.map f).sum
section
variable{d e:Type}
theorem yH{f:d->Nat}:sm [] f=0:=rfl
theorem cq{a:d}{l:List d}{f:d->Nat}:sm (a::l) f=f a+sm l f:=by unfold sm;rw[Pc,Pz]
theorem sQ{l m:List d}{f:d->Nat}:sm (l++m) f=sm l f+sm m f:=by unfold sm;rw[Pw,WR]
theorem dM{f g:d->Nat}:∀{l:List d},(∀a∈l,f a=g a)->sm l f=sm l g
 |[],_=>rfl
 |a::l,h=>by rw[cq,cq,h a OU,dM λb c=>h b (OO a c)]
theorem yI{g:e->d}{f:d->Nat}{l:List e}:sm (l.map g) f=sm l λb=>f (g b):=by unfold sm;rw[O0];rfl
theorem vp{g:e->List d}{f:d->Nat}:∀{l:List e},sm (l.flatMap g) f=sm l λb=>sm (g b) f
 |[]=>rfl
 |b::l=>by rw[QI,sQ,cq,vp]
theorem vo:∀{l:List d},(sm l λ_=>0)=0
 |[]=>rfl
 |a::l=>by rw[cq,vo]
theorem yJ{f g:d->Nat}:∀{l:List d},(sm l λa=>f a+g a)=sm l f+sm l g
 |[]=>rfl
 |a::l=>by rw[cq,cq,cq,yJ];lia
theorem oj{c:Nat}{f:d->Nat}:∀{l:List d},(sm l λa=>c*f a)=c*sm l f
 |[]=>rfl
 |a::l=>by rw[cq,cq,oj,Nat.mul_add]
theorem HW{f:Nat->Nat}{m:Nat}:∀{n:Nat},m<=n->sm (OX (m+1)) f=sm (OX (n+1)) λa=>if a<=m then f a else 0
 |0,h=>by
  obtain rfl:m=0:=by lia
  exact dM λa d=>by
   have:=Pn.mp d;rw[OZ (Nat.le_of_succ_le_succ ‹_›)]
 |n+1,h=>by
  rcases Wo m (n+1)with q|q
  .rw[RP (n:=n+1),sQ,<-HW (Nat.le_of_succ_le_succ ‹_›:m<=n),cq,yH,OY (by lia)]
   rfl
  .obtain rfl:m=n+1:=by lia
   exact dM λa d=>by
    have:=Pn.mp d;rw[OZ (Nat.le_of_succ_le_succ ‹_›)]
noncomputable def ci:a0a->Nat->a0K
 |[],0=>[[]]
 |[],_+1=>[]
 |x::r,c=>(OX (SC x c+1)).flatMap λa=>(ci r (c-a)).map (a::·)
noncomputable def less(r v:a0a):a0a:=UN (·-·) r v
theorem yj{x c:Nat}{r:a0a}{f:a0a->Nat}:sm (ci (x::r) c) f=sm (OX (SC x c+1)) λa=>sm (ci r (c-a)) λv=>f (a::v):=by
 show sm ((OX (SC x c+1)).flatMap λa=>(ci r (c-a)).map (a::·)) f=_;rw[vp];exact dM λa _=>yI
end
end L2.Nt
namespace L2.Nt
open L2.Pu
noncomputable def ch:Nat->Nat->Nat
 |_,0=>1
 |0,_+1=>0
 |n+1,k+1=>ch n k+ch n (k+1)
theorem pq:∀{n k:Nat},n<k->ch n k=0
 |0,k+1,_=>by simp[ch]
 |n+1,k+1,h=>by
  show ch n k+ch n (k+1)=0;rw[pq (Nat.lt_of_succ_lt_succ ‹_›),pq (QZ ‹_›)]
theorem qk(n:Nat):ch n 0=1:=by cases n<;>rfl
theorem wq:∀n,ch n n=1
 |0=>rfl
 |n+1=>by
  show ch n n+ch n (n+1)=1;rw[wq n,pq (Um _)]
theorem xR(n:Nat):dk (n+1)=(n+1)*dk n:=R1 (dk n) (n+1)
theorem lE:∀n a b:Nat,a+b=n->ch (a+b) a*(dk a*dk b)=dk (a+b)
 |n,0,b,_=>by rw[qk];simp[dk]
 |n,a+1,0,_=>by rw[Nat.add_zero,wq];simp[dk]
 |0,a+1,b+1,h=>by contradiction
 |n+1,a+1,b+1,h=>by
  have c:=lE n a (b+1) (by lia);have i2:=lE n (a+1) b (by lia);have d:a+1+(b+1)=(a+b+1)+1:=by lia
  have e:a+(b+1)=a+b+1:=rfl
  have f:a+1+b=a+b+1:=by lia
  rw[e]at c;rw[f]at i2;rw[d];show(ch (a+b+1) a+ch (a+b+1) (a+1))*(dk (a+1)*dk (b+1))=dk (a+b+1+1);rw[xR (a+b+1),YG];have g:ch (a+b+1) a*(dk (a+1)*dk (b+1))=(a+1)*dk (a+b+1):=by
   rw[<-c,xR a];simp only[Uy,T7,R1]
  have i:ch (a+b+1) (a+1)*(dk (a+1)*dk (b+1))=(b+1)*dk (a+b+1):=by
   rw[<-i2,xR b];simp only[Uy,T7,R1]
  rw[g,i,<-YG,show a+1+(b+1)=a+b+1+1 by lia]
theorem lV{f:Nat->Nat}{n:Nat}:sm (OX (n+1)) f=f 0+sm (OX n) λa=>f (a+1):=by
 rw[VB,cq,yI]
theorem BS:∀(x y c:Nat),(sm (OX (c+1)) λa=>ch x a*ch y (c-a))=ch (x+y) c
 |0,y,c=>by
  rw[lV,qk,Nat.one_mul,Nat.sub_zero,Q0];have:(sm (OX c) λa=>ch 0 (a+1)*ch y (c-(a+1)))=0:=(dM λa _=>by rw[pq (Nat.succ_pos _),Nat.zero_mul]).trans vo;rw[this];rfl
 |x+1,y,0=>by rw[lV];simp[qk,yH]
 |x+1,y,c+1=>by
  have b:=BS x y (c+1);have i2:=BS x y c;rw[lV]at b;rw[lV];have e:(sm (OX (c+1)) λa=>ch (x+1) (a+1)*ch y (c+1-(a+1)))=(sm (OX (c+1)) λa=>ch x a*ch y (c-a))+sm (OX (c+1)) λa=>ch x (a+1)*ch y (c+1-(a+1)):=by
   rw[<-yJ];refine dM λa _=>?_;show(ch x a+ch x (a+1))*_=_;rw[YG,Nat.add_sub_add_right]
  rw[e,i2];have d:x+1+y=x+y+1:=by lia
  rw[d];show _=ch (x+y) c+ch (x+y) (c+1);rw[<-b,qk,qk];lia
theorem vdm(x y c:Nat):(sm (OX (SC x c+1)) λa=>ch x a*ch y (c-a))=ch (x+y) c:=by
 rw[HW (Nat.min_le_right x c),<-BS];refine dM λa w=>?_;have:=Pn.mp w;by_cases q:a<=x
 .rw[OZ (by lia)]
 .rw[OY (by lia),pq (Nat.not_le.mp ‹_›),Nat.zero_mul]
def pc:a0a->a0a->Nat
 |x::r,a::v=>ch x a*pc r v
 |_,_=>1
theorem zk:∀(r:a0a) (c:Nat),sm (ci r c) (pc r)=ch r.sum c
 |[],0=>rfl
 |[],c+1=>rfl
 |x::r,c=>by
  rw[yj,Pz,<-vdm];exact dM λa _=>by rw[<-zk r (c-a),<-oj];rfl
theorem jN:∀{r:a0a} {c:Nat} {v:a0a},v∈ci r c->v.sum=c/\(less r v).sum+c=r.sum/\v.length=r.length/\pr (r.map dk)=pc r v*(pr (v.map dk)*pr ((less r v).map dk))
 |[],0,v,h=>by cases Po.mp h;exact⟨rfl,rfl,rfl,rfl⟩
 |[],c+1,v,h=>by cases h
 |x::r,c,v,h=>by
  have D:v∈(OX (SC x c+1)).flatMap λa=>(ci r (c-a)).map (a::·):=h;obtain⟨a,E,b⟩:=QO.mp D;obtain⟨u,d,rfl⟩:=OR.mp b;have e:=Pn.mp E;obtain⟨f,i2,g,i⟩:=jN d;refine⟨by rw[Pz,f];lia,?_,by rw[Pb,g,Pb],?_⟩
  .show((x-a)::less r u).sum+c=_
   rw[Pz,Pz,<-i2];lia
  .show dk x*pr (r.map dk)=(ch x a*pc r u)*((dk a*pr (u.map dk))*(dk (x-a)*pr ((less r u).map dk)))
   have w:=lE x a (x-a) (by lia);rw[show a+(x-a)=x by lia]at w;rw[i,<-w];simp only[Uy,T7,R1]
def mu:a0a->Nat
 |[]=>1
 |x::r=>ch (x+r.sum) x*mu r
theorem k7:∀r:a0a,mu r*pr (r.map dk)=dk r.sum
 |[]=>rfl
 |x::r=>by
  show(ch (x+r.sum) x*mu r)*(dk x*pr (r.map dk))=dk (x::r).sum;rw[Pz,<-lE _ x r.sum rfl,<-k7 r];simp only[Uy,T7,R1]
theorem vI(r:a0a):0<pr (r.map dk):=tH λx w=>by
 obtain⟨n,_,rfl⟩:=OR.mp w;exact mr n
theorem LJ(r:a0a):dk r.sum/pr (r.map dk)=mu r:=by rw[<-k7,Nat.mul_div_cancel _ (vI r)]
def ZO:a0a->a0a->Nat
 |_,[]=>1
 |r,c::cs=>sm (ci r c) λv=>mu v*ZO (less r v) cs
theorem HD:∀{r:a0a},r.sum=0->mu r=1
 |[],_=>rfl
 |x::r,h=>by
  rw[Pz]at h;obtain rfl:x=0:=by lia
  show ch _ 0*mu r=1;rw[qk,HD (by lia)]
theorem uI:∀(w r:a0a),r.sum=w.sum->ZO r w=mu r
 |[],r,h=>(HD h).symm
 |c::w,r,h=>by
  rw[Pz]at h;refine Nat.eq_of_mul_eq_mul_right (vI r) ?_;rw[k7];show sm (ci r c) (λv=>mu v*ZO (less r v) w)*_=_;rw[R1,<-oj];have e:(sm (ci r c) λv=>pr (r.map dk)*(mu v*ZO (less r v) w))=sm (ci r c) λv=>(dk c*dk (r.sum-c))*pc r v:=by
   refine dM λv a=>?_;obtain⟨b,i2,f,d⟩:=jN a;rw[uI w (less r v) (by lia),d];have D:=k7 v;have E:=k7 (less r v);rw[b]at D;rw[show(less r v).sum=r.sum-c by lia]at E;rw[<-D,<-E];simp only[Uy,T7,R1]
  rw[e,oj,zk,R1];have:=lE r.sum c (r.sum-c) (by lia);rw[show c+(r.sum-c)=r.sum by lia]at this;exact this
def ky:a0a->a0a->Prop
 |[],[]=>True
 |a::v,x::r=>a<=x/\ky v r
 |_,_=>False
theorem ky.refl:∀r,ky r r
 |[]=>trivial
 |_::r=>⟨OW _,ky.refl r⟩
theorem ky.tr:∀{u v r:a0a},ky u v->ky v r->ky u r
 |[],[],[],_,_=>trivial
 |_::_,_::_,_::_,h,q=>⟨Pj h.1 q.1,h.2.tr q.2⟩
 |[],_::_,_,h,_=>h.elim
 |_::_,[],_,h,_=>h.elim
 |[],[],_::_,_,q=>q.elim
 |_::_,_::_,[],_,q=>q.elim
theorem ky.len:∀{v r:a0a},ky v r->v.length=r.length
 |[],[],_=>rfl
 |_::_,_::_,h=>Qb (·+1) h.2.len
 |[],_::_,h=>h.elim
 |_::_,[],h=>h.elim
theorem ky.less:∀{v r:a0a},ky v r->ky (less r v) r
 |[],[],_=>trivial
 |a::v,x::r,h=>⟨Nat.sub_le x a,h.2.less⟩
 |[],_::_,h=>h.elim
 |_::_,[],h=>h.elim
theorem ky.pr:∀{v r:a0a},ky v r->L2.Pu.pr (v.map (·+1))<=L2.Pu.pr (r.map (·+1))
 |[],[],_=>OW _
 |_::_,_::_,h=>Nat.mul_le_mul (Vz h.1) h.2.pr
 |[],_::_,h=>h.elim
 |_::_,[],h=>h.elim
theorem ky.sum:∀{v r:a0a},ky v r->v.sum<=r.sum
 |[],[],_=>OW _
 |_::_,_::_,h=>by rw[Pz,Pz];exact Xj h.1 h.2.sum
 |[],_::_,h=>h.elim
 |_::_,[],h=>h.elim
theorem dT:∀{r:a0a} {c:Nat} {v:a0a},v∈ci r c->ky v r
 |[],0,v,h=>by cases Po.mp h;exact trivial
 |[],c+1,v,h=>by cases h
 |x::r,c,v,h=>by
  have w:v∈(OX (SC x c+1)).flatMap λa=>(ci r (c-a)).map (a::·):=h;obtain⟨a,D,b⟩:=QO.mp w;obtain⟨u,d,rfl⟩:=OR.mp b;have e:=Pn.mp D;exact⟨by omega,dT d⟩
theorem nh:∀{r v:a0a},ky v r->v∈ci r v.sum
 |[],[],_=>Po.mpr rfl
 |x::r,a::v,h=>by
  refine QO.mpr ⟨a,Pn.mpr (by rw[Pz];have:=h.1;lia),OR.mpr ⟨v,?_,rfl⟩⟩;rw[Pz,Rn];exact nh h.2
 |[],_::_,h=>h.elim
 |_::_,[],h=>h.elim
theorem dY{w a:Type}{f:w->List a}{n:Nat}:∀{l:List w},(∀x∈l,(f x).length<=n)->(l.flatMap f).length<=l.length*n
 |[],_=>by simp
 |x::l,h=>by
  rw[QI,O1,Pb,Nat.succ_mul,XU];exact Xj (dY λy D=>h y (OO _ D)) (h x OU)
theorem mS:∀(r:a0a) (c:Nat),(ci r c).length<=pr (r.dropLast.map (·+1))
 |[],0=>OW _
 |[],_+1=>Ql _
 |[x],c=>by
  have h:ci [x] c=(OX (SC x c+1)).flatMap λa=>(ci [] (c-a)).map (a::·):=rfl;rw[h,RP,Ss,O1];have e:((OX (SC x c)).flatMap λa=>(ci [] (c-a)).map (a::·))=[]:=by
   refine TF.mpr λa w=>?_;have:=Pn.mp w;obtain⟨n,D⟩:∃n,c-a=n+1:=⟨c-a-1,by lia⟩;rw[D];rfl
  rw[e];cases q:c-SC x c<;>simp[ci,q,pr]
 |x::y::r,c=>by
  have h:=dY (l:=OX (SC x c+1)) (f:=λa=>(ci (y::r) (c-a)).map (a::·)) (n:=pr ((y::r).dropLast.map (·+1))) λa _=>by rw[OH];exact mS (y::r) (c-a)
  rw[Pi]at h;refine Pj h ?_;show _<=(x+1)*pr ((y::r).dropLast.map (·+1));exact Uz _ (by lia)
theorem pf{w D a:Type}{f:w->List D}{g:D->List a}(l:List w):(l.flatMap f).flatMap g=l.flatMap λx=>(f x).flatMap g:=List.flatMap_assoc
theorem w5(r:a0a)(k:Nat):pr ((r.take k).map (·+1))<=pr (r.map (·+1)):=by
 conv=>rhs;rw[<-PL k r,Pw,zb]
 exact XQ _ (tH λx w=>by
  obtain⟨n,_,rfl⟩:=OR.mp w;lia)
theorem rG(l:a0a):(nI l).map Int.toNat=l:=by
 rw[O0];exact(PU λx _=>rfl).trans (WD l)
theorem k6{l m:a0a}(h:nI l=nI m):l=m:=by rw[<-rG l,h,rG]
theorem zC{w a:Type}{f:w->a}{l:List w}(h:(l.map f).Nodup):l.Nodup:=(QY.mp h).imp λq e=>q (Qb f e)
theorem zE{D c:Type}{f:D->c}(w:∀a b,f a=f b->a=b){l:List D}(h:l.Nodup):(l.map f).Nodup:=QY.mpr (h.imp λq e=>q (w _ _ e))
theorem qT{w:a0a}{k:Nat}(h:k<w.length):w.drop k=w.getD k 0::w.drop (k+1):=by
 rw[Qa h,O5,ON h];rfl
noncomputable def Y_:a0h->a0a->Bool
 |p::ps,a::v=>decide (p.1<=a)&&decide (a<=p.2)&&Y_ ps v
 |_,_=>OL
def vB(w:a0h)(r:a0a)(c:Nat):a0K:=(ci r c).filter (Y_ w)
theorem KC{w:a0h}{r v:a0a}{c:Nat}(h:v∈vB w r c):v∈ci r c:=(VI.mp h).1
theorem pK{p:Nat×Nat}{w:a0h}{x:Nat}{r:a0a}{c:Nat}:vB (p::w) (x::r) c=(OX (SC x c+1)).flatMap λa=>if p.1<=a/\a<=p.2 then(vB w r (c-a)).map (a::·)else[]:=by
 show((OX (SC x c+1)).flatMap λa=>(ci r (c-a)).map (a::·)).filter (Y_ (p::w))=_;rw[YC];refine Qb (XN · _) (funext λa=>?_);rw[WO];by_cases q:p.1<=a/\a<=p.2
 .rw[OZ q]
  refine Qb (Q2 (a::·)) (Zk λv _=>?_);show(decide (p.1<=a)&&decide (a<=p.2)&&Y_ w v)=Y_ w v;rw[Pf q.1,Pf q.2];rfl
 .rw[OY q,XM.mpr,SI]
  intro v _ h;have h:(decide (p.1<=a)&&decide (a<=p.2)&&Y_ w v)=OL:=h;simp only[PP,PX]at h;exact q h.1
noncomputable def j_:a0h->a0a->a0a
 |p::ps,x::r=>SC x p.2::j_ ps r
 |_,_=>[]
noncomputable def j1(w:a0h):a0a:=w.map (·.1)
theorem HQ:∀{w:a0h} {r:a0a} {c:Nat} {v:a0a},w.length=r.length->v∈vB w r c->(j1 w).sum<=c/\c<=(j_ w r).sum
 |[],[],c,v,_,h=>by
  have:=jN (KC h);simp at this;simp[j1,j_];lia
 |p::w,x::r,c,v,e,h=>by
  rw[pK]at h;obtain⟨a,D,h⟩:=QO.mp h;by_cases q:p.1<=a/\a<=p.2
  .rw[OZ q]at h
   obtain⟨u,b,rfl⟩:=OR.mp h;have i:=HQ (by simpa using e) b;have:=Pn.mp D;simp only[j1,j_,Pc,Pz]at i⊢;lia
  .rw[OY q]at h;cases h
noncomputable def ZJ(x:Nat)(p:Nat×Nat)(few a:Nat)(b:a0a×Nat):List (a0a×Nat):=(OX (SC (SC x p.2+few) b.2+1-few-Yb p.1 (b.2-a))).map λi=>(b.1++[Yb p.1 (b.2-a)+i],b.2-(Yb p.1 (b.2-a)+i))
def lu(w:a0h)(r:a0a)(c:Nat):Nat->List (a0a×Nat)
 |0=>[([],c)]
 |k+1=>(lu w r c k).flatMap (ZJ (r.getD k 0) (w.getD k (0,0)) ((j1 w).drop (k+1)).sum ((j_ w r).drop (k+1)).sum)
theorem lq{b:Type}{f:Nat->List b}{lo n N:Nat}(h:∀a<N,f a≠[]->lo<=a/\a<n)(D:n<=N):(OX N).flatMap f=(OX (n-lo)).flatMap λi=>f (lo+i):=by
 have e:∀{a},a<N->¬(lo<=a/\a<n)->f a=[]:=λ{a} w q=>R3 λz=>q (h a w z);obtain⟨d,rfl⟩:∃d,N=n+d:=⟨N-n,by lia⟩;have z:(OX d).flatMap (λa=>f (n+a))=[]:=TF.mpr λa w=>e (by have:=Pn.mp w;lia) (by lia);rw[List.range_add,Ss,Vu,z,PN];rcases Nat.le_total lo n with q|q
 .obtain⟨m,rfl⟩:∃m,n=lo+m:=⟨n-lo,by lia⟩
  rw[List.range_add,Ss,TF.mpr λa w=>e (by have:=Pn.mp w;lia) (by have:=Pn.mp w;lia),RO,Vu,Rn]
 .rw[show n-lo=0 by lia,TF.mpr λa w=>e (by have:=Pn.mp w;exact Pm ‹_› ‹_›) (by have:=Pn.mp w;lia)];rfl
theorem sH:∀{w:a0h} {r:a0a} (k:Nat),j_ (w.drop k) (r.drop k)=(j_ w r).drop k
 |_,_,0=>rfl
 |[],r,k+1=>by simp[j_]
 |p::w,[],k+1=>by cases h:(w.drop k)<;>simp[j_,h]
 |p::w,x::r,k+1=>sH k
theorem f8{w:Type}{l:List w}{k:Nat}{d:w}(h:k<l.length):l.getD k d=l[k]:=by rw[O5,ON h];rfl
theorem eP{w a:Type}{f g:w->List a}:∀{l:List w},(∀x∈l,f x=g x)->l.flatMap f=l.flatMap g
 |[],_=>rfl
 |x::l,h=>by rw[QI,QI,h x OU,eP λy D=>h y (OO _ D)]
theorem vn{D:a0h}{r:a0a}(e:D.length=r.length)(c:Nat):∀k,k<=r.length->((lu D r c k).flatMap λb=>(vB (D.drop k) (r.drop k) b.2).map (b.1++·))=vB D r c
 |0,_=>by simp[lu]
 |k+1,h=>by
  rw[<-vn e c k (Qo ‹_›)];show((lu D r c k).flatMap _).flatMap _=_;rw[pf];refine Qb (XN · (lu D r c k)) (funext λb=>?_);have g:k<r.length:=by lia
  have j:k<D.length:=by lia
  rw[Qa g,Qa j,f8 g,f8 j,pK,Q4];rw[lq (f:=λa=>(if D[k].1<=a/\a<=D[k].2 then(vB (D.drop (k+1)) (r.drop (k+1)) (b.2-a)).map (a::·)else[]).map (b.1++·)) (N:=SC r[k] b.2+1) (lo:=Yb D[k].1 (b.2-((j_ D r).drop (k+1)).sum)) (n:=SC (SC r[k] b.2+1) (SC (SC r[k] D[k].2+((j1 D).drop (k+1)).sum) b.2+1-((j1 D).drop (k+1)).sum)) (λa o E=>?_) (Nat.min_le_left _ _)]
  .unfold ZJ
   rw[Vu,show SC (SC r[k] b.2+1) (SC (SC r[k] D[k].2+((j1 D).drop (k+1)).sum) b.2+1-((j1 D).drop (k+1)).sum)=SC (SC r[k] D[k].2+((j1 D).drop (k+1)).sum) b.2+1-((j1 D).drop (k+1)).sum by lia];refine eP λi l=>?_;have:=Pn.mp l;rw[OZ (by lia),O0];exact PU λv _=>by simp
  .by_cases q:D[k].1<=a/\a<=D[k].2
   .rw[OZ q]at E
    obtain⟨w,d⟩:=List.exists_mem_of_ne_nil _ E;obtain⟨w,d,_⟩:=OR.mp d;obtain⟨v,m,_⟩:=OR.mp d;have:=HQ (by simp[e]) m;rw[sH]at this;unfold j1 at this⊢;rw[Ul]at this;lia
   .rw[OY q]at E;exact Pp rfl E
theorem KA(c:Nat):vB [] [] c=if(c:Int)=0 then[[]]else[]:=by
 cases c with
 |zero=>rfl
 |succ n=>rw[OY (by lia)];rfl
theorem Ju{w:a0h}{r:a0a}(a:w.length=r.length)(c:Nat):((lu w r c r.length).filter λb=>decide ((b.2:Int)=0)).map (·.1)=vB w r c:=by
 rw[<-vn a c r.length (OW _),Rl,<-a,Rl,a];generalize lu w r c r.length=l
 induction l with
 |nil=>rfl
 |cons b l D=>
  rw[QI,Wt,<-D,KA];by_cases q:(b.2:Int)=0
  .rw[OZ q,OZ (Pf q)];simp
  .rw[OY q,OY (by simp;lia)];rfl
theorem vm{w:a0h}{r:a0a}(c:Nat):∀k,k<=r.length->(lu w r c k).length<=pr ((r.take k).map (·+1))
 |0,_=>OW _
 |k+1,h=>by
  have e:r[k]?=My r[k]:=ON ‹_›;rw[jA e];refine Pj (dY (n:=r[k]+1) λb _=>?_) (Uz _ (vm c k (Qo ‹_›)));unfold ZJ;rw[OH,Pi,f8 (show k<r.length by lia)];refine Nat.le_trans (Nat.sub_le _ _) (Nat.sub_le_of_le_add ?_);rw[Nat.add_right_comm];exact Nat.succ_le_succ (Nat.le_trans (Nat.min_le_left _ _) (Nat.add_le_add_right (Nat.min_le_left _ _) _))
theorem yF(w:a0h)(r:a0a)(c:Nat):∀k,∀b∈lu w r c k,b.2<=c/\b.1.length=k
 |0,b,h=>by cases Po.mp h;exact⟨OW _,rfl⟩
 |k+1,b,h=>by
  obtain⟨d,D,a⟩:=QO.mp (show b∈(lu w r c k).flatMap _ from h);obtain⟨i,_,rfl⟩:=OR.mp a;obtain⟨G,E⟩:=yF w r c k d D;exact⟨by show d.2-_<=c;lia,by rw[O1,E];rfl⟩
theorem yu:∀{ps:a0h} {r:a0a},(j_ ps r).sum<=r.sum
 |[],r=>Ql _
 |_::_,[]=>OW _
 |p::ps,x::r=>by
  have:=yu (ps:=ps) (r:=r);simp only[j_,Pz];lia
abbrev Wy:=Nat->a0a->a0K
def ZB(w:a0a)(W:Wy):Prop:=∀k r,(W k r).Sublist (ci r (w.getD k 0))
def O_(W:Wy)(L:a0K)(k:Nat):LI:=L.flatMap λr=>(W k r).map λv=>nI (less r v)
def O2(W:Wy)(L:a0K)(k:Nat):a0K:=(kH (O_ W L k)).map λk=>k.map Int.toNat
section
variable{W:Wy}{cs rs:a0a}
theorem gn{L:a0K}{k:Nat}{y:a0e}:y∈O_ W L k↔∃r∈L,∃v∈W k r,y=nI (less r v):=by
 unfold O_;constructor
 .intro h
  obtain⟨r,a,h⟩:=QO.mp h;obtain⟨v,b,rfl⟩:=OR.mp h;exact⟨r,a,v,b,rfl⟩
 .rintro⟨r,a,v,b,rfl⟩
  exact QO.mpr ⟨r,a,OR.mpr ⟨v,b,rfl⟩⟩
theorem rF(L:a0K)(k:Nat):(O2 W L k).map nI=kH (O_ W L k):=by
 unfold O2;rw[O0];refine(PU λy w=>?_).trans (WD _);obtain⟨r,_,v,_,rfl⟩:=gn.mp (d8.mp w);show nI ((nI _).map Int.toNat)=_;rw[rG];rfl
theorem gm{L:a0K}{k:Nat}{u:a0a}:u∈O2 W L k↔∃r∈L,∃v∈W k r,u=less r v:=by
 constructor
 .intro h
  have:nI u∈kH (O_ W L k):=by rw[<-rF];exact OR.mpr ⟨u,h,rfl⟩
  obtain⟨r,a,v,b,e⟩:=gn.mp (d8.mp this);exact⟨r,a,v,b,k6 e⟩
 .rintro⟨r,a,v,b,rfl⟩
  exact OR.mpr ⟨nI (less r v),d8.mpr (gn.mpr ⟨r,a,v,b,rfl⟩),rG _⟩
def fh(W:Wy)(rs:a0a):Nat->a0K
 |0=>[rs]
 |k+1=>O2 W (fh W rs k) k
theorem oS:∀k,(fh W rs k).Nodup
 |0=>Qz _ _
 |k+1=>zC (f:=nI) (by show(Q2 nI (O2 _ _ _)).Nodup;rw[rF];exact HR (jr _))
theorem iJ(b:ZB cs W)(w:rs.sum=cs.sum):∀k,k<=cs.length->∀r∈fh W rs k,ky r rs/\r.sum=(cs.drop k).sum
 |0,_,r,h=>by cases Po.mp h;exact⟨ky.refl _,w⟩
 |k+1,hk,u,h=>by
  obtain⟨r,c,v,a,rfl⟩:=gm.mp (show u∈O2 W (fh W rs k) k from h);have a:=(b k r).subset a;obtain⟨D,E⟩:=iJ b w k (Qo ‹_›) r c;have G:=(jN a).2.1;rw[E,qT (by lia),Pz]at G;exact⟨(dT a).less.tr D,by lia⟩
theorem J2(a:ZB cs W)(w:rs.sum=cs.sum){k:Nat}(b:k<=cs.length):(fh W rs k).length<=pr (rs.dropLast.map (·+1)):=
 Pj (nd_len (oS k) (m:=ci rs (cs.drop k).sum) λr c=>by
  obtain⟨d,e⟩:=iJ a w k b r c;rw[<-e];exact nh d) (mS _ _)
theorem vP(a:ZB cs W)(w:rs.sum=cs.sum)(d:1<=rs.length)(e:pr (rs.dropLast.map (·+1))<63){k:Nat}(f:k<cs.length):fS ((O_ W (fh W rs k) k).map iv)=My (.lst ((fh W rs (k+1)).map λr=>iv (nI r))):=by
 refine(KS (m:=(ci rs (cs.drop (k+1)).sum).map nI) ?_ (by rw[OH];exact P5 (mS _ _) e) ?_).trans ?_
 .intro x hx
  obtain⟨r,b,v,c,rfl⟩:=gn.mp hx;rw[OH,((dT ((a k r).subset c)).less.tr (iJ a w k (Qo ‹_›) r b).1).len];exact d
 .intro x hx
  obtain⟨r,b,v,c,rfl⟩:=gn.mp hx;obtain⟨D,E⟩:=iJ a w (k+1) f (less r v) (gm.mpr ⟨r,b,v,c,rfl⟩);exact OR.mpr ⟨less r v,by rw[<-E];exact nh D,rfl⟩
 .rw[<-rF,O0];rfl
def E_(W:Wy)(rs:a0a)(n:Nat):List (Int×a0e):=(OX n).flatMap λk=>(fh W rs k).map λr=>((k:Int),nI r)
theorem zW:∀n,(E_ W rs n).Nodup
 |0=>List.nodup_nil
 |n+1=>by
  unfold E_;rw[RP,Ss,QI,Wu,PN];refine Si.mpr ⟨zW n,zE (λr s e=>k6 (T0.mp e).2) (oS n),λx w y D e=>?_⟩;subst e;obtain⟨k,a,h⟩:=QO.mp w;obtain⟨r,_,rfl⟩:=OR.mp h;obtain⟨s,_,e⟩:=OR.mp D;have:=(T0.mp e).1;have b:=Pn.mp a;simp only at this;lia
def uy(W:Wy):Nat->Nat->a0a->Nat
 |0,_,_=>1
 |j+1,k,r=>sm (W k r) λv=>uy W j (k+1) (less r v)
def t0(W:Wy):Nat->Nat->a0a->Nat
 |0,_,_=>1
 |j+1,k,r=>sm (W k r) λv=>mu v*t0 W j (k+1) (less r v)
theorem KU{E:Type}{f g:E->Nat}{l m:List E}(h:l.Sublist m)(q:∀a∈m,f a<=g a):sm l f<=sm m g:=by
 induction h with
 |slnil=>exact OW _
 |cons a _ w=>rw[cq];exact Pj (w λx D=>q x (OO _ D)) (Nat.le_add_left _ _)
 |cons_cons a _ w=>rw[cq,cq];exact Xj (q a OU) (w λx D=>q x (OO _ D))
theorem uJ(a:ZB cs W):∀(j k:Nat) (r:a0a),k+j=cs.length->t0 W j k r<=ZO r (cs.drop k)
 |0,k,r,h=>by rw[show k=cs.length by omega,Rl];exact OW _
 |j+1,k,r,h=>by
  rw[qT (by lia)];exact KU (a k r) λv _=>Nat.mul_le_mul_left _ (uJ a j (k+1) (less r v) (by lia))
noncomputable def y_:a0h->a0a->a0K
 |p::ps,x::r=>(OX (SC p.2 x+1-p.1)).flatMap λi=>(y_ ps r).map ((p.1+i)::·)
 |_,_=>[[]]
theorem BE:∀{w:a0h} {r:a0a} {c:Nat},w.length=r.length->(y_ w r).filter (λv=>decide (v.sum=c))=vB w r c
 |[],[],c,_=>by cases c<;>rfl
 |p::w,x::r,c,h=>by
  have E:w.length=r.length:=by simpa using h
  rw[pK,lq (lo:=p.1) (n:=SC (SC x c+1) (SC p.2 x+1)) (N:=SC x c+1) (λa d D=>?_) (Nat.min_le_left _ _)]
  .show((OX (SC p.2 x+1-p.1)).flatMap λi=>(y_ w r).map ((p.1+i)::·)).filter _=_
   rw[YC];have e:∀i,List.filter (λv=>decide (v.sum=c)) ((y_ w r).map ((p.1+i)::·))=if p.1+i<=c then(vB w r (c-(p.1+i))).map ((p.1+i)::·)else[]:=λi=>by
    rw[WO];by_cases q:p.1+i<=c
    .rw[OZ q,<-BE E]
     refine Qb (Q2 _) (Zk λv _=>?_);show decide (((p.1+i)::v).sum=c)=_;rw[Pz];exact decide_eq_decide.mpr (by lia)
    .rw[OY q,XM.mpr,SI]
     intro v _ z;have z:decide (((p.1+i)::v).sum=c)=OL:=z;rw[Pz,PX]at z;lia
   rw[eP λi _=>e i];rw[lq (f:=λi=>if p.1+i<=c then(vB w r (c-(p.1+i))).map ((p.1+i)::·)else[]) (lo:=0) (n:=SC (SC x c+1) (SC p.2 x+1)-p.1) (N:=SC p.2 x+1-p.1) (λa D q=>⟨Ql _,?_⟩) (by lia),Nat.sub_zero]
   .refine eP λi b=>?_
    have:=Pn.mp b;rw[Q0,OZ (by lia),OZ (by lia)]
   .by_cases z:p.1+a<=c
    .lia
    .rw[OY z]at q;exact Pp rfl q
  .by_cases q:p.1<=a/\a<=p.2
   .lia
   .rw[OY q]at D;exact Pp rfl D
noncomputable def lg(w:a0h)(r:a0a):Nat->a0K
 |0=>[[]]
 |k+1=>(lg w r k).flatMap λu=>(OX (SC (w.getD k (0,0)).2 (r.getD k 0)+1-(w.getD k (0,0)).1)).map λi=>u++[(w.getD k (0,0)).1+i]
theorem wa{w:a0h}{r:a0a}(c:w.length=r.length):∀k,k<=r.length->((lg w r k).flatMap λu=>(y_ (w.drop k) (r.drop k)).map (u++·))=y_ w r
 |0,_=>by simp[lg]
 |k+1,h=>by
  rw[<-wa c k (Qo ‹_›)];show((lg w r k).flatMap _).flatMap _=_;rw[pf];refine eP λu _=>?_;have a:k<r.length:=by lia
  have b:k<w.length:=by lia
  rw[Qa a,Qa b,f8 a,f8 b];show _=((OX (SC w[k].2 r[k]+1-w[k].1)).flatMap λi=>(y_ (w.drop (k+1)) (r.drop (k+1))).map ((w[k].1+i)::·)).map (u++·);rw[Q4,Vu];refine eP λi _=>?_;rw[O0];exact PU λv _=>by simp
theorem v9{w:a0h}{r:a0a}(a:w.length=r.length):lg w r r.length=y_ w r:=by
 rw[<-wa a r.length (OW _),Rl,<-a,Rl];show _=(lg w r w.length).flatMap λu=>[u++[]];generalize lg w r w.length=l
 induction l with
 |nil=>rfl
 |cons x l D=>rw[QI,<-D,PN];rfl
theorem v8{w:a0h}{r:a0a}:∀k,k<=r.length->(lg w r k).length<=pr ((r.take k).map (·+1))
 |0,_=>OW _
 |k+1,h=>by
  have e:r[k]?=My r[k]:=ON ‹_›;rw[jA e];refine Pj (dY (n:=r[k]+1) λb _=>?_) (Uz _ (v8 k (Qo ‹_›)));rw[OH,Pi,f8 (show k<r.length by lia)];lia
theorem AG{w:a0h}{r:a0a}:∀k,∀u∈lg w r k,u.length=k
 |0,b,h=>by cases Po.mp h;rfl
 |k+1,b,h=>by
  obtain⟨d,D,a⟩:=QO.mp (show b∈(lg w r k).flatMap _ from h);obtain⟨i,_,rfl⟩:=OR.mp a;rw[O1,AG k d D];rfl
end
end L2.Nt
namespace L2.Pu
theorem BK{n:Nat}{f g:a0N}(h:∀i<n,f i<=g i):S n f<=S n g:=by
 induction n with
 |zero=>exact YB _
 |succ n w=>
  rw[ge,ge];have a:=w λi b=>h i (by lia);have c:=h n (Um _);lia
theorem Ja(n:Nat)(f g:a0N):S n (λi=>f i-g i)=S n f-S n g:=by
 induction n with
 |zero=>rfl
 |succ n w=>rw[ge,ge,ge,w];lia
noncomputable def fl(x y:Bool)(l h:Int):Int:=(if x=OL/\y=OQ then h else 0)-(if x=OQ/\y=OL then l else 0)
def Z6(w D:a0N)(E a:Nat->Nat->Int)(r c:Nat)(X Y:Nat->Bool):Int:=
 S c (λj=>if Y j=OL then D j else 0)-S r (λi=>if X i=OL then w i else 0)+S r λi=>S c λj=>fl (X i) (Y j) (E i j) (a i j)
section
variable{m o:a0N}{p l:Nat->Nat->Int}{r c:Nat}
theorem Jw{g:Nat->Nat->Int}(h:∀i<r,∀j<c,p i j<=g i j/\g i j<=l i j)(d:∀i<r,m i=S c (g i))(e:∀j<c,o j=S r λi=>g i j)(X Y:Nat->Bool):0<=Z6 m o p l r c X Y:=by
 have f:S c (λj=>if Y j=OL then o j else 0)=S r λi=>S c λj=>if Y j=OL then g i j else 0:=by
  rw[BJ];refine dI λj a=>?_;cases q:Y j with
  |true=>simp only[OZ];exact e j a
  |false=>simp only[Ph,Qj];exact(lM r).symm
 have k:S r (λi=>if X i=OL then m i else 0)=S r λi=>S c λj=>if X i=OL then g i j else 0:=by
  refine dI λi l=>?_;cases q:X i with
  |true=>simp only[OZ];exact d i l
  |false=>simp only[Ph,Qj];exact(lM c).symm
 unfold Z6;rw[f,k,<-Ja,<-sj];refine Int.le_trans (Int.le_of_eq (lM r).symm) (BK λi b=>?_);rw[<-Ja,<-sj];refine Int.le_trans (Int.le_of_eq (lM c).symm) (BK λj a=>?_);have:=h i b j a;unfold fl;cases X i<;>cases Y j<;>simp<;>lia
noncomputable def rx:Nat->a0K
 |0=>[[]]
 |n+1=>rx n++(rx n).map (·++[n])
theorem iq:∀(n:Nat) (l:a0a),l∈rx n->l.Sublist (OX n)
 |0,l,h=>by rw[Po.mp h];exact .slnil
 |n+1,l,h=>by
  rw[RP];rcases PD.mp h with h|h
  .exact(iq n l h).trans (List.sublist_append_left _ _)
  .obtain⟨a,h',rfl⟩:=OR.mp h
   exact(iq n a h').append (List.Sublist.refl _)
theorem wt:∀n:Nat,(rx n).length=2^n
 |0=>rfl
 |n+1=>by
  rw[rx,O1,OH,wt n,Nat.pow_succ];lia
end
section
variable{o m:a0e}{b:LP}{r c:Nat}
abbrev Z7(o m:a0e)(b:LP)(r c:Nat)(X Y:Nat->Bool):Int:=Z6 (λi=>o.getD i 0) (λj=>m.getD j 0) (λi j=>(bI b i j).1) (λi j=>(bI b i j).2) r c X Y
theorem KV{a d:a0a}(e:a.Sublist (OX r))(f:d.Sublist (OX c)):rC m b r c a d-oQ o a=Z7 o m b r c (λi=>decide (i∈a)) (λj=>decide (j∈d)):=by
 rw[JF e f];unfold oQ Z7 Z6;rw[lU f,lU e];have h:∀(n:Nat) (l:a0a) (g:a0N),S n (λj=>if decide (j∈l)=OL then g j else 0)=S n (λj=>if j∈l then g j else 0):=λn l g=>dI λj _=>by simp
 rw[h,h];have k:(S r λi=>S c λj=>hF b a d i j)=S r λi=>S c λj=>fl (decide (i∈a)) (decide (j∈d)) (bI b i j).1 (bI b i j).2:=by
  refine dI λi _=>dI λj _=>?_;unfold hF fl;simp
 simp only[k];lia
def tW(m:a0e)(b:LP)(r c:Nat)(a:a0a):a0a:=(OX c).filter λj=>decide (eM m b r a j<fQ b a j)
end
end L2.Pu
namespace L2.Nt
open L2.Pu
section
variable{W:Wy}{b:a0a}
theorem jq:∀{l:a0a} {i x y:Nat},l[i]?=My x->(l.set i y).sum+x=l.sum+y
 |a::l,0,x,y,h=>by
  cases h;show(y::l).sum+a=(a::l).sum+y;rw[Pz,Pz];lia
 |a::l,i+1,x,y,h=>by
  have:=jq (l:=l) (i:=i) (x:=x) (y:=y) h;show(a::l.set i y).sum+x=(a::l).sum+y;rw[Pz,Pz];lia
variable{a:a0a}
end
end L2.Nt
namespace L2.Pu
theorem yG{w a:a0b}{d:D}(h:fS w=My d)(q:∀d,d∈w↔d∈a):fS a=My d:=by
 obtain⟨c,s,rfl⟩:=iQ h;exact sP ⟨s.1,s.2.1,λk b=>⟨(s.2.2.1 k b).1,(q _).mp (s.2.2.1 k b).2⟩,λd E=>s.2.2.2 d ((q d).mpr E)⟩
end L2.Pu
namespace Law
open L2 L2.Pu L2.Nt
section
variable{K:Pl}{a:Ad}{β:Bg}
abbrev tN(l:a0a):D:=iv (nI l)
abbrev eN(b:a0a×Nat):D:= .tup [tN b.1,.int (b.2:Int)]
abbrev pN(p:Nat×Nat):D:=pD ((p.1:Int),(p.2:Int))
def z4(r:a0a):Prop:=1<=r.length/\r.length<=4/\r.sum<=40/\pr (r.map (·+1))<=500
theorem kx{f g:FD}{δ:Dn}{x y:D}{ds a:a0b}(b:f δ β=My (.ok x,β))(c:g δ β=My (.ok y,β))(d:c9 x=My ds)(e:c9 y=My a):xj (aa f (aa g ax)) δ β=My (.ok (dz ds a),β):=bE (ae b (ae c rfl)) (by
 unfold BO;simp only[d,e,RZ,Rt])
theorem sr{a:Type}{f g:a->D}:∀l:List a,dz (l.map f) (l.map g)=l.map λx=> .tup [f x,g x]
 |[]=>rfl
 |x::l=>Qb (_::·) (sr l)
theorem K9{a:Nat}{h:Int}(b:-1000<=h)(c:h<=1000)(d:a<=1000):m6 [.int (a:Int),.int h]=My ((OX (h-a).toNat).map λi=>D.int ((a+i:Nat):Int)):=by
 have e:m6 [.int (a:Int),.int h]=My (aZ a (h-a).toNat):=by
  simp only[m6];rw[OZ (by simp only[PP,PX];lia)]
 rw[e];exact Qb My (PU λi _=>by congr 1)
theorem addT{l:a0a}{c:Nat}(h:l.length<=100):eZ (tN l) (.tup [.int (c:Int)])=My (tN (l++[c])):=by
 cases l with
 |nil=>rfl
 |cons x l=>
  show(if _ then _ else _)=_;rw[OZ (bn (by simp at h⊢;lia))];simp[iv]
theorem yD(l:a0a)(k:Nat):gy [.lst (((nI l).map D.int).drop k)]=My (.int (((l.drop k).sum:Nat):Int)):=by
 rw[<-Ul,<-Ul];exact(eG _).trans (by rw[<-iG])
theorem yx:∀{r:a0a} {ps:a0h},(r.zip ps).map (λq=>D.int (SC (q.1:Int) (q.2.2:Int)))=(nI (j_ ps r)).map D.int
 |[],_=>by cases ‹a0h›<;>rfl
 |_::_,[]=>rfl
 |x::r,p::ps=>by
  have e:=yx (r:=r) (ps:=ps);show _::_=D.int ((SC x p.2:Nat):Int)::(nI (j_ ps r)).map D.int;rw[<-e];show D.int (SC (x:Int) (p.2:Int))::_=_;rw[show SC (x:Int) (p.2:Int)=((SC x p.2:Nat):Int) by omega];rfl
theorem yv:∀{a:a0h} {r:a0a} {k:Nat} (b:k<a.length) (c:k<r.length),(j_ a r)[k]?=My (SC r[k] a[k].2)
 |p::a,x::r,0,_,_=>rfl
 |p::a,x::r,k+1,b,c=>yv (k:=k) (by simpa using b) (by simpa using c)
abbrev uE(a:a0h)(r:a0a)(c:Nat)(w:D)(b d e:a0T):Ds:=[My (.sh (tN r)),My (.sh (.int (c:Int))),My (.sh (.lst (a.map pN))),My (.sh (.lst ((nI (j1 a)).map .int))),My (.sh (.lst ((nI (j_ a r)).map .int))),My (.sh w),b,d,e]
theorem Mi{w:a0h}{r:a0a}{c:Nat}(H:z4 r)(v:w.length=r.length)(A:∀p∈w,p.1<=40/\p.2<=40)(R:c<=40):(jT K a).1 [tN r,.int (c:Int),.lst (w.map pN)] β=My (.ok (.lst ((vB w r c).map tN)),β):=by
 obtain⟨_,T,G,U⟩:=H;have I:r.length<=Pk:=bn (by lia);have o:∀k,k<=r.length->(lu w r c k).length<=Pk:=λk m=>bn (Pj (vm c k m) (Pj (w5 r k) (by lia)));unfold jT
 dsimp only
 refine aW ?_;refine aG (d:= .lst ((nI (j1 w)).map .int)) (β1:=β) ?_ ?_
 .have:=bq (nv:=2) (bt:=[]) (it:=dE (ag 2)) (tg:=J_ (fF (gs 0) (fF (gs 1) jP))) (f:=ag 0) (δ:=vw (uE w r c .non OI OI OI)) (β:=β) w pN (λp=> .int (p.1:Int)) rfl (λx _=>⟨[My (.int (x.1:Int)),My (.int (x.2:Int))],rfl,rfl⟩) (by rw[v];exact I)
  refine Eq.trans this ?_;unfold j1;rw[O0,O0];rfl
 refine aG (d:= .lst ((nI (j_ w r)).map .int)) (β1:=β) ?_ ?_
 .rw[<-yx]
  exact bq (nv:=3) (bt:=[]) (it:=xj (aa (ag 0) (aa (ag 2) (ax)))) (tg:=J_ (fF (gs 0) (fF (J_ (fF (gs 1) (fF (gs 2) jP))) jP))) (f:=aL tY (aa (ag 0) (aa (ag 2) (ax)))) (δ:=vw (uE w r c .non OI OI OI)) (β:=β) (r.zip w) (λq=>D.tup [.int (q.1:Int),pN q.2]) _ (by
   rw[<-ir (λx:Nat=>D.int (x:Int)) pN];refine kx (x:=tN r) (y:= .lst (w.map pN)) rfl rfl ?_ rfl;show My _=My _;rw[O0];rfl) (λq _=>⟨[My (.int (q.1:Int)),My (.int (q.2.1:Int)),My (.int (q.2.2:Int))],rfl,aj rfl xk⟩) (bn (by rw[Tw];lia))
 refine aG (d:= .lst ((lu w r c 0).map eN)) (β1:=β) (aj (ae (aj (ae (aj rfl rfl) (ae rfl rfl)) gh) rfl) nq) ?_;refine bB (ds:=aZ 0 r.length) (β1:=β) (bE (ae (aj (z:= .int (r.length:Int)) rfl (by show My (D.int _)=_;rw[OH,OH])) rfl) (y3 (by lia) (by lia))) (λk δ C=>β=C/\∃B t u,δ=uE w r c (.lst ((lu w r c k).map eN)) B t u) ⟨rfl,OI,OI,OI,rfl⟩ ?_ ?_
 .rintro k d δ _ hd ⟨rfl,B,t,u,rfl⟩
  obtain⟨m,rfl⟩:=IA hd;have j:k<w.length:=by lia
  have J:w[k]?=My w[k]:=ON j;have b40:=A _ (Qr j);have W:(j1 w).sum<=160:=by
   have g:∀l:a0h,(∀p∈l,p.1<=40/\p.2<=40)->(j1 l).sum<=40*l.length:=λl=>by
    induction l with
    |nil=>intro _;exact OW _
    |cons p l E=>
     intro h;have:=E λq v=>h q (OO _ v);have:=(h p OU).1;simp only[j1,Pc,Pz,Pb]at*;lia
   have:=g w A;lia
  have F:∀(l:a0a) (n:Nat),(l.drop n).sum<=l.sum:=λl n=>by
   conv=>rhs;rw[<-PL n l,WR]
   lia
  have L:=F (j1 w) (k+1);have N:=Pj (F (j_ w r) (k+1)) yu;refine⟨uE w r c (.lst ((lu w r c k).map eN)) (My (.sh (.int (k:Int)))) t u,rfl,?_⟩;refine aG (d:= .int ((((j1 w).drop (k+1)).sum:Nat):Int)) (β1:=β) (aj (ae (qr rfl (dr rfl rfl rfl)) rfl) ((Qb (λl=>gy [.lst l]) (uO (k:=k+1))).trans (yD _ _))) ?_;refine aG (d:= .int ((((j_ w r).drop (k+1)).sum:Nat):Int)) (β1:=β) (aj (ae (qr rfl (dr rfl rfl rfl)) rfl) ((Qb (λl=>gy [.lst l]) (uO (k:=k+1))).trans (yD _ _))) ?_;refine au (aG (d:= .lst ((lu w r c (k+1)).map eN)) (β1:=β) ?_ (bf ⟨rfl,_,_,_,rfl⟩));have e:(lu w r c (k+1)).map eN=(lu w r c k).flatMap λb=>(ZJ r[k] w[k] ((j1 w).drop (k+1)).sum ((j_ w r).drop (k+1)).sum b).map eN:=by
   show((lu w r c k).flatMap _).map eN=_;rw[Q4,f8 m,f8 j]
  rw[e];refine Km (lu w r c k) eN _ rfl (λb A=>⟨[My (tN b.1),My (.int (b.2:Int)),OI,My (.lst ((nI (j1 w)).map .int)),My (.int (k:Int)),My (.int ((((j_ w r).drop (k+1)).sum:Nat):Int)),My (.lst ((nI (j_ w r)).map .int)),My (.int ((((j1 w).drop (k+1)).sum:Nat):Int))],rfl,?_⟩) (by
   rw[<-e,OH];exact o (k+1) m)
  obtain⟨b2,b1⟩:=yF w r c k b A;have M:=ik (Qr m);unfold ZJ;generalize ((j1 w).drop (k+1)).sum=few at*;generalize ((j_ w r).drop (k+1)).sum=most at*;refine(zy (OX (SC (SC r[k] w[k].2+few) b.2+1-few-Yb w[k].1 (b.2-most))) (λi=>D.int ((Yb w[k].1 (b.2-most)+i:Nat):Int)) (λi=>eN (b.1++[Yb w[k].1 (b.2-most)+i],b.2-(Yb w[k].1 (b.2-most)+i))) ?_ ?_).trans (by rw[O0];rfl)
  .refine bE (as:=[.int ((Yb w[k].1 (b.2-most):Nat):Int),.int (SC ((SC r[k] w[k].2:Nat):Int) ((b.2:Int)-few)+1)]) (ae (aj (ae (dr rfl rfl (cA (d:= .int (w[k].1:Int)) ?_)) (ae (dr rfl rfl rfl) rfl)) (LM.trans ?_)) (ae (dr (aj (ae (dr rfl rfl (cA (d:= .int ((SC r[k] w[k].2:Nat):Int)) ?_)) (ae (dr rfl rfl rfl) rfl)) xk) rfl rfl) rfl)) ((K9 (by lia) (by lia) (by lia)).trans ?_)
   .unfold j1
    rw[OS,OS,OS,J];rfl
   .rw[show Yb (w[k].1:Int) ((b.2:Int)-(most:Int))=((Yb w[k].1 (b.2-most):Nat):Int) by lia]
   .rw[OS,OS,yv j m];rfl
   .rw[show(SC ((SC r[k] w[k].2:Nat):Int) ((b.2:Int)-few)+1-((Yb w[k].1 (b.2-most):Nat):Int)).toNat=SC (SC r[k] w[k].2+few) b.2+1-few-Yb w[k].1 (b.2-most) by generalize SC r[k] w[k].2=x;generalize Yb w[k].1 (b.2-most)=y;lia]
  .refine λi O=>⟨[My (tN b.1),My (.int (b.2:Int)),My (.int ((Yb w[k].1 (b.2-most)+i:Nat):Int)),My (.lst ((nI (j1 w)).map .int)),My (.int (k:Int)),My (.int (most:Int)),My (.lst ((nI (j_ w r)).map .int)),My (.int (few:Int))],rfl,aj (ae (dr rfl (aj rfl rfl) (addT (l:=b.1) (c:=Yb w[k].1 (b.2-most)+i) (by lia))) (ae (dr rfl rfl rfl) rfl)) (gh.trans ?_)⟩
   have Q:=Pn.mp O;show My (D.tup [_,.int _])=My (D.tup [_,.int _]);rw[show(b.2:Int)-((Yb w[k].1 (b.2-most)+i:Nat):Int)=((b.2-(Yb w[k].1 (b.2-most)+i):Nat):Int) by lia]
 .rintro δ _ ⟨rfl,B,t,u,rfl⟩
  rw[tw];have h:=j9 (nv:=2) (bt:=[]) (it:=dE (ag 5)) (tg:=J_ (fF (gs 0) (fF (gs 1) jP))) (tt:=fB (f2 (fK) (ag 1) (fC (.int 0)))) (f:=ag 0) (δ:=hE (uE w r c (.lst ((lu w r c r.length).map eN)) B t u)) (β:=β) (lu w r c r.length) eN (λb=>tN b.1) (λb=>decide ((b.2:Int)=0)) rfl (λb _=>⟨[My (tN b.1),My (.int (b.2:Int))],rfl,ij (dr rfl rfl eq_int),λ_=>rfl⟩) (o _ (OW _));refine au (aU h ⟨rfl,?_⟩);rw[<-Ju v,O0];rfl
theorem uV{E:Type}{G:lk}{b:FL}{K:Dn}{β:Bg}(u:E->D)(o:E->a0b):∀(w:List E),(∀x∈w,∃a,G (u x) K=My a/\b a β=My (.ok (o x),β))->mx G (λ_=>M.ret OL) b (w.map u) K β=My (.ok (w.flatMap o),β)
 |[],_=>rfl
 |x::w,h=>by
  obtain⟨a,c,d⟩:=h x OU;have e:=uV u o w λy P=>h y (OO _ P);rw[Pc,mx];simp only[c,M.bind,M.ret,reduceIte,d,e,QI]
theorem kf{E:Type}{K:Nat}{P:a0a}{S:FL}{V:lk}{b:FL}{c:a0b->a0l}{G:Dn}{β:Bg}{d:D}(w:List E)(u:E->D)(o:E->a0b)(e:S G β=My (.ok (w.map u),β))
  (f:∀x∈w,∃a,V (u x) (jm K P G)=My a/\b a β=My (.ok (o x),β)) (g:c (w.flatMap o)=My d):gJ K P S V (λ_=>M.ret OL) b c G β=My (.ok d,β):=by
 unfold gJ;rw[e];simp only[uV u o w f,g,Rt]
theorem N5{E:Type}{K:FL}{P:lk}{b:FL}{G:Dn}{β:Bg}(w:List E)(u:E->D)(o:E->a0b)(c:K G β=My (.ok (w.map u),β))(d:∀x∈w,∃a,P (u x) G=My a/\b a β=My (.ok (o x),β)):Zy K P (λ_=>M.ret OL) b G β=My (.ok (w.flatMap o),β):=by
 unfold Zy M.bind;rw[c];exact uV u o w d
noncomputable abbrev ia(B:a0f):LP:=B.map λa=>a.map λp=>((p.1:Int),(p.2:Int))
abbrev kc(B:a0f):D:=dg (ia B)
noncomputable def nG(B:a0f)(k:Nat):a0h:=B.map λa=>a.getD k (0,0)
def B3(r c:Nat)(B:a0f):Prop:=io r c B/\∀a∈B,∀p∈a,p.1<=p.2/\p.2<=40
def wB(B:a0f)(cs:a0a):Wy:=λk r=>vB (nG B k) r (cs.getD k 0)
theorem NE(B:a0f)(a:a0a):ZB a (wB B a):=λk r=>YD
theorem B3.col{r c k:Nat}{B:a0f}(h:B3 r c B)(e:k<c):(nG B k).length=r/\∀p∈nG B k,p.1<=40/\p.2<=40:=by
 refine⟨by unfold nG;rw[OH,h.1.1],λp d=>?_⟩;obtain⟨a,b,rfl⟩:=OR.mp d;have l:=h.1.2 a b;rw[f8 (by lia)];have:=h.2 a b _ (Qr (show k<a.length by lia));lia
theorem Kn{r E:a0a}{B:a0f}{k:Nat}(c:z4 r)(hB:B3 r.length E.length B)(i:E.sum<=40)(e:k<E.length):(cL K a).1 [tN r,nL E,kc B,.int (k:Int)] β=My (.ok (.lst ((wB B E k r).map tN)),β):=by
 have g:E[k]?=My (E.getD k 0):=by rw[O5,ON e];rfl
 obtain⟨l,q⟩:=hB.col e;unfold cL
 dsimp only
 refine aW (au (aU (ak (ae rfl (ae (dr rfl rfl (cA (d:= .int (E.getD k 0:Int)) (by rw[OS,OS,g];rfl))) (ae ?_ rfl))) (Mi c l q (Pj (ik (Pd g)) i))) ⟨rfl,rfl⟩));have h:=bq (nv:=1) (bt:=[3]) (it:=dE (ag 2)) (tg:=gs 0) (f:=f2 hY (ag 0) (ag 1)) (δ:=[My (tN r),My (nL E),My (kc B),My (.int (k:Int))]) (β:=β) B (λw=>D.lst (w.map pN)) (λw=>pN (w.getD k (0,0))) (cK rfl (by
  show My _=My _;rw[O0,O0];exact Qb My (PU λw _=>Qb D.lst (by show Q2 pD (Q2 _ w)=_;rw[O0];rfl)))) (λw b=>⟨[My (D.lst (w.map pN)),My (.int (k:Int))],rfl,dr rfl rfl (cA (by
   have l:=hB.1.2 w b;rw[OS,f8 (by lia),ON (by lia)];rfl))⟩) (bn (by rw[hB.1.1];have:=c.2.1;lia))
 refine h.trans ?_;unfold nG;rw[O0];rfl
theorem ue:∀{r v:a0a},ky v r->(r.zip v).map (λp=>D.int ((p.1:Int)-(p.2:Int)))=(nI (less r v)).map D.int
 |[],[],_=>rfl
 |x::r,y::v,h=>by
  have e:=ue h.2;have b:=h.1;show _::_=D.int ((x-y:Nat):Int)::(nI (less r v)).map D.int;rw[<-e];show D.int ((x:Int)-(y:Int))::_=_;rw[show(x:Int)-(y:Int)=((x-y:Nat):Int) by lia];rfl
 |[],_::_,h=>h.elim
 |_::_,[],h=>h.elim
theorem IB{r v:a0a}(h:ky v r)(b:r.length<=4):(eK K a).1 [tN r,tN v] β=My (.ok (tN (less r v)),β):=by
 unfold eK
 dsimp only
 refine aW (au (aU (aj (ae (x:= .lst ((nI (less r v)).map D.int)) ?_ rfl) rfl) ⟨rfl,rfl⟩));rw[<-ue h];refine bq (r.zip v) (λp=>D.tup [.int (p.1:Int),.int (p.2:Int)]) _ ?_ (λp _=>⟨[My (.int (p.1:Int)),My (.int (p.2:Int))],rfl,rfl⟩) (bn (by rw[Tw];lia));rw[<-ir (λx:Nat=>D.int (x:Int)) (λx:Nat=>D.int (x:Int))];refine kx (x:=tN r) (y:=tN v) rfl rfl ?_ ?_
 .show My _=My _
  rw[O0];rfl
 .show My _=My _
  rw[O0];rfl
structure Nt0 (rs cs:a0a):Prop where
 nr:z4 rs
 wd:pr (rs.dropLast.map (·+1))<63
 sm:rs.sum=cs.sum
 c1:1<=cs.length
 c6:cs.length<=6
structure s9 (K:Pl) (a:Ad) (rs cs:a0a) (W:Wy) (bd:D):Prop extends Nt0 rs cs where
 ok:ZB cs W
 fl:∀{β:Bg} {k:Nat} {r:a0a},k<cs.length->z4 r->r.length=rs.length->(cL K a).1 [tN r,nL cs,bd,.int (k:Int)] β=My (.ok (.lst ((W k r).map tN)),β)
theorem s9.at{rs cs r:a0a}{k:Nat}{W:Wy}{b:D}(h:s9 K a rs cs W b)(c:k<=cs.length)(d:r∈fh W rs k):z4 r/\r.length=rs.length/\r.sum<=40:=by
 have q:=(iJ h.ok h.sm k c r d).1;obtain⟨e,f,g,i⟩:=h.nr;have w:=q.len;have E:=q.sum;have G:=q.pr;exact⟨⟨by lia,by lia,Pj ‹_› ‹_›,Pj ‹_› ‹_›⟩,w,Pj ‹_› ‹_›⟩
abbrev i4(W:Wy)(a:a0a)(k:Nat):D:= .lst ((fh W a k).map tN)
theorem CZ{w cs:a0a}{W:Wy}{b:D}(h:s9 K a w cs W b):(fI K a).1 [nL w,nL cs,b] β=My (.ok (.lst ((OX (cs.length+1)).map (i4 W w))),β):=by
 have G:=h.c6;unfold fI
 dsimp only
 refine aW ?_;refine aG (d:=i4 W w 0) (β1:=β) (aj (ae (aj rfl rfl) rfl) nq) ?_;refine nU (ds:=[i4 W w 0]) (β1:=β) rfl (show 1<=Pk by decide) ?_;refine bB (ds:=aZ 0 cs.length) (β1:=β) (bE (ae (aj rfl (dF (r:=cs.length) (by rw[OH,OH]))) rfl) (y3 (by lia) (by lia))) (λk E c=>β=c/\∃e f,E=[My (.sh (nL w)),My (.sh (nL cs)),My (.sh (b)),My (.sh (i4 W w k)),My (.own ((OX (k+1)).map (i4 W w))),e,f]) ⟨rfl,OI,OI,rfl⟩ ?_ ?_
 .rintro k d E _ hd ⟨rfl,e,f,rfl⟩
  obtain⟨g,rfl⟩:=IA hd;refine⟨_,rfl,aG (d:=i4 W w (k+1)) (β1:=β) ?_ (lP (cs:=(OX (k+1)).map (i4 W w)) (d:=i4 W w (k+1)) rfl rfl (Pm (show _<1000 by rw[OH,Pi];lia) (by decide)) (au (aG (d:=i4 W w (k+1)) (β1:=β) rfl (bf ⟨rfl,My (.sh (.int (k:Int))),My (.sh (i4 W w (k+1))),?_⟩))))⟩
  .refine kf (fh W w k) tN (λr=>(W k r).map λv=>tN (less r v)) rfl (λr j=>⟨[My (tN r),OI,My (nL cs),My (b),My (.int (k:Int))],rfl,?_⟩) ?_
   .obtain⟨i,l,_⟩:=h.at (Qo ‹_›) j
    exact zy _ tN _ (cK (ak rfl (h.fl g i l)) rfl) (λv m=>⟨[My (tN r),My (tN v),My (nL cs),My (b),My (.int (k:Int))],rfl,ak rfl (IB (dT ((h.ok k r).subset m)) i.2.1)⟩)
   .rw[<-vP h.ok h.sm h.nr.1 h.wd g]
    unfold O_;rw[Q4];simp only[O0];rfl
  .rw[RP (n:=k+1),Pw];rfl
 .rintro E _ ⟨rfl,e,f,rfl⟩
  rw[tw];exact au (aU rfl ⟨rfl,rfl⟩)
theorem nX{i:Nat}{w:a0Z}{f:FD}{c d z:D}{h:G}{a:Ds}{β β1:Bg}{Q:a0y}(b:(vw a).getD i OI=My c)(e:f (vw a) β=My (.ok d,β1))(g:w c d=My z)(k:Gw h (a.set i (My (.sh z))) β1 Q):Gw (aD (xM i w f) h) a β Q:=dh (by unfold xM;simp only[b,e,g,Rt]) k
theorem yY{m i:Nat}{d:D}(h:(aZ 2 m)[i]?=My d):i<m/\d= .int ((i+2:Nat):Int):=by
 obtain⟨x,a,rfl⟩:=bL (f:=λ(i:Nat)=>D.int (2+(i:Int))) (xs:=OX m) h;have b:=(OT.mp a).1;rw[Pi]at b;rw[P9 b]at a;cases a;exact⟨b,by congr 1;lia⟩
theorem yW(a:Int)(m:Nat):(aZ a m).length=m:=by unfold aZ;rw[OH,Pi]
theorem Z5{n:Nat}(h:n<=2^11):n<2^1000:=eC h (by decide)
theorem wg(n:Nat):dk (n-1+1)=dk n:=by cases n<;>rfl
theorem we{n:Nat}(h:n<=40):(jl K a).1 [.int (n:Int)] β=My (.ok (.int ((dk n:Nat):Int)),β):=by
 unfold jl
 dsimp only
 refine aW ?_;refine aG (d:= .int 1) (β1:=β) rfl ?_;refine bB (ds:=aZ 2 (n-1)) (β1:=β) (bE (ae rfl (ae (dr rfl rfl rfl) rfl)) (rg2 (by lia))) (λi w b=>β=b/\∃c,w=[My (.sh (.int (n:Int))),My (.sh (.int ((dk (i+1):Nat):Int))),c]) ⟨rfl,OI,rfl⟩ ?_ ?_
 .rintro i d w _ hd ⟨rfl,c,rfl⟩
  obtain⟨e,rfl⟩:=yY hd;exact⟨_,rfl,au (nX rfl rfl (pU (eC (jG (by lia)) (by decide)) (Z5 (by lia))) (bf ⟨rfl,_,rfl⟩))⟩
 .rintro w _ ⟨rfl,c,rfl⟩
  rw[yW,wg];exact au (aU rfl ⟨rfl,rfl⟩)
theorem ud{n:Nat}(h:n<=40):(gW K a).1 [.int (n:Int)] β=My (.ok (.int ((dk n:Nat):Int)),β):=by
 unfold gW
 dsimp only
 refine aW ?_;refine aG (d:= .int 1) (β1:=β) rfl ?_;refine bB (ds:=aZ 2 (n-1)) (β1:=β) (bE (ae rfl (ae (dr rfl rfl rfl) rfl)) (rg2 (by lia))) (λi w b=>β=b/\∃c,w=[My (.sh (.int (n:Int))),My (.sh (.int ((dk (i+1):Nat):Int))),c]) ⟨rfl,OI,rfl⟩ ?_ ?_
 .rintro i d w _ hd ⟨rfl,c,rfl⟩
  obtain⟨e,rfl⟩:=yY hd;exact⟨_,rfl,au (aG (dr rfl rfl (pU (eC (jG (by lia)) (by decide)) (Z5 (by lia)))) (bf ⟨rfl,_,rfl⟩))⟩
 .rintro w _ ⟨rfl,c,rfl⟩
  rw[yW,wg];exact au (aU rfl ⟨rfl,rfl⟩)
def B_(l:a0a):Nat:=dk l.sum/pr (l.map dk)
theorem Nu{l:a0a}{d:D}(h:Sq l d):n9 [d]=My (.int ((l.sum:Nat):Int)):=by
 rw[<-iG];rcases h with rfl|rfl
 .exact KP _
 .exact KO _
theorem kZ(l:a0a):gy [nL l]=My (.int ((l.sum:Nat):Int)):=by rw[<-iG];exact eG _
theorem se{l:a0a}{i n:Nat}(h:l.sum<=40)(a:l[i]?=My n):n<=40:=Pj (ik (Pd a)) h
theorem Jf{l:a0a}{E:D}(M:Sq l E)(h:l.sum<=40):(tF K a).1 [E] β=My (.ok (.int ((B_ l:Nat):Int)),β):=by
 unfold tF
 dsimp only
 refine aW ?_;refine bB (ds:=(nI l).map D.int) (β1:=β) (cK rfl M.seq) (λi w c=>β=c/\∃b,w=[My (.sh E),b,OI]) ⟨rfl,OI,rfl⟩ ?_ ?_
 .rintro i d w _ hd ⟨rfl,b,rfl⟩
  obtain⟨n,G,rfl⟩:=l8 hd;exact⟨_,rfl,au (fm (β1:=β) (ij (dr rfl rfl (by show My (D.bl (decide ((n:Int)<0)))=_;rw[PY (by lia)]))) (bx (bf ⟨rfl,_,rfl⟩)))⟩
 rintro w _ ⟨rfl,b,rfl⟩;refine aG (d:= .int ((dk l.sum:Nat):Int)) (β1:=β) (ak (ae (aj rfl (Nu M)) rfl) (we h)) ?_;refine bB (ds:=(nI l).map D.int) (β1:=β) (cK rfl M.seq) (λi w c=>β=c/\∃b,w=[My (.sh E),b,My (.sh (.int ((dk l.sum/pr ((l.take i).map dk):Nat):Int)))]) ⟨rfl,b,by rw[TZ,SI,Li,Nat.div_one];rfl⟩ ?_ ?_
 .rintro i d w _ hd ⟨rfl,b,rfl⟩
  obtain⟨n,G,rfl⟩:=l8 hd;refine⟨_,rfl,au (nX rfl (ak rfl (we (se h G))) (IY (mr n) (eC (jG (se h G)) (by decide))) (bf ⟨rfl,My (.sh (.int (n:Int))),?_⟩))⟩;rw[jA G,XV];rfl
 .rintro w _ ⟨rfl,b,rfl⟩
  rw[k4,QE];exact au (aU rfl ⟨rfl,rfl⟩)
theorem wf{l:a0a}{i:Nat}(h:l.sum<=40)(b:l.length<=4):pr ((l.take i).map dk)<=2^640:=by
 refine Pj (NW (m:=160) λx a=>?_) (VW (by decide) ?_)
 .obtain⟨n,hn,rfl⟩:=OR.mp a
  exact jG (Pj (ik (QR hn)) h)
 .rw[OH,PR];lia
theorem DI{l:a0a}(h:l.sum<=40)(e:l.length<=4):(m8 K a).1 [nL l] β=My (.ok (.int ((B_ l:Nat):Int)),β):=by
 unfold m8
 dsimp only
 refine aW ?_;refine aG (d:= .int 1) (β1:=β) rfl ?_;refine bB (ds:=(nI l).map D.int) (β1:=β) rfl (λi w b=>β=b/\∃c,w=[My (.sh (nL l)),My (.sh (.int ((pr ((l.take i).map dk):Nat):Int))),c]) ⟨rfl,OI,rfl⟩ ?_ ?_
 .rintro i d w _ hd ⟨rfl,c,rfl⟩
  obtain⟨n,E,rfl⟩:=l8 hd;refine⟨_,rfl,au (aG (dr rfl (ak rfl (ud (se h E))) (pU (eC (wf h e) (by decide)) (eC (jG (se h E)) (by decide)))) (bf ⟨rfl,My (.sh (.int (n:Int))),?_⟩))⟩;rw[jA E];rfl
 .rintro w _ ⟨rfl,c,rfl⟩
  rw[k4,QE];have f:=wf (i:=l.length) h e;rw[QE]at f;exact au (aU (dr (ak (ae (aj rfl (kZ l)) rfl) (ud h)) rfl (IY (tH λx G=>by obtain⟨n,_,rfl⟩:=OR.mp G;exact mr n) (eC f (by decide)))) ⟨rfl,rfl⟩)
theorem sD{l:a0a}(h:l.sum<=40):B_ l<=2^160:=Pj (WY _ _) (jG h)
theorem sC(l:a0a):B_ l=mu l:=LJ l
theorem IL{l:a0a}(h:l.sum<=40):mu l<=2^160:=by rw[<-sC];exact sD h
theorem rA{a:Type}{l:List a}{i:Nat}{x:a}(f:a->Nat)(h:l[i]?=My x):L2.Nt.sm (l.take (i+1)) f=L2.Nt.sm (l.take i) f+f x:=by
 rw[Vg,h,sQ];rfl
abbrev cv(W:Wy)(m k:Nat)(r:a0a):D:= .tup [.int ((uy W (m-k) k r:Nat):Int),.int ((t0 W (m-k) k r:Nat):Int)]
abbrev n_(W:Wy)(a:a0a)(m k:Nat):D:= .dct OQ ((fh W a k).map λr=>((0:Int),nI r)) ((fh W a k).map (cv W m k))
theorem zK{f:a0a->D}{u:a0a}:∀{L:a0K},u∈L->D_ (L.map λr=>((0:Int),nI r)) (L.map f) (0,nI u)=My (f u)
 |r::L,h=>by
  unfold D_;rw[Pc,Pc,Rj,SQ];by_cases q:r=u
  .rw[q,Pf rfl];rfl
  .rw[PY λe=>q (k6 (T0.mp e).2)]
   exact zK ((O6.mp h).resolve_left λe=>q e.symm)
theorem Mt{W:Wy}{a u:a0a}{m k:Nat}(h:u∈fh W a k):xV (n_ W a m k) (tN u)=My (cv W m k u):=by
 show(jp OQ (dK OQ (0,nI u))).bind _=_;rw[jF λ_=>rfl];exact zK h
theorem xi{w cs r:a0a}{W:Wy}{q:D}{k:Nat}(h:s9 K a w cs W q)(o:k<cs.length)(p:r∈fh W w k):(gU K a).1 [tN r,.lst ((W k r).map tN),n_ W w cs.length (k+1)] β=My (.ok (cv W cs.length k r),β):=by
 obtain⟨t,y,u⟩:=h.at (Qo ‹_›) p;unfold gU
 dsimp only
 refine aW ?_;refine aG (d:= .int 0) (β1:=β) rfl (aG (d:= .int 0) (β1:=β) rfl ?_);refine bB (ds:=(W k r).map tN) (β1:=β) rfl (λi E e=>β=e/\∃f g j,E=[My (.sh (tN r)),My (.sh (.lst ((W k r).map tN))),My (.sh (n_ W w cs.length (k+1))),My (.sh (.int ((L2.Nt.sm ((W k r).take i) λv=>uy W (cs.length-(k+1)) (k+1) (less r v):Nat):Int))),My (.sh (.int ((L2.Nt.sm ((W k r).take i) λv=>mu v*t0 W (cs.length-(k+1)) (k+1) (less r v):Nat):Int))),f,g,j]) ⟨rfl,OI,OI,OI,rfl⟩ ?_ ?_
 .rintro i d E _ hd ⟨rfl,f,g,j,rfl⟩
  obtain⟨v,l,rfl⟩:=bL hd;have G:=Pd l;have m:less r v∈fh W w (k+1):=gm.mpr ⟨r,p,v,G,rfl⟩;have b:=(h.ok k r).subset G;have M:=(iJ h.ok h.sm (k+1) o _ m).2;have c:v.sum<=40:=Pj (dT b).sum u;have n:=(h.at o m).2.2;refine⟨_,rfl,HL (d:=cv W cs.length (k+1) (less r v)) (β1:=β) (dr rfl (ak rfl (IB (dT b) t.2.1)) (Mt m)) rfl (nX rfl rfl rfl (au (nX rfl (dr (ak rfl (Jf (.inr rfl) c)) rfl (pU (eC (sD c) (by decide)) (eC (Pj (uJ h.ok _ _ _ (by lia)) (by rw[uI _ _ M];exact IL n)) (by decide)))) rfl (bf ⟨rfl,My (.sh (tN v)),My (.sh (.int ((uy W (cs.length-(k+1)) (k+1) (less r v):Nat):Int))),My (.sh (.int ((t0 W (cs.length-(k+1)) (k+1) (less r v):Nat):Int))),?_⟩))))⟩;rw[rA _ l,rA _ l,sC,Sf,Sf];rfl
 .rintro E _ ⟨rfl,f,g,j,rfl⟩
  rw[OH,QE];refine au (aU (aj rfl gh) ⟨rfl,?_⟩);show Ra (D.tup [.int ((uy W (cs.length-k) k r:Nat):Int),.int ((t0 W (cs.length-k) k r:Nat):Int)])=_;rw[show cs.length-k=cs.length-(k+1)+1 by lia];rfl
theorem wz{f g:FD}{a:Dn}{k v:D}(b:f a β=My (.ok k,β))(c:g a β=My (.ok v,β)):EU f g a β=My (.ok [.tup [k,v]],β):=by
 unfold EU M.bind;rw[b];simp only[c,M.ret]
theorem uC{a b:Type}(f:a->b)(l:List a):(l.flatMap λx=>[f x])=l.map f:=by
 induction l with
 |nil=>rfl
 |cons x l w=>rw[QI,w];rfl
theorem gG{rs cs:a0a}{W:Wy}{b:D}(h:s9 K a rs cs W b){k:Nat}(c:k<=cs.length):(fh W rs k).length<=62:=by
 have:=J2 h.ok h.sm c;have:=h.wd;lia
theorem dk0{w cs:a0a}{W:Wy}{b:D}(h:s9 K a w cs W b){k:Nat}(c:k<=cs.length){E:a0b}(e:E=(fh W w k).map λr=> .tup [tN r,cv W cs.length k r]):j8 OQ E=My (n_ W w cs.length k):=by
 refine(wn (kvs:=(fh W w k).map λr=>(((0:Int),nI r),cv W cs.length k r)) ⟨?_,?_,?_,?_⟩).trans ?_
 .rw[e,O0];rfl
 .rw[O0];exact zE (λx y q=>k6 (T0.mp q).2) (oS k)
 .rw[OH];exact bn (by have:=gG h c;lia)
 .rintro p d _
  obtain⟨r,_,rfl⟩:=OR.mp d;rfl
 .rw[O0,O0];rfl
theorem NS{n:Nat}(h:n<=1000):rB [.int (n:Int)]=My (di n):=by
 simp only[rB];rw[OZ (by simp only[PP,PX];lia),Qv]
theorem NT{n i:Nat}{d:D}(h:(di n)[i]?=My d):i<n/\d= .int ((n-1-i:Nat):Int):=by
 obtain⟨x,a,rfl⟩:=bL (f:=λ(i:Nat)=>D.int ((n:Int)-1-i)) (xs:=OX n) h;have b:=(OT.mp a).1;rw[Pi]at b;rw[P9 b]at a;cases a;exact⟨b,by congr 1;omega⟩
theorem yX{f:Nat->D}{n k:Nat}(h:k<n):((OX n).map f)[k]?=My (f k):=by rw[OS,P9 h];rfl
theorem AU{f:Nat->D}:∀n j,cP j ((List.range' j n).map f)=(List.range' j n).map λk=> .tup [.int (k:Int),f k]
 |0,_=>rfl
 |n+1,j=>by
  rw[List.range'_succ,Pc,Pc,<-AU n (j+1)];rfl
theorem JG{f:Nat->D}(m:Nat):((OX (m+1)).map λj=>f (m-j)).reverse=(OX (m+1)).map f:=Td (by simp) λi b c=>by
 simp only[UD,OH,Pi]at b;simp only[Yq,Te,UW,OH,Pi];congr 1;lia
abbrev GX(W:Wy)(a:a0a)(m:Nat):a0b:=(OX (m+1)).flatMap λk=>(fh W a k).map (cv W m k)
abbrev uS(W:Wy)(rs:a0a)(m:Nat):D:= .dct OL (E_ W rs (m+1)) (GX W rs m)
theorem dk1{rs cs:a0a}{W:Wy}{b:D}(h:s9 K a rs cs W b){w:a0b}(e:w=(OX (cs.length+1)).flatMap λ(k:Nat)=>(fh W rs k).map λr=> .tup [.tup [.int (k:Int),tN r],cv W cs.length k r]):j8 OL w=My (uS W rs cs.length):=by
 refine(wn (kvs:=(OX (cs.length+1)).flatMap λ(k:Nat)=>(fh W rs k).map λr=>(((k:Int),nI r),cv W cs.length k r)) ⟨?_,?_,?_,?_⟩).trans ?_
 .rw[e,Q4];simp only[O0];rfl
 .have:=zW (W:=W) (rs:=rs) (cs.length+1)
  unfold E_ at this;rw[Q4];simp only[O0];exact this
 .refine bn (Pj (dY (n:=62) λk c=>?_) (by have:=h.c6;rw[Pi];lia))
  have:=Pn.mp c;rw[OH];exact gG h (Nat.le_of_succ_le_succ ‹_›)
 .rintro p _ q
  cases q
 .unfold uS E_
  rw[Q4,Q4];simp only[O0];rfl
theorem xW{w cs:a0a}{W:Wy}{b:D}(h:s9 K a w cs W b):(d6 K a).1 [nL w,nL cs,b] β=My (.ok (uS W w cs.length),β):=by
 have G:=h.c6;unfold d6
 dsimp only
 refine aW ?_;refine aG (d:= .lst ((OX (cs.length+1)).map (i4 W w))) (β1:=β) (ak rfl (CZ h)) ?_;refine aG (d:= .int (cs.length:Int)) (β1:=β) (aj rfl (dF (by rw[OH,OH]))) ?_;refine aG (d:=n_ W w cs.length cs.length) (β1:=β) (kf (fh W w cs.length) tN (λr=>[.tup [tN r,.tup [.int 1,.int 1]]]) (cK (dr rfl rfl (cA (yX (Um _)))) rfl) (λr _=>⟨[My (tN r)],rfl,wz rfl (aj rfl gh)⟩) (dk0 h (OW _) (by rw[uC];simp only[cv,Ti];rfl))) ?_;refine nU (ds:=[n_ W w cs.length cs.length]) (β1:=β) rfl (show 1<=Pk by decide) ?_;refine bB (ds:=di cs.length) (β1:=β) (bE rfl (NS (by lia))) (λi E c=>β=c/\∃e f,E=[My (.sh (nL w)),My (.sh (nL cs)),My (.sh (b)),My (.sh (.lst ((OX (cs.length+1)).map (i4 W w)))),My (.sh (.int (cs.length:Int))),My (.sh (n_ W w cs.length (cs.length-i))),My (.own ((OX (i+1)).map λj=>n_ W w cs.length (cs.length-j))),e,f]) ⟨rfl,OI,OI,rfl⟩ ?_ ?_
 .rintro i d E _ hd ⟨rfl,e,f,rfl⟩
  obtain⟨p,rfl⟩:=NT hd;have l:cs.length-1-i<cs.length:=by omega
  have o:cs.length-i=(cs.length-1-i)+1:=by lia
  have m:cs.length-(i+1)=cs.length-1-i:=by lia
  rw[o];refine⟨_,rfl,aG (d:=n_ W w cs.length (cs.length-1-i+1)) (β1:=β) rfl (aG (d:=n_ W w cs.length (cs.length-1-i)) (β1:=β) (kf (fh W w (cs.length-1-i)) tN (λr=>[.tup [tN r,cv W cs.length (cs.length-1-i) r]]) (cK (dr rfl rfl (cA (yX (by lia)))) rfl) (λr g=>⟨[My (tN r),My (nL cs),My (b),My (.int ((cs.length-1-i:Nat):Int)),My (n_ W w cs.length (cs.length-1-i+1))],rfl,wz rfl (ak (ae rfl (ae (ak rfl (h.fl l (h.at (Qo ‹_›) g).1 (h.at (Qo ‹_›) g).2.1)) rfl)) (xi h l g))⟩) (dk0 h (Qo ‹_›) (uC _ _))) (au (lP (cs:=(OX (i+1)).map λj=>n_ W w cs.length (cs.length-j)) (d:=n_ W w cs.length (cs.length-1-i)) rfl rfl (Pm (show _<1000 by rw[OH,Pi];lia) (by decide)) (bf ⟨rfl,My (.sh (.int ((cs.length-1-i:Nat):Int))),My (.sh (n_ W w cs.length (cs.length-1-i+1))),?_⟩))))⟩;rw[RP (n:=i+1),Pw,m];show _=[_,_,_,_,_,_,My (Sl.own (_++[n_ W w cs.length (cs.length-(i+1))])),_,_];rw[m];rfl
 .rintro E _ ⟨rfl,e,f,rfl⟩
  rw[show(di cs.length).length=cs.length by unfold di;rw[OH,Pi]];refine au (aU (kf (OX (cs.length+1)) (λk=> .tup [.int (k:Int),n_ W w cs.length k]) (λ(k:Nat)=>(fh W w k).map λr=> .tup [.tup [.int (k:Int),tN r],cv W cs.length k r]) (bE (ae (dr (y:= .int (-1)) rfl rfl rfl) rfl) ?_) (λk _=>⟨[My (.int (k:Int)),My (n_ W w cs.length k),OI,OI],rfl,?_⟩) (dk1 h rfl)) ⟨rfl,rfl⟩)
  .show My (cP 0 _)=_
   rw[JG,List.range_eq_range',AU]
  .refine(N5 (fh W w k) (λr=> .tup [tN r,cv W cs.length k r]) (λr=>[.tup [.tup [.int (k:Int),tN r],cv W cs.length k r]]) ?_ (λr _=>⟨[My (.int (k:Int)),My (n_ W w cs.length k),My (tN r),My (cv W cs.length k r)],rfl,wz (aj rfl gh) rfl⟩)).trans (by rw[uC])
   show My (Ra (UN _ _ _),β)=_;rw[List.zipWith_map_left,List.zipWith_map_right,List.zipWith_self];rfl
theorem tp_e{r c:Nat}{w:LI}(E:io r c w)(P:1<=r)(S:r<=30)(V:c<=30){δ:Dn}(h:δ.getD 0 OI=My (bT w)):cN 1 [0] (cu fG (aa (aL fZ (aa (f2 hY (ag 0) (fC (.int 0))) (ax))) (ax))) (gs 0) (λ_=>M.ret OL) (j2 (cN 1 [0] (dE (ag 1)) (gs 0) (λ_=>M.ret OL) (j2 (f2 hY (ag 0) (ag 1))))) δ β=My (.ok (bT (tp c w)),β):=by
 obtain⟨b,d,g⟩:=E.at (i:=0) (by lia);have k:(gI w)[0]?=My (b.map D.int):=by rw[OS,d];rfl
 have el:aL fZ (aa (f2 hY (ag 0) (fC (.int 0))) (ax)) δ β=My (.ok (.int (c:Int)),β):=aj (ae (x:= .lst (b.map D.int)) (dr (x:=bT w) (wy h) rfl (rM k)) rfl) (dF (by rw[OH,g]));have e:=bq (nv:=1) (bt:=[0]) (it:=cu fG (aa (aL fZ (aa (f2 hY (ag 0) (fC (.int 0))) (ax))) (ax))) (tg:=gs 0) (f:=cN 1 [0] (dE (ag 1)) (gs 0) (λ_=>M.ret OL) (j2 (f2 hY (ag 0) (ag 1)))) (δ:=δ) (β:=β) (OX c) (λi=>D.int (0+(i:Int))) (λj=>D.lst (w.map λa=>D.int (a.getD j 0))) (bE (ds:=aZ 0 c) (ae el rfl) (y3 (by lia) (by lia))) ?_ (bn (by rw[Pi];lia))
 .rw[e]
  unfold tp I_;show _=My (Ra (D.lst (Q2 D.lst (Q2 _ (Q2 _ _)))),β);rw[O0,O0];congr 4;refine PU λj _=>?_;show _=D.lst ((w.map λa=>a.getD j 0).map D.int);rw[O0];rfl
 .intro j n
  have o:=Pn.mp n;have m:jm 1 [0] δ=[OI,My (bT w)]:=by
   unfold jm;simp only[Pc,SI,h];rfl
  refine⟨[My (.int (0+(j:Int))),My (bT w)],by rw[m];rfl,?_⟩;have K:(gI w).map D.lst=w.map λa=>D.lst (a.map D.int):=by rw[O0];rfl
  refine bq (nv:=1) (bt:=[0]) w (λa=>D.lst (a.map D.int)) _ (by show My (Ra ((gI w).map D.lst),β)=_;rw[K]) (λa p=>⟨_,rfl,dr (x:= .lst (a.map D.int)) (y:= .int (0+(j:Int))) rfl rfl ?_⟩) (bn (by rw[E.1];lia));have q:=E.2 a p;obtain⟨x,G⟩:=I9 (l:=a) (i:=j) (by lia);rw[T5];refine cA ?_;rw[OS,G,O5,G];rfl
theorem xu{r c:Nat}{w:LI}(D:io r c w)(E:1<=r)(G:r<=30)(M:c<=30):(oH K a).1 [bT w] β=My (.ok (bT (tp c w)),β):=
 aW (au (aU (tp_e D E G M rfl) ⟨rfl,rfl⟩))
noncomputable abbrev iL(a:a0e):D:= .lst (a.map D.int)
theorem yC{w:LI}(h:w.length<=1000){f:FD}{δ:Dn}(e:f δ β=My (.ok (bT w),β)):cN 1 [] (dE f) (gs 0) (λ_=>M.ret OL) (j2 (aL gy (aa (ag 0) (ax)))) δ β=My (.ok (iL (w.map Rf)),β):=by
 have E:(gI w).map D.lst=w.map λa=>D.lst (a.map D.int):=by rw[O0];rfl
 have:=bq (nv:=1) (bt:=[]) (it:=dE f) (tg:=gs 0) (f:=aL gy (aa (ag 0) (ax))) (δ:=δ) (β:=β) w (λa=>D.lst (a.map D.int)) (λa=>D.int a.sum) (by rw[<-E];exact cK e rfl) (λa _=>⟨_,rfl,aj rfl (eG a)⟩) (bn h);rw[this];show _=My (Ra (D.lst ((w.map Rf).map D.int)),β);rw[O0];rfl
theorem oE{ac:LI}(h:ac.length<=1000):(jj K a).1 [bT ac] β=My (.ok (iL (ac.map Rf)),β):=
 aW (au (aU (yC h rfl) ⟨rfl,rfl⟩))
theorem ku{r c:Nat}{ac:LI}(w:io r c ac)(D:1<=r)(E:r<=30)(G:c<=30):(gl K a).1 [bT ac] β=My (.ok (iL ((tp c ac).map Rf)),β):=
 aW (au (aU (yC (by rw[(vh (d:=(0:Int)) (c:=c) w.1).1];lia) (ak rfl (xu w D E G))) ⟨rfl,rfl⟩))
noncomputable def gp(G:LI)(i j:Nat):Int:=(G.getD i []).getD j 0
theorem Ox{G:LI}{i j:Nat}{a:a0e}{x:Int}(b:G[i]?=My a)(c:a[j]?=My x):gp G i j=x:=by
 unfold gp;simp only[O5,b,c,Option.getD_some]
theorem AH{G:LI}{i j:Nat}{a:a0e}(b:G[i]?=My a):a.getD j 0=gp G i j:=by
 unfold gp;rw[O5 (l:=G),b];rfl
theorem BL:∀(a:a0e),S a.length (λj=>a.getD j 0)=a.sum:=λa=>by
 unfold S;congr 1;refine Td (by simp) λi c b=>?_;rw[Te,UW,O5,ON b];rfl
theorem Nw{r c i:Nat}{A:LI}(sA:io r c A)(d:i<r):S c (gp A i)=(A.map Rf).getD i 0:=by
 obtain⟨e,b,f⟩:=sA.at d;rw[O5,OS,b];show _=e.sum;rw[<-BL,f];exact dI λj _=>(AH b).symm
theorem Nx{r c j:Nat}{A:LI}(sA:io r c A)(d:j<c):S r (λp=>gp A p j)=((tp c A).map Rf).getD j 0:=by
 have e:(tp c A)[j]?=My (A.map λa=>a.getD j 0):=by
  show((OX c).map λj=>A.map λa=>a.getD j 0)[j]?=_;rw[OS,P9 d];rfl
 rw[O5,OS,e];show _=(A.map λa=>a.getD j 0).sum;rw[<-BL,OH,sA.1];refine dI λp f=>?_;obtain⟨g,b,h⟩:=sA.at f;rw[O5 (l:=A.map _),OS,b];exact(AH b).symm
theorem zB{w:a0e}{b:a0a}(c:∀i∈b,i<w.length)(d:b.length<=1000):(kR K a).1 [iL w,nL b] β=My (.ok (.int (oQ w b)),β):=by
 unfold kR
 dsimp only
 refine aW (au (aU (aj (ae (x:=iL (b.map λi=>w.getD i 0)) ?_ rfl) (eG _)) ⟨rfl,rfl⟩));have:=bq (nv:=1) (bt:=[0]) (it:=dE (ag 1)) (tg:=gs 0) (f:=f2 hY (ag 1) (ag 0)) (δ:=[My (iL w),My (nL b)]) (β:=β) b (λi=>D.int (i:Int)) (λi=>D.int (w.getD i 0)) (by show My (Ra ((nI b).map D.int),β)=_;rw[O0];rfl) (λi e=>⟨_,rfl,dr rfl rfl (IR (c i e))⟩) (bn d);refine this.trans ?_;show _=My (Ra (D.lst ((b.map λi=>w.getD i 0).map D.int)),β);rw[O0];rfl
theorem qP{r c j:Nat}{w:a0e}{b:LP}{g:a0a}(E:io r c b)(n:w.length=c)(k:r<=1000)(l:j<c):(cX K a).1 [iL w,dg b,nL g,.int (j:Int)] β=My (.ok (.int (eM w b r g j)),β):=by
 unfold cX
 dsimp only
 refine aW ?_;refine aG (d:=iL (((OX r).filter λi=>!decide (i∈g)).map λi=>(bI b i j).1)) (β1:=β) ?_ ?_
 .have m:((gP b).map D.lst).length=r:=by rw[OH,OH,E.1]
  have:=j9 (nv:=2) (bt:=[2,3]) (it:=IK (aa (ag 1) ax)) (tg:=J_ (fF (gs 0) (fF (gs 1) jP))) (tt:=fB (f2 (F0 OL) (ag 0) (ag 2))) (f:=f2 hY (f2 hY (ag 1) (ag 3)) (fC (.int 0))) (δ:=[My (iL w),My (dg b),My (nL g),My (.int (j:Int)),OI]) (β:=β) (OX r) (λi=>D.tup [.int (i:Int),.lst ((b.getD i []).map pD)]) (λi=>D.int (bI b i j).1) (λi=>!decide (i∈g)) ?_ (λi h=>⟨_,rfl,ij (dr rfl rfl uu),λ_=>dr (dr rfl rfl (ul E (Pn.mp h) l).2) rfl DX⟩) (bn (by rw[Pi];exact k))
  .refine this.trans ?_
   show _=My (Ra (D.lst ((((OX r).filter λi=>!decide (i∈g)).map λi=>(bI b i j).1).map D.int)),β);rw[O0];rfl
  .show My (Ra (cP 0 ((gP b).map D.lst)),β)=_
   rw[mQ,m];congr 3;refine PU λi h=>?_;rw[Q0];congr 3;obtain⟨e,_⟩:=E.getD (Pn.mp h);rw[O5,OS,OS,e];rfl
 refine au (aU (dr (x:= .int (w.getD j 0)) (dr rfl rfl (IR (by lia))) (aj rfl (eG _)) rfl) ⟨rfl,?_⟩);have e:(OX r).map (λi=>if i∈g then(0:Int)else(bI b i j).1)=(OX r).map (λx=>if(!decide (x∈g))=OL then(bI b x j).1 else 0):=PU λi _=>by by_cases q:i∈g<;>simp[q]
 unfold eM S;rw[wc,e]
theorem re{r c j:Nat}{b:LP}{d:a0a}(w:io r c b)(e:∀i∈d,i<r)(k:d.length<=1000)(g:j<c):(cY K a).1 [dg b,nL d,.int (j:Int)] β=My (.ok (.int (fQ b d j)),β):=by
 unfold cY
 dsimp only
 refine aW (au (aU (aj (ae (x:=iL (d.map λi=>(bI b i j).2)) ?_ rfl) (eG _)) ⟨rfl,rfl⟩));have:=bq (nv:=1) (bt:=[0,2]) (it:=dE (ag 1)) (tg:=gs 0) (f:=f2 hY (f2 hY (f2 hY (ag 1) (ag 0)) (ag 2)) (fC (.int 1))) (δ:=[My (dg b),My (nL d),My (.int (j:Int))]) (β:=β) d (λi=>D.int (i:Int)) (λi=>D.int (bI b i j).2) (by show My (Ra ((nI d).map D.int),β)=_;rw[O0];rfl) (λi h=>⟨_,rfl,dr (dr (dr rfl rfl (ul w (e i h) g).1) rfl (ul w (e i h) g).2) rfl DW⟩) (bn k);refine this.trans ?_;show _=My (Ra (D.lst ((d.map λi=>(bI b i j).2).map D.int)),β);rw[O0];rfl
theorem yV{r c:Nat}{w:a0e}{b:LP}{d e:a0a}(E:io r c b)(k:w.length=c)(l:r<=1000)(h:c<=1000)(m:∀i∈d,i<r)(n:d.length<=1000):(kQ K a).1 [iL w,dg b,nL d,nL e] β=My (.ok (.int (rC w b r c d e)),β):=by
 unfold kQ
 dsimp only
 refine aW (au (aU (aj (ae (x:=iL ((OX c).map λj=>if j∈e then eM w b r d j else fQ b d j)) ?_ rfl) (eG _)) ⟨rfl,rfl⟩));have:=bq (nv:=1) (bt:=[3,0,1,2]) (it:=cu fG (aa (aL fZ (aa (ag 0) (ax))) (ax))) (tg:=gs 0) (f:=Zw (fB (f2 (F0 OQ) (ag 0) (ag 1))) (bz (cX K a).1 (aa (ag 2) (aa (ag 3) (aa (ag 4) (aa (ag 0) (ax)))))) (bz (cY K a).1 (aa (ag 3) (aa (ag 4) (aa (ag 0) (ax)))))) (δ:=[My (iL w),My (dg b),My (nL d),My (nL e)]) (β:=β) (OX c) (λj=>D.int (0+(j:Int))) (λj=>D.int (if j∈e then eM w b r d j else fQ b d j)) (bE (ds:=aZ 0 c) (ae (aj rfl (dF (by rw[OH,k]))) rfl) (y3 (by lia) (by lia))) (λj o=>⟨[My (.int (j:Int)),My (nL e),My (iL w),My (dg b),My (nL d)],by rw[T5];rfl,?_⟩) (bn (by rw[Pi];exact h))
 .refine this.trans ?_
  show _=My (Ra (D.lst (((OX c).map λj=>if j∈e then eM w b r d j else fQ b d j).map D.int)),β);rw[O0];rfl
 .have g:=Pn.mp o
  by_cases q:j∈e
  .rw[OZ q]
   exact NA (ij (dr rfl rfl (by rw[uu];simp[q]))) (ak rfl (qP E k l g))
  .rw[OY q]
   exact NB (ij (dr rfl rfl (by rw[uu];simp[q]))) (ak rfl (re E m n g))
theorem zF{r c:Nat}{w:a0e}{b:LP}{d:a0a}(E:io r c b)(g:w.length=c)(l:r<=1000)(e:c<=1000)(m:∀i∈d,i<r)(n:d.length<=1000):(ji K a).1 [iL w,dg b,nL d] β=My (.ok (nL (tW w b r c d)),β):=by
 unfold ji
 dsimp only
 refine aW ?_;have h:=j9 (nv:=1) (bt:=[0,1,2]) (it:=cu fG (aa (aL fZ (aa (ag 0) (ax))) (ax))) (tg:=gs 0) (tt:=fB (f2 (Z9) (bz (cX K a).1 (aa (ag 1) (aa (ag 2) (aa (ag 3) (aa (ag 0) (ax)))))) (bz (cY K a).1 (aa (ag 2) (aa (ag 3) (aa (ag 0) (ax))))))) (f:=ag 0) (δ:=[My (iL w),My (dg b),My (nL d)]) (β:=β) (OX c) (λj=>D.int (0+(j:Int))) (λj=>D.int (j:Int)) (λj=>decide (eM w b r d j<fQ b d j))
  (bE (ds:=aZ 0 c) (ae (aj rfl (dF (by rw[OH,g]))) rfl) (y3 (by lia) (by lia)))
  (λj k=>⟨[My (.int (j:Int)),My (iL w),My (dg b),My (nL d)],by rw[T5];rfl,ij (dr (ak rfl (qP E g l (Pn.mp k))) (ak rfl (re E m n (Pn.mp k))) rfl),λ_=>rfl⟩) (bn (by rw[Pi];exact e))
 refine au (aU h ⟨rfl,?_⟩);show Ra (D.lst ((nI (tW w b r c d)).map D.int))=_;rw[O0];rfl
theorem K6{n i:Nat}{d:D}(h:(aZ 0 n)[i]?=My d):i<n/\d= .int (i:Int):=by
 obtain⟨x,a,rfl⟩:=bL (f:=λ(i:Nat)=>D.int (0+(i:Int))) (xs:=OX n) h;have b:=(OT.mp a).1;rw[Pi]at b;rw[P9 b]at a;cases a;exact⟨b,by rw[T5]⟩
theorem xZ{n:Nat}(w:n<=6):(kT K a).1 [.int (n:Int)] β=My (.ok (.lst ((rx n).map nL)),β):=by
 unfold kT
 dsimp only
 refine aW ?_;refine aG (d:= .lst [.lst []]) (β1:=β) (aj (ae (aj rfl LO) rfl) nq) ?_;refine bB (ds:=aZ 0 n) (β1:=β) (bE rfl (y3 (by lia) (by lia))) (λi δ b=>β=b/\∃c,δ=[My (.sh (.int (n:Int))),My (.sh (.lst ((rx i).map nL))),c]) ⟨rfl,OI,rfl⟩ ?_ ?_
 .rintro i d δ _ hd ⟨rfl,c,rfl⟩
  obtain⟨g,rfl⟩:=K6 hd;have j:(rx i).length<=64:=by rw[wt];exact Pj (VW (by decide) (show i<=6 by lia)) (by decide)
  refine⟨[My (.sh (.int (n:Int))),My (.sh (.lst ((rx i).map nL))),My (.sh (.int (i:Int)))],rfl,au (aG (d:= .lst ((rx (i+1)).map nL)) (β1:=β) ?_ (bf ⟨rfl,_,rfl⟩))⟩;have h:=bq (nv:=1) (bt:=[2]) (it:=dE (ag 1)) (tg:=gs 0) (f:=f2 eZ (ag 0) (aL dQ (aa (ag 1) (ax)))) (δ:=vw [My (.sh (.int (n:Int))),My (.sh (.lst ((rx i).map nL))),My (.sh (.int (i:Int)))]) (β:=β) (rx i) nL (λl=>nL (l++[i])) rfl (λl e=>⟨[My (nL l),My (.int (i:Int))],rfl,by
   have k:l.length<=i:=by have:=(iq i l e).length_le;rwa[Pi]at this
   refine dr rfl (aj rfl nq) ((qm ?_).trans ?_)
   .rw[OH,OH,Qs];lia
   .simp only[nL,nI,Pw,Pc,SI]⟩) (bn (by lia))
  refine dr rfl h ((qm ?_).trans ?_)
  .rw[OH,OH];lia
  .rw[rx,Pw,O0];rfl
 .rintro δ _ ⟨rfl,c,rfl⟩
  rw[show(aZ 0 n).length=n by unfold aZ;rw[OH,Pi]];exact au (aU rfl ⟨rfl,rfl⟩)
theorem Mx{r:Nat}{b:a0a}(h:b∈rx r):(∀i∈b,i<r)/\b.length<=r:=⟨λi c=>Pn.mp ((iq r b h).subset c),by have:=(iq r b h).length_le;rwa[Pi]at this⟩
theorem Mh{r c:Nat}{E w:a0e}{b:LP}(P:io r c b)(l:E.length=r)(m:w.length=c)(n:r<=6)(p:c<=6)(V:∀X Y,0<=Z7 E w b r c X Y):(ff K a).1 [iL E,iL w,dg b] β=My (.ok .non,β):=by
 unfold ff
 dsimp only
 refine aW (au (bB (ds:=(rx r).map nL) (β1:=β) (cK (ak (ae (aj rfl (dF (r:=r) (by rw[OH,l]))) rfl) (xZ n)) rfl) (λi G f=>β=f/\∃g h,G=[My (.sh (iL E)),My (.sh (iL w)),My (.sh (dg b)),g,h]) ⟨rfl,OI,OI,rfl⟩ ?_ ?_))
 .rintro i d G _ hd ⟨rfl,g,h,rfl⟩
  obtain⟨e,q,rfl⟩:=bL hd;have S:=Pd q;obtain⟨k,t⟩:=Mx S;refine⟨_,rfl,aG (d:=nL (tW w b r c e)) (β1:=β) (ak rfl (zF P m (by lia) (by lia) k (by lia))) ?_⟩;refine au (fm (ij (dr (ak rfl (zB (by rw[l];exact k) (by lia))) (ak rfl (yV P m (by lia) (by lia) k (by lia))) ?_)) (bx (bf ⟨rfl,_,_,rfl⟩)));have o:=V (λi=>decide (i∈e)) (λj=>decide (j∈tW w b r c e));have M:(tW w b r c e).Sublist (OX c):=YD;rw[<-KV (iq r e S) M]at o;show My (D.bl (decide _))=_;rw[PY (by lia)]
 .rintro G _ ⟨rfl,g,h,rfl⟩
  exact bf ⟨rfl,rfl⟩
theorem Jp{r c:Nat}{a:LI}{b:LP}(w:io r c a)(G:io r c b)(K:Kp a b)(X Y:Nat->Bool):0<=Z7 (a.map Rf) ((tp c a).map Rf) b r c X Y:=by
 refine Jw (g:=gp a) (λi f j h=>?_) (λi f=>(Nw w f).symm) (λj h=>(Nx w h).symm) X Y;obtain⟨D,k,m⟩:=w.at f;have E:=mC (l:=D) (i:=j) (d:=0) (by lia);obtain⟨e,l⟩:=G.getD f;have M:=mC (l:=b.getD i []) (i:=j) (d:=((0,0):Int×Int)) (by lia);rw[Ox k E];exact K i j _ _ (uZ k E) (uZ e M)
variable{rs cs:a0a}
theorem IV{g:G}{a:Ds}{o:o1}(h:Gw g a β (λc b=>c=o/\b=β)):g a β=My (o,β):=by
 obtain⟨c,b,e,rfl,rfl⟩:=h;exact e
theorem jM{t:a0r}{d b h:G}{a:Ds}{β1:Bg}{c:Bool}{Q:a0y}(e:t (hE a) β=My (.ok c,β1))(f:c=OQ)(k:Gw (aD b h) a β1 Q):Gw (aD (ri t d b) h) a β Q:=by
 subst f;exact fm e k
theorem NZ{p:Int×Int}(h:nw p):(iD K a).1 [pD p] β=My (.ok .non,β):=by
 obtain⟨b,c,e⟩:=h;unfold iD
 dsimp only
 refine aW ?_;exact HL (d:=pD p) (β1:=β) rfl rfl (au (jM (nR (ij (BQ rfl rfl rfl rfl))) (by simp;lia) (bx (bf ⟨rfl,rfl⟩))))
theorem Jy{r c:Nat}{b:LP}(g:si r c b)(n:r<=1000):(cR K a).1 [dg b,.int (r:Int),.int (c:Int)] β=My (.ok (dg b),β):=by
 unfold cR
 dsimp only
 refine aW ?_;refine fm (β1:=β) (ij (dr rfl rfl rfl)) (bx ?_);have o:cN 1 [2] (dE (ag 0)) (gs 0) (λ_=>M.ret OL) (j2 (f2 (gX) (aL fZ (aa (ag 0) (ax))) (ag 1))) [My (dg b),My (.int (r:Int)),My (.int (c:Int)),OI,OI] β=My (.ok (.lst (b.map λ_=>D.bl OQ)),β):=
  bq (nv:=1) (bt:=[2]) b (λw=>D.lst (w.map pD)) _ (by show My _=_;rw[O0];rfl) (λw h=>⟨_,rfl,dr (aj rfl (dF (r:=c) (by rw[OH];exact g.shp.2 w h))) rfl (ne_int.trans (by rw[Pf rfl];rfl))⟩) (bn (by rw[g.shp.1];exact n))
 refine jM (nQ (ij (dr (aj rfl (zQ (r:=r) (by rw[OH];exact g.shp.1))) rfl (ne_int.trans (by rw[Pf rfl];rfl)))) (lO (aj (ae o rfl) (any_map b λ_=>OQ)) rfl)) (by simp) (bx ?_);refine bB (ds:=(gP b).map D.lst) (β1:=β) rfl (λi E e=>β=e/\∃l f,E=[My (.sh (dg b)),My (.sh (.int (r:Int))),My (.sh (.int (c:Int))),l,f]) ⟨rfl,OI,OI,rfl⟩ ?_ ?_
 .rintro i d E _ hd ⟨rfl,l,f,rfl⟩
  obtain⟨y,G,rfl⟩:=bL hd;obtain⟨w,k,rfl⟩:=bL G;refine⟨_,rfl,au (bB (ds:=w.map pD) (β1:=β) rfl (λj E e=>β=e/\∃f,E=[My (.sh (dg b)),My (.sh (.int (r:Int))),My (.sh (.int (c:Int))),My (.sh (.lst (w.map pD))),f]) ⟨rfl,_,rfl⟩ ?_ ?_)⟩
  .rintro j d E _ hd ⟨rfl,f,rfl⟩
   obtain⟨p,m,rfl⟩:=bL hd;exact⟨_,rfl,au (nW (ak rfl (NZ (g.ok w (Pd k) p (Pd m)))) (bf ⟨rfl,_,rfl⟩))⟩
  .rintro E _ ⟨rfl,f,rfl⟩
   exact bf ⟨rfl,_,_,rfl⟩
 .rintro E _ ⟨rfl,l,f,rfl⟩
  exact au (aU (bq (nv:=1) (bt:=[]) (gP b) D.lst D.lst rfl (λx _=>⟨_,rfl,rfl⟩) (bn (by rw[OH,g.shp.1];exact n))) ⟨rfl,rfl⟩)
theorem zz(l:a0a){n:Nat}{δ:Dn}(b:l.length<=1000)(e:δ.getD n OI=My (nL l)):uF (aL x6 (aa (cN 1 [] (dE (ag n)) (gs 0) (λ_=>M.ret OL) (j2 (f2 (Z9) (ag 0) (fC (.int 0))))) (ax))) δ β=My (.ok OQ,β):=by
 have c:=bq (nv:=1) (bt:=[]) (it:=dE (ag n)) (tg:=gs 0) (f:=f2 (Z9) (ag 0) (fC (.int 0))) (δ:=δ) (β:=β) (nI l) D.int (λx=>D.bl (decide (x<0))) (cK (wy e) rfl) (λx _=>⟨_,rfl,rfl⟩) (bn (by rw[OH];exact b));refine lO (aj (ae c rfl) (any_map _ _)) (Qb My (Zj.mpr λx a=>?_));obtain⟨n,_,rfl⟩:=OR.mp a;simp
theorem pY(l:a0a):fZ [nL l]=My (.int (l.length:Int)):=dF (by rw[OH,OH])
theorem Kl(h:Nt0 rs cs):(iC K a).1 [nL rs,nL cs] β=My (.ok .non,β):=by
 obtain⟨b,c,d,e⟩:=h.nr;have w:=h.c1;have D:=h.c6;unfold iC
 dsimp only
 refine aW ?_;refine jM (nR (ij (vb rfl (aj rfl (pY rs)) rfl))) (by simp;lia) (bx ?_);refine jM (nR (ij (vb rfl (aj rfl (pY cs)) rfl))) (by simp;lia) (bx ?_);refine fm (nQ (zz rs (by lia) rfl) (zz cs (by lia) rfl)) (bx ?_);refine jM (ij (dr (aj rfl (kZ rs)) (aj rfl (kZ cs)) ne_int)) (by rw[h.sm];simp) (bx ?_);exact au (jM (ij (dr (aj rfl (kZ rs)) rfl gt_int)) (by simp;lia) (bx (bf ⟨rfl,rfl⟩)))
theorem Je(h:z4 rs):(iB K a).1 [nL rs] β=My (.ok .non,β):=by
 obtain⟨g,j,k,e⟩:=h;unfold iB
 dsimp only
 refine aW ?_;refine aG (d:= .int 1) (β1:=β) rfl ?_;refine bB (ds:=(nI rs).map D.int) (β1:=β) rfl (λi w b=>β=b/\∃c,w=[My (.sh (nL rs)),My (.sh (.int ((pr ((rs.take i).map (·+1)):Nat):Int))),c]) ⟨rfl,OI,rfl⟩ ?_ ?_
 .rintro i d w _ hd ⟨rfl,c,rfl⟩
  obtain⟨n,E,rfl⟩:=l8 hd;have f:=ik (Pd E);have l:=Pj (w5 rs i) e;refine⟨_,rfl,au (nX rfl (dr (z:= .int ((n+1:Nat):Int)) rfl rfl rfl) (pU (Z5 (by lia)) (Z5 (by lia))) (bf ⟨rfl,My (.sh (.int (n:Int))),?_⟩))⟩;rw[jA E];rfl
 .rintro w _ ⟨rfl,c,rfl⟩
  rw[k4,QE];exact au (jM (ij (dr rfl rfl gt_int)) (by simp;lia) (bx (bf ⟨rfl,rfl⟩)))
structure Ic (ac:LI) (B:a0f) (rs cs:a0a):Prop extends Nt0 rs cs where
 shp:io rs.length cs.length ac
 rw1:ac.map Rf=nI rs
 cl1:(tp cs.length ac).map Rf=nI cs
 bok:B3 rs.length cs.length B
 kp:Kp ac (ia B)
theorem je{r c:Nat}{B:a0f}(h:io r c B):io r c (ia B):=h.map
theorem B3.bnd{r c:Nat}{B:a0f}(h:B3 r c B):si r c (ia B):=⟨je h.1,λa e p f=>by
 obtain⟨b,g,rfl⟩:=OR.mp e;obtain⟨d,i,rfl⟩:=OR.mp f;have:=h.2 b g d i;exact⟨by show(0:Int)<=(d.1:Int);lia,by show(d.1:Int)<=(d.2:Int);lia,by show(d.2:Int)<=40;lia⟩⟩
theorem Ic.nt{ac:LI}{B:a0f}(h:Ic ac B rs cs):s9 K a rs cs (wB B cs) (kc B):=⟨h.toNt0,NE B cs,λ{β k r} b c e=>Kn c (by rw[e];exact h.bok) (by rw[<-h.sm];exact h.nr.2.2.1) b⟩
theorem Ic.fit{w:LI}{B:a0f}(h:Ic w B rs cs):(ff K a).1 [nL rs,nL cs,kc B] β=My (.ok .non,β):=by
 have b:=h.nr.2.1;have D:=h.c6;refine Mh (je h.bok.1) (OH _) (OH _) (by lia) ‹_› λX Y=>?_;rw[<-h.rw1,<-h.cl1];exact Jp h.shp (je h.bok.1) h.kp X Y
theorem Jz{w:LI}{B:a0f}(h:Ic w B rs cs):(cR K a).1 [kc B,.int (rs.length:Int),.int (cs.length:Int)] β=My (.ok (kc B),β):=Jy h.bok.bnd (by have:=h.nr.2.1;lia)
abbrev nFs(B:a0f)(rs cs:a0a):a0b:=[nL rs,nL cs,kc B,uS (wB B cs) rs cs.length]
abbrev tU(a:Ad)(B:a0f)(rs cs:a0a):D:= .obj a.Ae ["row_list","column_list","pairs","counted"] (nFs B rs cs)
theorem Oc{w:LI}{B:a0f}{d:D}(h:Ic w B rs cs)(E:∀{β:Bg},(cR K a).1 [d,.int (rs.length:Int),.int (cs.length:Int)] β=My (.ok (kc B),β)):oR K a [nL rs,nL cs,d] β=My (.ok (nFs B rs cs),β):=EC λx=>by
 have G:(dj K a).1 [nL rs,nL cs,d] β=My (.ok (kc B),β):=by
  unfold dj
  dsimp only
  refine aW ?_;exact nW (ak rfl (Kl h.toNt0)) (aG (ak (ae rfl (ae (aj rfl (pY rs)) (ae (aj rfl (pY cs)) rfl))) E) (nW (ak rfl (Je h.nr)) (au (aU rfl ⟨rfl,rfl⟩))))
 unfold ur;refine z9 (g:=f9 4 _) (δ1:=[My (.sh (.adr x)),My (.sh (nL rs)),My (.sh (nL cs)),My (.sh d),My (.sh (kc B))]) (β1:=β) (IV (au (aG (ak rfl G) (bf ⟨rfl,rfl⟩)))) rfl rfl ?_;refine z9 (δ1:=[My (.sh (.adr x)),My (.sh (nL rs)),My (.sh (nL cs)),My (.sh d),My (.sh (kc B))]) (β1:=β) (IV (au (nW (ak rfl h.fit) (bf ⟨rfl,rfl⟩)))) rfl rfl ?_;exact o5 (aj rfl rfl) (o5 (aj rfl rfl) (o5 rfl (o5 (ak rfl (xW h.nt)) rfl)))
theorem LH{ac:LI}{B:a0f}(h:Ic ac B rs cs):oR K a [nL rs,nL cs,kc B] β=My (.ok (nFs B rs cs),β):=Oc h (Jz h)
theorem eqI(i j:Int):Tt (.int i) (.int j)=decide (i=j):=by unfold Tt;exact Bool.beq_eq_decide_eq i j
theorem lw{D:Type} [DecidableEq D]{f:D->XX}(b:∀x y,Tt (f x) (f y)=decide (x=y)):∀a w:List D,Ue (a.map f) (w.map f)=decide (a=w)
 |[],[]=>by simp[Ue]
 |[],y::w=>by simp[Ue]
 |x::a,[]=>by simp[Ue]
 |x::a,y::w=>by
  rw[Pc,Pc,Ue,b,lw b a w];by_cases h:x=y<;>by_cases q:a=w<;>simp[h,q]
theorem mT{a:Type}{f:a->D}{g:a->XX}(h:∀x,ni (f x)=My (g x)):∀l:List a,toPs (l.map f)=My (l.map g)
 |[]=>by simp[toPs]
 |x::l=>by
  rw[Pc,toPs,h x,mT h l];rfl
theorem AQ{x y:D}{p q:XX}(d:Zx x y=OI)(a:ni x=My p)(w:ni y=My q)(b:mw x=OL)(c:mw y=OL):fK x y=My (.bl (Tt p q)):=by
 unfold fK kg;unfold mw at b c;rw[a]at b;rw[w]at c;simp only[d,a,w,b,c,Vl,Qq,Rt]
variable{W:Wy}{j:D}
abbrev R4:=Int×a0e×Int×Int
abbrev rL(p:R4):a0b:=[.int p.1,iv p.2.1,.int p.2.2.1,.int p.2.2.2]
abbrev rD(p:R4):D:= .tup (rL p)
abbrev y4(l:List R4):D:= .lst (l.map rD)
def ix(W:Wy)(rs:a0a)(m:Nat):a0U:=(OX (m+1)).flatMap λk=>(fh W rs k).map λr=>(k,r)
abbrev KX(W:Wy)(m:Nat)(p:Nat×a0a):R4:=((p.1:Int),nI p.2,((uy W (m-p.1) p.1 p.2:Nat):Int),((t0 W (m-p.1) p.1 p.2:Nat):Int))
theorem IJ(m:Nat):E_ W rs (m+1)=(ix W rs m).map λp=>((p.1:Int),nI p.2):=by
 unfold E_ ix;rw[Q4];simp only[O0];rfl
theorem N9(m:Nat):GX W rs m=(ix W rs m).map λp=>cv W m p.1 p.2:=by
 unfold ix;rw[Q4];simp only[O0];rfl
theorem zD{m:Nat}{p:Nat×a0a}:p∈ix W rs m↔p.1<=m/\p.2∈fh W rs p.1:=by
 constructor
 .intro h
  obtain⟨k,c,b⟩:=QO.mp h;obtain⟨r,d,rfl⟩:=OR.mp b;exact⟨by have:=Pn.mp c;show k<=m;lia,d⟩
 .rintro⟨e,b⟩
  exact QO.mpr ⟨p.1,Pn.mpr (Vz ‹_›),OR.mpr ⟨p.2,b,rfl⟩⟩
theorem ya{a:Type}{f:d_->D->D}{g:a->d_}{u:a->D}:∀l:List a,UN f (l.map g) (l.map u)=l.map λx=>f (g x) (u x)
 |[]=>rfl
 |x::l=>Qb (_::·) (ya l)
theorem KD{x y z v:D}:fE [x,y,z,v]=My (.tup [x,y,z,v]):=by
 unfold fE;rw[OZ (bn (by show 4<=1000;decide))]
theorem CM(j:(ix W rs cs.length).length<=1000):(iA K a).1 [uS W rs cs.length] β=My (.ok (((ix W rs cs.length).map (KX W cs.length)).map rD),β):=by
 unfold iA
 dsimp only
 rw[O0];refine EQ (bq (ix W rs cs.length) (λp=> .tup [.tup [.int (p.1:Int),tN p.2],cv W cs.length p.1 p.2]) _ ?_ (λp _=>⟨[My (.int (p.1:Int)),My (tN p.2),My (.int ((uy W (cs.length-p.1) p.1 p.2:Nat):Int)),My (.int ((t0 W (cs.length-p.1) p.1 p.2:Nat):Int))],rfl,aj rfl KD⟩) (bn j));show My (Ra (UN _ (E_ W rs (cs.length+1)) (GX W rs cs.length)),β)=_;rw[IJ,N9,ya];rfl
theorem JY{B:a0f}(j:(ix (wB B cs) rs cs.length).length<=1000):(jo K a).1 [tU a B rs cs] β=My (.ok (((ix (wB B cs) rs cs.length).map (KX (wB B cs) cs.length)).map rD),β):=by
 unfold jo
 dsimp only
 unfold AO;rw[M.bind_ok (ae (HG rfl rfl) rfl)];exact CM j
theorem J0{B:a0f}(j:(ix (wB B cs) rs cs.length).length<=1000){δ:Dn}{f:FD}(e:f δ β=My (.ok (tU a B rs cs),β)):rY a.Ae (fA K a).1 f δ β=My (.ok (.int (((ix (wB B cs) rs cs.length).length:Nat):Int)),β):=by
 have h:(fA K a).1 [tU a B rs cs] β=My (.ok (.int (((ix (wB B cs) rs cs.length).length:Nat):Int)),β):=by
  unfold fA
  dsimp only
  refine aW (au (aU (aj (ae (HG rfl rfl) rfl) ?_) ⟨rfl,rfl⟩));show My (D.int ((E_ (wB B cs) rs (cs.length+1)).length:Int))=_;rw[IJ,OH]
 unfold rY;rw[M.bind_ok e]
 dsimp only
 rw[OZ rfl,M.bind_ok h]
 dsimp only
 rw[OZ (by lia)];rfl
theorem N8{x y:D}{c:Bool}(h:fK x y=My (.bl c)):gX x y=My (.bl (!c)):=by
 unfold fK at h;unfold gX;cases e:Zx x y with
 |some d=>
  rw[e]at h;cases h;rfl
 |none=>
  rw[e]at h
  dsimp only at h⊢
  cases z:kg x y with
  |none=>rw[z]at h;cases h
  |some d=>
   rw[z]at h;cases h;rfl
theorem pl_r(p:R4):ZI 2 (rD p):=λx hx=>by
 rcases O6.mp hx with rfl|hx
 .trivial
 rcases O6.mp hx with rfl|hx
 .intro z b
  obtain⟨i,_,rfl⟩:=OR.mp b;trivial
 rcases O6.mp hx with rfl|hx
 .trivial
 cases Po.mp hx;trivial
theorem Mo(l m:List R4):fK (y4 l) (y4 m)=My (.bl (decide (l=m))):=by
 have t1:∀u:a0e,toPs (u.map D.int)=My (u.map .int):=λu=>mT (λx=>rfl) u;have t2:∀p:R4,ni (rD p)=My (.tuple [.int p.1,.tuple (p.2.1.map .int),.int p.2.2.1,.int p.2.2.2]):=λp=>by
  simp only[rD,rL,iv,ni,toPs,t1,Rt]
 have t3:∀l:List R4,ni (y4 l)=My (.list (l.map λp=> .tuple [.int p.1,.tuple (p.2.1.map .int),.int p.2.2.1,.int p.2.2.2])):=λl=>by
  unfold y4 ni;rw[mT t2];rfl
 have c:∀l:List R4,mw (y4 l)=OL:=λl=>ER 3 (λx a=>by
  obtain⟨p,_,rfl⟩:=OR.mp a;exact pl_r p) (by decide)
 rw[AQ rfl (t3 l) (t3 m) (c l) (c m),Tt,lw λp q=>?_];rw[Tt];simp only[Ue,eqI,Bool.and_true];rw[Tt,lw eqI];obtain⟨j,b1,w,E⟩:=p;obtain⟨G,b2,K,M⟩:=q;by_cases b:j=G<;>by_cases d:b1=b2<;>by_cases e:w=K<;>by_cases f:E=M<;>simp[b,d,e,f]
theorem OE{l:a0a}{c:Nat}(h:l.length<=100):eZ (nL l) (.lst [.int (c:Int)])=My (nL (l++[c])):=by
 refine(qm (by rw[OH,OH,Qs];lia)).trans ?_;show _=My (D.lst (Q2 D.int (Q2 _ (l++[c]))));rw[Pw,Pw];rfl
abbrev ZM(a:a0h)(x:D)(c:Nat)(f:D)(b d e g h:a0T):Ds:=[My (.sh x),My (.sh (.int (c:Int))),My (.sh (.lst (a.map pN))),My (.sh f),b,d,e,g,h]
theorem NU{j:Nat}{n i:Nat}{d:D}(h:((OX n).map λi=>D.int ((j+i:Nat):Int))[i]?=My d):i<n/\d= .int ((j+i:Nat):Int):=by
 obtain⟨x,a,rfl⟩:=bL h;have b:=(OT.mp a).1;rw[Pi]at b;rw[P9 b]at a;cases a;exact⟨b,rfl⟩
theorem ie{a:Type}{l:List a}{i:Nat}{x:a}(h:l[i]?=My x):l.take (i+1)=l.take i++[x]:=by rw[Vg,h];rfl
theorem vT{w:a0h}{x:D}{r:a0a}{c:Nat}(G:c9 x=My ((nI r).map D.int))(J:z4 r)(A:w.length=r.length)(L:∀p∈w,p.1<=40/\p.2<=40):(lY K a).1 [x,.int (c:Int),.lst (w.map pN)] β=My (.ok (.lst ((vB w r c).map nL)),β):=by
 obtain⟨_,T,M,N⟩:=J;have n:∀k,k<=r.length->(lg w r k).length<=500:=λk B=>Pj (v8 k B) (Pj (w5 r k) N);unfold lY
 dsimp only
 refine aW ?_;refine aG (d:= .lst ((lg w r 0).map nL)) (β1:=β) (aj (ae (aj rfl LO) rfl) nq) ?_;refine bB (ds:=(r.zip w).map λq=> .tup [.int (q.1:Int),pN q.2]) (β1:=β) ?_ (λk δ g=>β=g/\∃C F o m b,δ=ZM w x c (.lst ((lg w r k).map nL)) C F o m b) ⟨rfl,OI,OI,OI,OI,OI,rfl⟩ ?_ ?_
 .rw[<-ir (λx:Nat=>D.int (x:Int)) pN]
  exact kx (x:=x) (y:= .lst (w.map pN)) rfl rfl (G.trans (by rw[O0];rfl)) rfl
 .rintro k d δ _ hd ⟨rfl,C,F,o,m,b,rfl⟩
  obtain⟨q,I,rfl⟩:=bL hd;have B:k<r.length:=by
   have:=(OT.mp I).1;rw[Tw]at this;lia
  have t:k<w.length:=by lia
  obtain rfl:q=(r[k],w[k]):=by
   have:=(OT.mp I).2;rw[List.getElem_zip]at this;exact this.symm
  have b40:=L _ (Qr t);have O:=ik (Qr B);refine⟨ZM w x c (.lst ((lg w r k).map nL)) (My (.sh (.int (r[k]:Int)))) (My (.sh (pN w[k]))) o m b,rfl,?_⟩;refine nU (ds:=[]) (β1:=β) rfl (Ql _) ?_;have E:∀u:a0a,((OX (SC w[k].2 r[k]+1-w[k].1)).map λi=>u++[w[k].1+i]).length<=41:=λu=>by rw[OH,Pi];lia
  refine bB (ds:=(lg w r k).map nL) (β1:=β) rfl (λi δ g=>β=g/\∃m b,δ=ZM w x c (.lst ((lg w r k).map nL)) (My (.sh (.int (r[k]:Int)))) (My (.sh (pN w[k]))) (My (.own ((((lg w r k).take i).flatMap λu=>(OX (SC w[k].2 r[k]+1-w[k].1)).map λj=>u++[w[k].1+j]).map nL))) m b) ⟨rfl,m,b,rfl⟩ ?_ ?_
  .rintro i d δ _ hd ⟨rfl,m,b,rfl⟩
   obtain⟨u,H,rfl⟩:=bL hd;have U:=AG k u (Pd H);have X:=(OT.mp H).1;have Y:=n k (Qo ‹_›);have Z:(((lg w r k).take i).flatMap λu=>(OX (SC w[k].2 r[k]+1-w[k].1)).map λj=>u++[w[k].1+j]).length<=500*41:=Pj (dY λu _=>E u) (Uz _ (by rw[PR];lia));refine⟨_,rfl,au (bB (ds:=(OX (SC w[k].2 r[k]+1-w[k].1)).map λj=>D.int ((w[k].1+j:Nat):Int)) (β1:=β) (bE (as:=[.int (w[k].1:Int),.int ((SC w[k].2 r[k]:Nat)+1)]) (ae (dr rfl rfl DX) (ae (dr (x:= .int ((SC w[k].2 r[k]:Nat):Int)) (aj (ae (dr rfl rfl DW) (ae rfl rfl)) (xk.trans ?_)) rfl rfl) rfl)) ((K9 (by lia) (by lia) (by lia)).trans ?_)) (λj δ g=>β=g/\∃b,δ=ZM w x c (.lst ((lg w r k).map nL)) (My (.sh (.int (r[k]:Int)))) (My (.sh (pN w[k]))) (My (.own ((((lg w r k).take i).flatMap λu=>(OX (SC w[k].2 r[k]+1-w[k].1)).map λj=>u++[w[k].1+j]).map nL++((OX (SC w[k].2 r[k]+1-w[k].1)).take j).map λj=>nL (u++[w[k].1+j])))) (My (.sh (nL u))) b) ⟨rfl,b,by rw[TZ,SI,PN];rfl⟩ ?_ ?_)⟩
   .rw[show SC (w[k].2:Int) (r[k]:Int)=((SC w[k].2 r[k]:Nat):Int) by omega]
   .rw[show((SC w[k].2 r[k]:Nat)+1-(w[k].1:Int):Int).toNat=SC w[k].2 r[k]+1-w[k].1 by lia]
   .rintro j d δ _ hd ⟨rfl,b,rfl⟩
    obtain⟨Q,rfl⟩:=NU hd;have e:(OX (SC w[k].2 r[k]+1-w[k].1))[j]?=My j:=P9 Q;refine⟨_,rfl,au (lP (d:=nL (u++[w[k].1+j])) rfl (ae (dr rfl (aj rfl nq) (OE (by lia))) rfl) (Pm (show _<50000 by rw[O1,OH,OH,PR,Pi];lia) (by decide)) (bf ⟨rfl,My (.sh (.int ((w[k].1+j:Nat):Int))),?_⟩))⟩;rw[ie e,Pw];show[_,_,_,_,_,_,My (Sl.own (_++_++[_])),_,_]=[_,_,_,_,_,_,My (Sl.own (_++(_++[_]))),_,_];rw[O3]
   .rintro δ _ ⟨rfl,b,rfl⟩
    rw[OH,Pi];refine bf ⟨rfl,My (.sh (nL u)),b,?_⟩;rw[ie H,Ss,Pw,QI,Wu,PN,O0,QJ (l:=OX (SC w[k].2 r[k]+1-w[k].1)) (by rw[Pi];exact OW _)];rfl
  .rintro δ _ ⟨rfl,m,b,rfl⟩
   rw[OH,QE];refine HJ (au (aG (d:= .lst ((lg w r (k+1)).map nL)) (β1:=β) ?_ (bf ⟨rfl,_,_,_,_,_,rfl⟩)));have R:lg w r (k+1)=(lg w r k).flatMap λu=>(OX (SC w[k].2 r[k]+1-w[k].1)).map λi=>u++[w[k].1+i]:=by
    show XN _ _=_;rw[f8 B,f8 t]
   rw[R];rfl
 .rintro δ _ ⟨rfl,C,F,o,m,b,rfl⟩
  rw[OH,Tw,A,Nat.min_self,v9 A];have h:=j9 (nv:=1) (bt:=[1]) (it:=dE (ag 3)) (tg:=gs 0) (tt:=fB (f2 (fK) (aL gy (aa (ag 0) (ax))) (ag 1))) (f:=ag 0) (δ:=hE (ZM w x c (.lst ((y_ w r).map nL)) C F o m b)) (β:=β) (y_ w r) nL nL (λv=>decide (v.sum=c)) rfl (λv _=>⟨[My (nL v),My (.int (c:Int))],rfl,ij (dr (aj rfl (kZ v)) rfl (eq_int.trans (by rw[decide_eq_decide.mpr (show((v.sum:Nat):Int)=(c:Int)↔v.sum=c by lia)]))),λ_=>rfl⟩) (bn (by rw[<-v9 A];have:=n r.length (OW _);lia));refine au (aU h ⟨rfl,?_⟩);rw[BE A]
theorem tZ{x:D}{r v:a0a}(j:c9 x=My ((nI r).map D.int))(h:ky v r)(b:r.length<=4):(jS K a).1 [x,nL v] β=My (.ok (nL (less r v)),β):=by
 unfold jS
 dsimp only
 refine aW (au (aU ?_ ⟨rfl,rfl⟩));unfold nL;rw[<-ue h];refine bq (r.zip v) (λp=>D.tup [.int (p.1:Int),.int (p.2:Int)]) _ ?_ (λp _=>⟨[My (.int (p.1:Int)),My (.int (p.2:Int))],rfl,rfl⟩) (bn (by rw[Tw];lia));rw[<-ir (λx:Nat=>D.int (x:Int)) (λx:Nat=>D.int (x:Int))];refine kx (x:=x) (y:=nL v) rfl rfl (j.trans (by rw[O0];rfl)) ?_
 .show My _=My _
  rw[O0];rfl
theorem wo{r c k n i:Nat}{B:a0f}(hB:B3 r c B)(g:r<=4)(j:k<c){δ:Dn}(d:δ.getD i OI=My (kc B))(e:jm 1 [n] δ=[OI,My (.int (k:Int))]):cN 1 [n] (dE (ag i)) (gs 0) (λ_=>M.ret OL) (j2 (f2 hY (ag 0) (ag 1))) δ β=My (.ok (.lst ((nG B k).map pN)),β):=by
 have h:=bq (nv:=1) (bt:=[n]) (it:=dE (ag i)) (tg:=gs 0) (f:=f2 hY (ag 0) (ag 1)) (δ:=δ) (β:=β) B (λa=>D.lst (a.map pN)) (λa=>pN (a.getD k (0,0))) (cK (wy d) (by
  show My _=My _;rw[O0,O0];exact Qb My (PU λa _=>Qb D.lst (by show Q2 pD (Q2 _ a)=_;rw[O0];rfl)))) (λa b=>⟨[My (D.lst (a.map pN)),My (.int (k:Int))],by rw[e];rfl,dr rfl rfl (cA (by
   have l:=hB.1.2 a b;rw[OS,f8 (by lia),ON (by lia)];rfl))⟩) (bn (by rw[hB.1.1];lia))
 refine h.trans ?_;unfold nG;rw[O0];rfl
theorem yt(l:a0a):sF [nL l]=My (tN l):=rfl
theorem HK{i:Nat}{b:Bool}{h:G}{a:Ds}{Q:a0y}(k:Gw h (a.set i (My (.odc b [] []))) β Q):Gw (aD (Mg i b) h) a β Q:=dh rfl k
theorem yi{i:Nat}{e f:FD}{h:G}{a:Ds}{Q:a0y}{d kd:D}{b:Bool}{c:a0G}{w:a0b}{k:d_}{β1 β2:Bg}(g:f (hE a) β=My (.ok d,β1))(j:e (hE a) β1=My (.ok kd,β2))(l:a.getD i OI=My (.odc b c w))(m:jp b kd=My k)(E:noL d=OL)(n:c.length<Pk)(o:Gw h (a.set i (My (.odc b (x_ c k) (W_ c w k d)))) β2 Q):Gw (aD (pb i e f) h) a β Q:=
 dh (by unfold pb;simp only[g,j,l,m,E,Pf n,Vl,Qq]) o
def Sn(W:Wy)(rs:a0a)(k:Nat)(P:a0X)(b:a0G):Prop:=b.Nodup/\(∀y∈b,∃u∈fh W rs (k+1),y=(0,nI u))/\∀r v,P r v->(0,nI (less r v))∈b
theorem Sn.mono{k:Nat}{P b:a0X}{c:a0G}(h:Sn W rs k P c)(q:∀r v,b r v->P r v):Sn W rs k b c:=⟨h.1,h.2.1,λr v z=>h.2.2 r v (q r v z)⟩
theorem Sn.add{k:Nat}{P f:a0X}{d:a0G}{r v:a0a}(h:Sn W rs k P d)(i:r∈fh W rs k)(j:v∈W k r)(q:∀b c,f b c->P b c\/(b=r/\c=v)):Sn W rs k f (x_ d (0,nI (less r v))):=by
 obtain⟨g,l,m⟩:=h;have D:∀y,y∈x_ d (0,nI (less r v))↔y∈d\/y=(0,nI (less r v)):=λy=>by
  unfold x_;split
  .rename_i z
   exact⟨.inl,λw=>w.elim id λe=>e▸z⟩
  .simp
 refine⟨?_,λy a=>?_,λb c z=>(D _).mpr ?_⟩
 .unfold x_
  split
  .exact g
  .rename_i z
   exact Si.mpr ⟨g,Qz _ _,λx E y a e=>z (by rw[<-Po.mp a,<-e];exact E)⟩
 .rcases(D y).mp a with z|z
  .exact l y z
  .exact⟨less r v,gm.mpr ⟨r,i,v,j,rfl⟩,z⟩
 .rcases q b c z with z|⟨rfl,rfl⟩
  .exact .inl (m _ _ z)
  .exact .inr rfl
theorem Sn.len{k:Nat}{P:a0X}{b:a0G}(h:Sn W rs k P b)(c:s9 K a rs cs W j)(e:k<cs.length):b.length<=62:=by
 have:=L2.Pu.nd_len h.1 (m:=(fh W rs (k+1)).map λu=>((0:Int),nI u)) λy w=>by
  obtain⟨u,d,rfl⟩:=h.2.1 y w;exact OR.mpr ⟨u,d,rfl⟩
 rw[OH]at this;exact Pj this (gG c (by lia))
theorem Sn.srt{k:Nat}{P:a0X}{c:a0G}{w:a0b}(h:Sn W rs k P c)(b:s9 K a rs cs W j)(g:k<cs.length)(q:∀r∈fh W rs k,∀v∈W k r,P r v):sO [.dct OQ c w]=My (i4 W rs (k+1)):=by
 have:=h.len b g;show(if c.length<64 then fS (c.map λk=>iv k.2)else OI)=_;rw[OZ (by lia)];refine yG (vP b.ok b.sm b.nr.1 b.wd g) λd=>⟨λz=>?_,λz=>?_⟩
 .obtain⟨y,hy,rfl⟩:=OR.mp z
  obtain⟨r,e,v,f,rfl⟩:=gn.mp hy;exact OR.mpr ⟨_,h.2.2 r v (q r e v f),rfl⟩
 .obtain⟨y,hy,rfl⟩:=OR.mp z
  obtain⟨u,i,rfl⟩:=h.2.1 y hy;obtain⟨r,e,v,f,rfl⟩:=gm.mp i;exact OR.mpr ⟨_,gn.mpr ⟨r,e,v,f,rfl⟩,rfl⟩
abbrev ndS(rs cs:a0a)(B:a0f)(l:a0b)(b c d e f:a0T):Ds:=[My (.sh (nL rs)),My (.sh (nL cs)),My (.sh (kc B)),My (.own l),b,c,d,e,f]
theorem zJ{B:a0f}(h:s9 K a rs cs (wB B cs) (kc B))(hB:B3 rs.length cs.length B):(kS K a).1 [nL rs,nL cs,kc B] β=My (.ok (.lst ((OX (cs.length+1)).map (i4 (wB B cs) rs))),β):=by
 have W:=h.c6;have H:=h.nr.2.1;unfold kS
 dsimp only
 refine aW ?_;refine nU (ds:=[i4 (wB B cs) rs 0]) (β1:=β) (ae (aj (ae (aj rfl rfl) rfl) nq) rfl) (show 1<=Pk by decide) ?_;refine bB (ds:=cP 0 ((nI cs).map D.int)) (β1:=β) (bE rfl rfl) (λk w f=>β=f/\∃q t u g b,w=ndS rs cs B ((OX (k+1)).map (i4 (wB B cs) rs)) q t u g b) ⟨rfl,OI,OI,OI,OI,OI,rfl⟩ ?_ ?_
 .rintro k d w _ hd ⟨rfl,q,t,u,g,b,rfl⟩
  obtain⟨x,P,rfl⟩:=qe hd;obtain⟨n,G,rfl⟩:=l8 P;have m:=(OT.mp G).1;have I:cs.getD k 0=n:=by rw[O5,G];rfl
  obtain⟨S,J⟩:=hB.col m;refine⟨_,rfl,HK ?_⟩;refine bB (ds:=(fh (wB B cs) rs k).map tN) (β1:=β) ?_ (λi w f=>β=f/\∃e E g b,w=ndS rs cs B ((OX (k+1)).map (i4 (wB B cs) rs)) (My (.sh (.int (k:Int)))) (My (.sh (.int (n:Int)))) (My (.odc OQ e E)) g b/\Sn (wB B cs) rs k (λr v=>r∈(fh (wB B cs) rs k).take i/\v∈wB B cs k r) e) ⟨rfl,[],[],g,b,rfl,List.nodup_nil,(λy V=>by cases V),λr v z=>by simp at z⟩ ?_ ?_
  .show M.ofO ((hY (.lst ((OX (k+1)).map (i4 (wB B cs) rs))) (.int (k:Int))).bind c9) β=_
   rw[cA (d:=i4 (wB B cs) rs k) (by rw[OS,P9 (Um _)];rfl)];rfl
  .rintro i d w _ hd ⟨rfl,e,E,g,b,rfl,sn⟩
   obtain⟨r,A,rfl⟩:=bL hd;have o:=Pd A;obtain⟨C,L,N⟩:=h.at (Qo ‹_›) o;refine⟨_,rfl,au (bB (ds:=(wB B cs k r).map nL) (β1:=β) (cK (ak (ae rfl (ae rfl (ae (wo hB H m rfl rfl) rfl))) (vT (c:=n) rfl C (by rw[S,L]) J)) (by unfold wB;rw[I];rfl)) (λj w f=>β=f/\∃e E b,w=ndS rs cs B ((OX (k+1)).map (i4 (wB B cs) rs)) (My (.sh (.int (k:Int)))) (My (.sh (.int (n:Int)))) (My (.odc OQ e E)) (My (.sh (tN r))) b/\Sn (wB B cs) rs k (λl v=>(l∈(fh (wB B cs) rs k).take i/\v∈wB B cs k l)\/(l=r/\v∈(wB B cs k r).take j)) e) ⟨rfl,e,E,b,rfl,sn.mono λr v z=>z.elim id λz=>by simp at z⟩ ?_ ?_)⟩
   .rintro j d w _ hd ⟨rfl,e,E,b,rfl,sn⟩
    obtain⟨v,F,rfl⟩:=bL hd;have p:=Pd F;have O:=sn.len h m;refine⟨_,rfl,au (yi (d:= .bl OL) (kd:=dK OQ (0,nI (less r v))) (β1:=β) (β2:=β) rfl (aj (ae (ak rfl (tZ rfl (dT ((h.ok k r).subset p)) C.2.1)) rfl) (yt _)) rfl (jF λ_=>rfl) rfl (Pm (show _<100 by lia) (by decide)) (bf ⟨rfl,_,_,_,rfl,sn.add o p λl Q z=>?_⟩))⟩;rcases z with z|⟨z1,z2⟩
    .exact .inl (.inl z)
    .rw[ie F]at z2
     rcases PD.mp z2 with z2|z2
     .exact .inl (.inr ⟨z1,z2⟩)
     .exact .inr ⟨z1,Po.mp z2⟩
   .rintro w _ ⟨rfl,e,E,b,rfl,sn⟩
    rw[OH,QE]at sn;refine bf ⟨rfl,e,E,_,_,rfl,sn.mono λl v z=>?_⟩;obtain⟨z1,z2⟩:=z;rw[ie A]at z1;rcases PD.mp z1 with z1|z1
    .exact .inl ⟨z1,z2⟩
    .cases Po.mp z1
     exact .inr ⟨rfl,z2⟩
  .rintro w _ ⟨rfl,e,E,g,b,rfl,sn⟩
   rw[OH,QE]at sn;refine HJ (au (lP (cs:=(OX (k+1)).map (i4 (wB B cs) rs)) (d:=i4 (wB B cs) rs (k+1)) rfl (ae (aj rfl (sn.srt h m λr o v p=>⟨o,p⟩)) rfl) (Pm (show _<1000 by rw[OH,Pi];lia) (by decide)) (bf ⟨rfl,My (.sh (.int (k:Int))),My (.sh (.int (n:Int))),My (.sh (.dct OQ e E)),g,b,?_⟩)));rw[RP (n:=k+1),Pw];rfl
 .rintro w _ ⟨rfl,q,t,u,g,b,rfl⟩
  rw[lz,OH,OH];exact au (aU rfl ⟨rfl,rfl⟩)
end
section
variable{K:Pl}{a:Ad}{β:Bg}{rs cs:a0a}{W:Wy}{s:D}
open L2.Hs (Up bR kl)
abbrev kP(p:Nat×a0a):d_:=((p.1:Int),nI p.2)
theorem zZ{p q:Nat×a0a}(h:kP p=kP q):p=q:=R6 (by have:=(T0.mp h).1;simp only at this;lia) (k6 (T0.mp h).2)
theorem uc{f:Nat×a0a->D}{p:Nat×a0a}:∀{N:a0U},p∈N->D_ (N.map kP) (N.map f) (kP p)=My (f p)
 |q::N,h=>by
  unfold D_;rw[Pc,Pc,Rj,SQ];by_cases z:q=p
  .rw[z,Pf rfl];rfl
  .rw[PY λe=>z (zZ e)]
   exact uc ((O6.mp h).resolve_left λe=>z e.symm)
def l_(W:Wy)(rs:a0a)(m t:Nat):a0U:=(OX t).flatMap λi=>(fh W rs (m-i)).map λr=>(m-i,r)
theorem qf{m t:Nat}{p:Nat×a0a}(f:t<=m+1):p∈l_ W rs m t↔(p.1<=m/\m<p.1+t)/\p.2∈fh W rs p.1:=by
 constructor
 .intro h
  obtain⟨i,c,b⟩:=QO.mp h;obtain⟨r,d,rfl⟩:=OR.mp b;have:=Pn.mp c;exact⟨⟨by show m-i<=m;exact Nat.sub_le _ _,by show m<m-i+t;lia⟩,d⟩
 .rintro⟨⟨g,b⟩,e⟩
  refine QO.mpr ⟨m-p.1,Pn.mpr (by lia),OR.mpr ⟨p.2,?_,?_⟩⟩
  .rw[show m-(m-p.1)=p.1 by lia];exact e
  .rw[show m-(m-p.1)=p.1 by lia]
theorem uH(m t:Nat):l_ W rs m (t+1)=l_ W rs m t++(fh W rs (m-t)).map λr=>(m-t,r):=by
 unfold l_;rw[RP,Ss,QI,Wu,PN]
abbrev v3(W:Wy)(m:Nat)(p:Nat×a0a):D:=cv W m p.1 p.2
abbrev L3(W:Wy)(rs cs:a0a)(s:D)(N:a0U)(c d e f g b:a0T):Ds:=[My (.sh (nL rs)),My (.sh (nL cs)),My (.sh s),My (.sh (.lst ((OX (cs.length+1)).map (i4 W rs)))),My (.odc OL (N.map kP) (N.map (v3 W cs.length))),c,d,e,f,g,b]
theorem y9{W:Wy}{s:D}{N:a0U}{c f g i j b:a0T}{l m:FD}{h:G}{Q:a0y}{p:Nat×a0a}(o:p∉N)(r:N.length<=1000)(t:l (hE (L3 W rs cs s N c f g i j b)) β=My (.ok (.tup [.int (p.1:Int),tN p.2]),β))(u:m (hE (L3 W rs cs s N c f g i j b)) β=My (.ok (v3 W cs.length p),β))
  (k:Gw h (L3 W rs cs s (N++[p]) c f g i j b) β Q):Gw (aD (pb 4 l m) h) (L3 W rs cs s N c f g i j b) β Q:=by
 have n:kP p∉N.map kP:=λz=>by
  obtain⟨q,v,e⟩:=OR.mp z;exact o (zZ e▸v)
 refine yi (d:=v3 W cs.length p) (kd:=dK OL (kP p)) (β1:=β) (β2:=β) u t rfl (jF λe=>(by cases e)) rfl (P5 (show _<=1000 by rw[OH];exact r) (by decide)) ?_;unfold x_ W_;rw[OY n,OY n];have y:N.map kP++[kP p]=(N++[p]).map kP:=by rw[Pw];rfl
 have A:N.map (v3 W cs.length)++[v3 W cs.length p]=(N++[p]).map (v3 W cs.length):=by rw[Pw];rfl
 rw[y,A];exact k
theorem wu{m t i:Nat}{r:a0a}(h:t<=m)(b:(fh W rs (m-t))[i]?=My r):(m-t,r)∉l_ W rs m t++((fh W rs (m-t)).take i).map λr=>(m-t,r):=λz=>by
 rcases PD.mp z with z|z
 .have:=((qf (by lia)).mp z).1.2
  simp only at this;lia
 .obtain⟨q,c,e⟩:=OR.mp z
  cases(T0.mp e).2;obtain⟨j,k,d⟩:=Xh.mp c;obtain⟨f,g⟩:=OT.mp b;have:=(List.getElem_inj (h₀:=by lia) (h₁:=f) (oS (W:=W) (rs:=rs) (m-t))).mp (d.trans g.symm);lia
theorem Od(k:Nat):Up ((fh W rs k).map nI):=by
 cases k with
 |zero=>exact Qz _ _
 |succ k=>rw[show fh W rs (k+1)=O2 W (fh W rs k) k from rfl,rF];exact jr _
theorem Oa(m:Nat):Up ((ix W rs m).map λp=>kl OL (kP p)):=by
 unfold ix;rw[Q4];refine List.pairwise_flatMap.mpr ⟨λk _=>?_,?_⟩
 .rw[O0]
  refine QY.mpr ((QY.mp (Od k)).imp λ{x y} h=>?_);show bR ((k:Int)::nI x) ((k:Int)::nI y)=OL;unfold bR;rw[OZ rfl];exact h
 .refine List.pairwise_lt_range.imp λ{i j} b x a y s=>?_
  obtain⟨_,c,rfl⟩:=OR.mp a;obtain⟨u,_,rfl⟩:=OR.mp c;obtain⟨_,d,rfl⟩:=OR.mp s;obtain⟨v,_,rfl⟩:=OR.mp d;show bR ((i:Int)::nI u) ((j:Int)::nI v)=OL;unfold bR;rw[OY (by lia)];exact Pf (by lia)
theorem J6{B:a0f}(h:s9 K a rs cs (wB B cs) (kc B))(hB:B3 rs.length cs.length B)(P:(l_ (wB B cs) rs cs.length (cs.length+1)).length<=1000):(jk K a).1 [nL rs,nL cs,kc B] β=My (.ok (y4 ((ix (wB B cs) rs cs.length).map (KX (wB B cs) cs.length))),β):=by
 have c6:=h.c6;have S:=h.nr.2.1;have Y:∀t,t<=cs.length->∀i,(l_ (wB B cs) rs cs.length t++((fh (wB B cs) rs (cs.length-t)).take i).map λr=>(cs.length-t,r)).length<=1000:=λt Z i=>by
  have l1:(l_ (wB B cs) rs cs.length t).length<=62*t:=by
   unfold l_;refine Pj (dY (n:=62) λk o=>?_) (by rw[Pi,R1];exact OW _);rw[OH];exact gG h (Nat.sub_le _ _)
  have l2:=gG h (k:=cs.length-t) (Nat.sub_le _ _);rw[O1,OH,PR];lia
 unfold jk
 dsimp only
 refine aW ?_;refine aG (ak rfl (zJ h hB)) (HK ?_);have J:∀k,k<=cs.length->hY (.lst ((OX (cs.length+1)).map (i4 (wB B cs) rs))) (.int (k:Int))=My (i4 (wB B cs) rs k):=λk o=>cA (by rw[OS,P9 (Vz ‹_›)];rfl);have L:hY (.lst ((OX (cs.length+1)).map (i4 (wB B cs) rs))) (.int (-1))=My (i4 (wB B cs) rs cs.length):=by
  show nj _ _=_;unfold nj o0;rw[OH,Pi,OY (by decide),OZ (by lia),show((-1:Int)+((cs.length+1:Nat):Int)).toNat=cs.length by lia,RZ,OS,P9 (Um _)];rfl
 refine bB (ds:=(fh (wB B cs) rs (cs.length-0)).map tN) (β1:=β) (cK (dr rfl rfl L) rfl) (λi s c=>β=c/\∃g,s=L3 (wB B cs) rs cs (kc B) (l_ (wB B cs) rs cs.length 0++((fh (wB B cs) rs (cs.length-0)).take i).map λr=>(cs.length-0,r)) g OI OI OI OI OI) ⟨rfl,OI,rfl⟩ ?_ ?_
 .rintro i d s _ hd ⟨rfl,g,rfl⟩
  obtain⟨r,A,rfl⟩:=bL hd;refine⟨_,rfl,au (y9 (p:=(cs.length-0,r)) (wu (Ql _) A) (Y 0 (Ql _) i) (aj (ae (aj rfl (pY cs)) (ae rfl rfl)) gh) (aj rfl (gh.trans ?_)) (bf ⟨rfl,My (.sh (tN r)),?_⟩))⟩
  .show My (D.tup [.int 1,.int 1])=My (cv (wB B cs) cs.length cs.length r)
   unfold cv;rw[Ti];rfl
  .rw[ie A,Pw,O3];rfl
 rintro s _ ⟨rfl,g,rfl⟩;rw[OH,QE,<-uH];refine bB (ds:=di cs.length) (β1:=β) (bE (as:=[.int ((cs.length:Int)-1),.int (-1),.int (-1)]) (ae (dr (aj rfl (pY cs)) rfl rfl) rfl) ?_) (λt s c=>β=c/\∃g O q u l b,s=L3 (wB B cs) rs cs (kc B) (l_ (wB B cs) rs cs.length (t+1)) g O q u l b) ⟨rfl,g,OI,OI,OI,OI,OI,rfl⟩ ?_ ?_
 .show(if(decide (-1<=(cs.length:Int)-1)&&decide ((cs.length:Int)-1<2^62))=OL then My (di ((cs.length:Int)-1+1).toNat)else OI)=_
  rw[OZ (by simp;lia),show((cs.length:Int)-1+1).toNat=cs.length by lia]
 .rintro t d s _ hd ⟨rfl,g,O,q,u,l,b,rfl⟩
  have Z:t<cs.length:=by
   have:=(OT.mp hd).1;simpa[di]using this
  obtain rfl:d= .int ((cs.length-(t+1):Nat):Int):=by
   unfold di at hd;rw[OS,P9 Z]at hd;cases hd;exact Qb D.int (by omega)
  have o:cs.length-(t+1)<cs.length:=by omega
  obtain⟨V,W⟩:=hB.col o;refine⟨_,rfl,au (bB (ds:=(fh (wB B cs) rs (cs.length-(t+1))).map tN) (β1:=β) (cK (dr rfl rfl (J _ (Qo ‹_›))) rfl) (λi s c=>β=c/\∃g q u l b,s=L3 (wB B cs) rs cs (kc B) (l_ (wB B cs) rs cs.length (t+1)++((fh (wB B cs) rs (cs.length-(t+1))).take i).map λr=>(cs.length-(t+1),r)) g (My (.sh (.int ((cs.length-(t+1):Nat):Int)))) q u l b) ⟨rfl,g,q,u,l,b,by rw[TZ,SI,PN];rfl⟩ ?_ ?_)⟩
  .rintro i d s _ hd ⟨rfl,g,q,u,l,b,rfl⟩
   obtain⟨r,A,rfl⟩:=bL hd;have Q:=Pd A;have E:=wu (m:=cs.length) (t:=t+1) (by lia) A;have G:=Y (t+1) (by lia) i;have C:∀v∈wB B cs (cs.length-(t+1)) r,(cs.length-(t+1)+1,less r v)∈l_ (wB B cs) rs cs.length (t+1)++((fh (wB B cs) rs (cs.length-(t+1))).take i).map λr=>(cs.length-(t+1),r):=λv F=>PD.mpr (.inl ((qf (by lia)).mpr ⟨⟨by show _+1<=_;lia,by show _<_+1+(t+1);lia⟩,gm.mpr ⟨r,Q,v,F,rfl⟩⟩));have e9:l_ (wB B cs) rs cs.length (t+1)++((fh (wB B cs) rs (cs.length-(t+1))).take (i+1)).map (λr=>(cs.length-(t+1),r))=(l_ (wB B cs) rs cs.length (t+1)++((fh (wB B cs) rs (cs.length-(t+1))).take i).map (λr=>(cs.length-(t+1),r)))++[(cs.length-(t+1),r)]:=by
    rw[ie A,Pw,O3];rfl
   rw[e9];generalize l_ (wB B cs) rs cs.length (t+1)++((fh (wB B cs) rs (cs.length-(t+1))).take i).map (λr=>(cs.length-(t+1),r))=N at E G C;obtain⟨R,n2,n3⟩:=h.at (Qo o) Q;have et:uy (wB B cs) (cs.length-(cs.length-(t+1))) (cs.length-(t+1)) r=L2.Nt.sm (wB B cs (cs.length-(t+1)) r) λv=>uy (wB B cs) (cs.length-(cs.length-(t+1)+1)) (cs.length-(t+1)+1) (less r v):=by rw[show cs.length-(cs.length-(t+1))=cs.length-(cs.length-(t+1)+1)+1 by lia];rfl
   have ed:t0 (wB B cs) (cs.length-(cs.length-(t+1))) (cs.length-(t+1)) r=L2.Nt.sm (wB B cs (cs.length-(t+1)) r) λv=>mu v*t0 (wB B cs) (cs.length-(cs.length-(t+1)+1)) (cs.length-(t+1)+1) (less r v):=by rw[show cs.length-(cs.length-(t+1))=cs.length-(cs.length-(t+1)+1)+1 by lia];rfl
   generalize cs.length-(t+1)=k at*;refine⟨_,rfl,aG (d:= .int 0) (β1:=β) rfl (aG (d:= .int 0) (β1:=β) rfl ?_)⟩;refine bB (ds:=(wB B cs k r).map nL) (β1:=β) (cK (ak (ae rfl (ae (x:= .int ((cs.getD k 0:Nat):Int)) (dr rfl rfl (cA (by rw[OS,OS,f8 o,ON o];rfl))) (ae (wo hB S o rfl rfl) rfl))) (vT rfl R (by rw[V,n2]) W)) rfl) (λj s c=>β=c/\∃l b,s=L3 (wB B cs) rs cs (kc B) N (My (.sh (tN r))) (My (.sh (.int (k:Int)))) (My (.sh (.int ((L2.Nt.sm ((wB B cs k r).take j) λv=>uy (wB B cs) (cs.length-(k+1)) (k+1) (less r v):Nat):Int)))) (My (.sh (.int ((L2.Nt.sm ((wB B cs k r).take j) λv=>mu v*t0 (wB B cs) (cs.length-(k+1)) (k+1) (less r v):Nat):Int)))) l b) ⟨rfl,l,b,rfl⟩ ?_ ?_
   .rintro j d s _ hd ⟨rfl,l,b,rfl⟩
    obtain⟨v,F,rfl⟩:=bL hd;have w:=Pd F;have y:=(h.ok k r).subset w;have M:=gm.mpr ⟨r,Q,v,w,rfl⟩;have T:=(iJ h.ok h.sm (k+1) o _ M).2;have H:v.sum<=40:=Pj (dT y).sum n3;have U:=(h.at o M).2.2;have v4:v.length<=4:=by rw[(dT y).len];exact R.2.1
    have dx:xV (.dct OL (N.map kP) (N.map (v3 (wB B cs) cs.length))) (.tup [.int ((k+1:Nat):Int),tN (less r v)])=My (cv (wB B cs) cs.length (k+1) (less r v)):=by
     show(jp OL (dK OL (((k+1:Nat):Int),nI (less r v)))).bind _=_;rw[jF λe=>(by cases e)];exact uc (f:=v3 (wB B cs) cs.length) (C v w)
    refine⟨_,rfl,Ku (d:=cv (wB B cs) cs.length (k+1) (less r v)) (β1:=β) (dr rfl (aj (ae (dr rfl rfl rfl) (ae (aj (ae (ak rfl (tZ rfl (dT y) R.2.1)) rfl) (yt _)) rfl)) gh) dx) ?_⟩;refine aG (d:= .int ((L2.Nt.sm ((wB B cs k r).take (j+1)) λv=>uy (wB B cs) (cs.length-(k+1)) (k+1) (less r v):Nat):Int)) (β1:=β) (dr rfl (dr rfl rfl DX) (by rw[rA _ F];rfl)) ?_;exact au (aG (d:= .int ((L2.Nt.sm ((wB B cs k r).take (j+1)) λv=>mu v*t0 (wB B cs) (cs.length-(k+1)) (k+1) (less r v):Nat):Int)) (β1:=β) (dr rfl (dr (dr rfl rfl DW) (ak rfl (DI H v4)) (pU (eC (Pj (uJ h.ok _ _ _ (by lia)) (by rw[uI _ _ T];exact IL U)) (by decide)) (eC (sD H) (by decide)))) (by rw[rA _ F,sC,R1];rfl)) (bf ⟨rfl,_,_,rfl⟩))
   .rintro s _ ⟨rfl,l,b,rfl⟩
    rw[OH,QE,<-et,<-ed];exact au (y9 (p:=(k,r)) E G (aj rfl gh) (aj rfl gh) (bf ⟨rfl,_,_,_,_,_,rfl⟩))
  .rintro s _ ⟨rfl,g,q,u,l,b,rfl⟩
   rw[OH,QE,<-uH];exact bf ⟨rfl,_,_,_,_,_,_,rfl⟩
 .rintro s _ ⟨rfl,g,O,q,u,l,b,rfl⟩
  rw[show(di cs.length).length=cs.length by simp[di]];have X:∀p,p∈ix (wB B cs) rs cs.length↔p∈l_ (wB B cs) rs cs.length (cs.length+1):=λp=>by
   rw[zD,qf (OW _)];exact⟨λz=>⟨⟨z.1,Nat.le_add_left _ _⟩,z.2⟩,λz=>⟨z.1.1,z.2⟩⟩
  have sp:V_ ((ix (wB B cs) rs cs.length).map kP) ((l_ (wB B cs) rs cs.length (cs.length+1)).map kP):=⟨by rw[O0];exact Oa _,by rw[OH];exact P,λk=>⟨λz=>by
   obtain⟨p,I,rfl⟩:=OR.mp z;exact OR.mpr ⟨p,(X p).mp I,rfl⟩,λz=>by
   obtain⟨p,I,rfl⟩:=OR.mp z;exact OR.mpr ⟨p,(X p).mpr I,rfl⟩⟩⟩
  have l9:(ix (wB B cs) rs cs.length).length<=1000:=Pj (dY (n:=62) λk o=>by
   have:=Pn.mp o;rw[OH];exact gG h (Nat.le_of_succ_le_succ ‹_›)) (by rw[Pi];lia)
  refine au (aU (d:= .lst ((ix (wB B cs) rs cs.length).map λp=>rD (KX (wB B cs) cs.length p))) (β1:=β) (bq (ix (wB B cs) rs cs.length) (λp=>dK OL (kP p)) _ (cK (aj rfl (CC sp)) (by rw[O0];rfl)) (λp I=>⟨[My (dK OL (kP p)),My (.dct OL ((l_ (wB B cs) rs cs.length (cs.length+1)).map kP) ((l_ (wB B cs) rs cs.length (cs.length+1)).map (v3 (wB B cs) cs.length)))],rfl,dr rfl (dr (z:=v3 (wB B cs) cs.length p) rfl rfl ?_) ?_⟩) (bn l9)) ⟨rfl,by show Ra (D.lst _)=Ra (D.lst _);rw[O0];rfl⟩)
  .show(jp OL (dK OL (kP p))).bind _=_
   rw[jF λe=>(by cases e)];exact uc (f:=v3 (wB B cs) cs.length) ((X p).mp I)
  .show eZ (.tup [.int (p.1:Int),tN p.2]) (.tup [.int ((uy (wB B cs) (cs.length-p.1) p.1 p.2:Nat):Int),.int ((t0 (wB B cs) (cs.length-p.1) p.1 p.2:Nat):Int)])=_
   unfold eZ;simp only;rw[OZ (bn (by show 4<=1000;decide))];rfl
end
section
variable{K:Pl}{a:Ad}{β:Bg}
theorem AV{ac:a0t}(h:ac.length<=1000):(oI K a).1 [lG ac] β=My (.ok (lG ac),β):=
 aW (au (aU (bq ac D.lst D.lst rfl (λx _=>⟨_,rfl,rfl⟩) (bn h)) ⟨rfl,rfl⟩))
theorem zO{r c:Nat}(d:r<=1000)(e:c<=1000):k8 K a [.int (r:Int),.int (c:Int)] β=My (.ok (gP (mq r c)),β):=by
 have b:∀x:Nat,fj 1 [] (cu fG (aa (ag 1) (ax))) (gs 0) (λ_=>M.ret OL) (j2 (aL fE (aa (fC (.int 0)) (aa (fC (.int 40)) (ax))))) [My (.int (0+(x:Int))),My (.int (c:Int))] β=My (.ok ((Pr c ((0:Int),(40:Int))).map pD),β):=λx=>by
  have h:=AW (nv:=1) (bt:=[]) (it:=cu fG (aa (ag 1) (ax))) (tg:=gs 0) (f:=aL fE (aa (fC (.int 0)) (aa (fC (.int 40)) (ax)))) (δ:=[My (.int (0+(x:Int))),My (.int (c:Int))]) (β:=β) (OX c) (λi=>D.int (0+(i:Int))) (λ_=>pD (0,40))
   (bE rfl (y3 (by lia) (by lia))) (λx _=>⟨_,rfl,aj rfl gh⟩) (bn (by rw[Pi];omega))
  rw[i7]at h;rw[SJ];exact h
 have h:=qW (nv:=1) (bt:=[1]) (it:=cu fG (aa (ag 0) (ax))) (tg:=gs 0) (f:=fj 1 [] (cu fG (aa (ag 1) (ax))) (gs 0) (λ_=>M.ret OL) (j2 (aL fE (aa (fC (.int 0)) (aa (fC (.int 40)) (ax)))))) (δ:=[My (.int (r:Int)),My (.int (c:Int))]) (β:=β) (OX r) (λi=>D.int (0+(i:Int))) (λ_=>(Pr c ((0:Int),(40:Int))).map pD)
  (bE rfl (y3 (by lia) (by lia))) (λx _=>⟨_,rfl,b x⟩) (bn (by rw[Pi];lia))
 rw[i7]at h;refine Kq (au (Jg h ⟨rfl,?_⟩));show gP (mq r c)=_;show Q2 _ _=_;rw[SJ]
abbrev Zz(ac:LI)(b:LP)(c d e f g:a0T):Ds:=[My (.sh .bag),My (.sh (bT ac)),My (.grd (gP b)),c,d,e,f,g]
def BdI(r c:Nat)(ac:LI)(d e:a0T)(a:Ds)(β:Bg):Prop:=β.ok/\∃(b:LP) (f g h:a0T),a=Zz ac b d e f g h/\si r c b/\Kp ac b
theorem xw{r c:Nat}{ac:LI}(t:ZS r c ac)(ok:β.ok):∃(b:LP) (f:Bg),(hX K a).1 [.bag,bT ac] β=My (.ok (dg b),f)/\si r c b/\Kp ac b/\f.ok:=by
 suffices h:∃g f,(hX K a).1 [.bag,bT ac] β=My (g,f)/\(∃(b:LP),g= .ok (dg b)/\si r c b/\Kp ac b/\f.ok) by
  obtain⟨g,f,e,b,rfl,Z,S⟩:=h;exact⟨b,f,e,Z,S⟩
 have r1:=t.r1;have c1:=t.c1;have c0:=t.c0;have r0:=t.r0;obtain⟨F,H,I⟩:=t.shp.at (i:=0) ‹_›;have V:(gI ac)[0]?=My (F.map D.int):=by rw[OS,H];rfl
 unfold hX
 dsimp only
 refine jI ?_;refine HI (β1:=β) (Jd (as:=[.int (r:Int),.int (c:Int)]) (β1:=β) (ae (aj rfl (zQ (by rw[OH,t.shp.1]))) (ae (aj (ae (x:= .lst (F.map D.int)) (dr rfl rfl (rM V)) rfl) (dF (by rw[OH,I]))) rfl)) (zO (by lia) (by lia))) (LF _) ?_;obtain⟨s,β1,p1,a0,a1,R⟩:=aX ok (lot:=3) (by decide) (by decide);refine gQ (c:=decide (s=0)) (β1:=β1) (ij (dr (ak rfl p1) rfl eq_int)) ?_;by_cases hw:s=0
 .rw[OZ (by simpa using hw)]
  exact aU rfl ⟨_,rfl,si.free r c,Kp.free t,R⟩
 rw[OY (by simpa using hw)];refine bx ?_;refine bB (ds:=cP 0 ((gI ac).map D.lst)) (β1:=β1) rfl (λ_ M β=>∃z s4,BdI r c ac z s4 M β) ⟨OI,OI,R,mq r c,OI,OI,OI,rfl,si.free r c,Kp.free t⟩ ?_ ?_
 .rintro i d M β2 hd ⟨z,s4,J,b,X,Y,T,rfl,o,B⟩
  obtain⟨x,hx,rfl⟩:=qe hd;obtain⟨y,hy,rfl⟩:=bL hx;obtain⟨E,m,rfl⟩:=bL hy;have hi:i<r:=by rw[<-t.shp.1];exact(OT.mp m).1
  have U:E.length=c:=t.shp.2 E (Pd m);refine⟨Zz ac b (My (.sh (.int i))) (My (.sh (.lst (E.map D.int)))) X Y T,rfl,au ?_⟩;refine bB (ds:=cP 0 (E.map D.int)) (β1:=β2) rfl (λ_=>BdI r c ac (My (.sh (.int i))) (My (.sh (.lst (E.map D.int))))) ⟨J,b,X,Y,T,rfl,o,B⟩ ?_ (λM β h=>bf ⟨_,_,h⟩);rintro j d M af hd ⟨aa,b,X,Y,T,rfl,o,B⟩;obtain⟨x,hx,rfl⟩:=qe hd;obtain⟨n,hn,rfl⟩:=bL hx;have hj:j<c:=by rw[<-U];exact(OT.mp hn).1
  have ad:=t.le40 E (Pd m) n (Pd hn);obtain⟨q,l,L⟩:=o.shp.at hi;refine⟨Zz ac b (My (.sh (.int i))) (My (.sh (.lst (E.map D.int)))) (My (.sh (.int j))) (My (.sh (.int n))) T,rfl,?_⟩;obtain⟨w,A,p4,s,w1,N⟩:=aX aa (lot:=4) (by decide) (by decide);refine aG (d:= .int w) (β1:=A) (ak rfl p4) ?_
  have P:∀(p:Int×Int) (M:Ds),nw p->p.1<=n->n<=p.2->∀{β5:Bg} {fv:FD} {h:G} {Q:a0y},fv (hE (Zz ac b (My (.sh (.int i))) (My (.sh (.lst (E.map D.int)))) (My (.sh (.int j))) (My (.sh (.int n))) (My (.sh (.int w))))) A=My (.ok (pD p),β5)->
    (∀b,si r c b->Kp ac b->Gw h (Zz ac b (My (.sh (.int i))) (My (.sh (.lst (E.map D.int)))) (My (.sh (.int j))) (My (.sh (.int n))) (My (.sh (.int w)))) β5 Q)->
    Gw (aD (mn 2 (ag 3) (ag 5) fv) h) (Zz ac b (My (.sh (.int i))) (My (.sh (.lst (E.map D.int)))) (My (.sh (.int j))) (My (.sh (.int n))) (My (.sh (.int w)))) A Q:=λp M hp Z S β5 fv h Q e k=>by
   refine HH (d:=pD p) (ac:=gP b) (ds:=q.map pD) (ka:=i) (kb:=j) (ja:=i) (jb:=j) e rfl rfl rfl ?_ ?_ ?_ rfl ?_
   .rw[OH,o.shp.1];exact ld (by lia) (by lia)
   .rw[OS,l];rfl
   .rw[OH,L];exact ld (by lia) (by lia)
   .have W:(gP b).set i ((q.map pD).set j (pD p))=gP (b.set i (q.set j p)):=by
     show _=Q2 _ _;rw[TY,TY]
    rw[W];exact k _ (o.set l hp) (B.set l (uZ m hn) Z S)
  refine gQ (c:=decide (w=0)) (β1:=A) (ij (dr rfl rfl eq_int)) ?_;by_cases q0:w=0
  .rw[OZ (by simpa using q0)]
   obtain⟨u,β5,p5,u0,u1,ab⟩:=aX N (lot:=n+1) (by lia) (by lia);obtain⟨v,C,p6,v0,v1,O⟩:=aX ab (lot:=3) (by decide) (by decide);refine P (n-u,SC 40 (n+v)) [] ⟨by show 0<=n-u;lia,by show n-u<=SC 40 (n+v);lia,by show SC 40 (n+v)<=40;lia⟩ (by show n-u<=n;lia) (by show n<=SC 40 (n+v);lia) (β5:=C) ?_ λb o B=>?_
   .exact aj (ae (dr rfl (ak (ae rfl (ae (dr rfl rfl rfl) rfl)) p5) rfl) (ae (aj (ae rfl (ae (dr rfl (ak rfl p6) rfl) rfl)) xk) rfl)) gh
   .refine au (fm (β1:=C) ?_ (bx (bf ⟨O,b,_,_,_,rfl,o,B⟩)))
    rw[show(OQ:Bool)=decide (w=1) by rw[q0];rfl];exact ij (dr rfl rfl eq_int)
  .rw[OY (by simpa using q0)]
   refine bx (au (gQ (c:=decide (w=1)) (β1:=A) (ij (dr rfl rfl eq_int)) ?_));by_cases q1:w=1
   .rw[OZ (by simpa using q1)]
    obtain⟨v,C,p6,v0,v1,O⟩:=aX N (lot:=3) (by decide) (by decide);refine P (0,Yb n v) [] ⟨by show(0:Int)<=0;decide,by show 0<=Yb n v;lia,by show Yb n v<=40;lia⟩ (by show 0<=n;lia) (by show n<=Yb n v;lia) (β5:=C) ?_ λb o B=>bf ⟨O,b,_,_,_,rfl,o,B⟩;exact aj (ae rfl (ae (aj (ae rfl (ae (ak rfl p6) rfl)) LM) rfl)) gh
   .rw[OY (by simpa using q1)]
    exact bx (bf ⟨N,b,_,_,_,rfl,o,B⟩)
 .rintro M β2 ⟨z,s4,J,b,X,Y,T,rfl,o,B⟩
  exact au (aU rfl ⟨b,rfl,o,B,J⟩)
structure vr (ac:LI) (c:Nat) (rs:a0a):Prop where
 shp:io rs.length c ac
 nn:∀row∈ac,∀x∈row,0<=x
 sm:ac.map Rf=nI rs
 c1:1<=c
 c6:c<=6
 nr:z4 rs
 wd:pr (rs.dropLast.map (·+1))<63
theorem sI:∀{xs:a0e},(∀x∈xs,0<=x)->∃l:a0a,xs=nI l
 |[],_=>⟨[],rfl⟩
 |x::xs,h=>by
  obtain⟨l,e⟩:=sI λy a=>h y (OO _ a);have:=h x OU;exact⟨x.toNat::l,by rw[e];show _=((x.toNat:Nat):Int)::_;rw[Int.toNat_of_nonneg this]⟩
theorem few2:∀x<41,∀y<41-x,(x+1)*((y+1)*1)<=500/\(x+1)*1<63:=by decide
theorem few3:∀x<12,∀y<12-x,∀z<12-x-y,(x+1)*((y+1)*((z+1)*1))<=500/\(x+1)*((y+1)*1)<63:=by decide
theorem few4:∀x<9,∀y<9-x,∀z<9-x-y,∀w<9-x-y-z,(x+1)*((y+1)*((z+1)*((w+1)*1)))<=500/\(x+1)*((y+1)*((z+1)*1))<63:=by decide
theorem few:∀{rs:a0a},(rs.length=1/\rs.sum<=40)\/(rs.length=2/\rs.sum<=40)\/(rs.length=3/\rs.sum<=11)\/(rs.length=4/\rs.sum<=8)->z4 rs/\pr (rs.dropLast.map (·+1))<63
 |[x],h=>by
  have q:x<=40:=by simp at h;omega
  exact⟨⟨by show 1<=1;decide,by show 1<=4;decide,by simp at h⊢;omega,by show(x+1)*1<=500;lia⟩,by show 1<63;decide⟩
 |[x,y],h=>by
  have q:=few2 x (by simp at h;lia) y (by simp at h;lia);exact⟨⟨by show 1<=2;decide,by show 2<=4;decide,by simp at h⊢;omega,q.1⟩,q.2⟩
 |[x,y,z],h=>by
  have q:=few3 x (by simp at h;lia) y (by simp at h;lia) z (by simp at h;omega);exact⟨⟨by show 1<=3;decide,by show 3<=4;decide,by simp at h⊢;lia,q.1⟩,q.2⟩
 |[x,y,z,w],h=>by
  have q:=few4 x (by simp at h;lia) y (by simp at h;lia) z (by simp at h;lia) w (by simp at h;omega);exact⟨⟨by show 1<=4;decide,by show 4<=4;decide,by simp at h⊢;lia,q.1⟩,q.2⟩
 |[],h=>by simp at h
 |_::_::_::_::_::_,h=>by simp at h
abbrev gdS(r c t:Nat)(ac:LI)(b d e:a0T):Ds:=[My (.sh .bag),My (.sh (.int (r:Int))),My (.sh (.int (c:Int))),My (.sh (.int (t:Int))),My (.grd (gI ac)),b,d,e]
theorem gu{r c t:Nat}(G:β.ok)(U:1<=r)(W:r<=4)(M:1<=c)(P:c<=6)(B:(r=1/\t<=40)\/(r=2/\t<=40)\/(r=3/\t<=11)\/(r=4/\t<=8)):∃(ac:LI) (rs:a0a) (j:Bg),fJ K a [.bag,.int (r:Int),.int (c:Int),.int (t:Int)] β=My (.ok (bT ac),j)/\vr ac c rs/\j.ok:=by
 suffices h:∃g j,fJ K a [.bag,.int (r:Int),.int (c:Int),.int (t:Int)] β=My (g,j)/\(∃(ac:LI) (rs:a0a),g= .ok (bT ac)/\vr ac c rs/\j.ok) by
  obtain⟨g,j,e,ac,rs,rfl,F,H⟩:=h;exact⟨ac,rs,j,e,F,H⟩
 refine jI ?_;unfold nE;refine HI (ac:=(OX r).map λ_=>Pr c (D.int 0)) (β1:=β) (qW (OX r) (λi=>D.int (0+(i:Int))) _ (bE (ds:=aZ 0 r) rfl (y3 (by lia) (by lia))) (λx _=>⟨_,rfl,N4 (x:= .int 0) (c:=c) rfl rfl (by lia)⟩) (bn (by rw[Pi];lia))) ?_ ?_
 .rw[S9]
  intro x w;obtain⟨_,_,rfl⟩:=OR.mp w;rw[<-SJ (f:=D.int)];exact i6 _
 have I:(OX r).map (λ_=>Pr c (D.int 0))=gI (Pr r (Pr c 0)):=by
  show _=Q2 _ _;rw[SJ,List.map_const',SJ,Pi]
 rw[I];refine bB (ds:=aZ 0 t) (β1:=β) (bE rfl (y3 (by lia) (by lia))) (λi E β=>β.ok/\∃ac o p q,E=gdS r c t ac o p q/\io r c ac/\(∀row∈ac,∀x∈row,0<=x)/\tot ac=(i:Int)) ⟨G,Pr r (Pr c 0),OI,OI,OI,rfl,⟨by simp,λrow h=>?_⟩,λrow h x w=>?_,?_⟩ ?_ ?_
 .rw[(RF.mp h).2];simp
 .rw[(RF.mp h).2]at w
  rw[(RF.mp w).2];exact YB _
 .unfold tot
  rw[SJ];have z:∀n:Nat,(Pr n (0:Int)).sum=0:=λn=>by
   induction n with
   |zero=>rfl
   |succ n S=>rw[Q9,Pz,S];rfl
  rw[z,z];rfl
 .rintro i d E j hd ⟨k,ac,o,p,q,rfl,sh,nn,B⟩
  obtain⟨v,β1,J,N,O,y⟩:=aX k (lot:=(r:Int)) (by lia) (by lia);obtain⟨u,β2,p2,Q,R,A⟩:=aX y (lot:=(c:Int)) (by lia) (by lia);obtain⟨v,rfl⟩:∃n:Nat,v=(n:Int):=⟨v.toNat,by lia⟩;obtain⟨u,rfl⟩:∃n:Nat,u=(n:Int):=⟨u.toNat,by lia⟩;obtain⟨row,b,m⟩:=sh.at (i:=v) (by lia);obtain⟨x,w⟩:=I9 (l:=row) (i:=u) (by lia);refine⟨_,rfl,aG (ak rfl J) (aG (ak rfl p2) (au (HH (d:= .int (x+1)) (β1:=β2) (β2:=β2) (β3:=β2) (ac:=gI ac) (ds:=row.map D.int) (ka:=v) (kb:=u) (ja:=v) (jb:=u) (dr (dr (dr rfl rfl (rM (row:=row.map D.int) ?_)) rfl (cA (d:= .int x) ?_)) rfl rfl) rfl rfl rfl ?_ ?_ ?_ rfl (bf ⟨A,ac.set v (row.set u (x+1)),My (.sh d),My (.sh (.int (v:Int))),My (.sh (.int (u:Int))),?_,sh.set b,LG nn b ?_,?_⟩))))⟩
  .rw[OS,b];rfl
  .rw[OS,w];rfl
  .rw[OH,sh.1];exact ld (by lia) (by omega)
  .rw[OS,b];rfl
  .rw[OH,m];exact ld (by lia) (by lia)
  .show[_,_,_,_,My (Sl.grd ((gI ac).set v ((row.map D.int).set u (.int (x+1))))),_,_,_]=_
   rw[show(gI ac).set v ((row.map D.int).set u (.int (x+1)))=gI (ac.set v (row.set u (x+1))) by show _=Q2 _ _;rw[TY,TY]]
  .have:=nn row (Pd b) x (Pd w)
   lia
  .have:=Jn (v:=x+1) b w
   lia
 .rintro E j ⟨k,ac,o,p,q,rfl,sh,nn,C⟩
  rw[tw]at C;obtain⟨rs,e⟩:=sI (xs:=ac.map Rf) λx w=>by
   obtain⟨row,L,rfl⟩:=OR.mp w;exact kF (nn row L)
  have l:rs.length=r:=by rw[<-sh.1,<-OH (as:=ac) Rf,e,OH]
  have s:rs.sum=t:=by
   have h:(ac.map Rf).sum=(t:Int):=C;rw[e,iG]at h;lia
  obtain⟨V,T⟩:=few (rs:=rs) (by rw[l,s];exact B);exact au (aU rfl ⟨ac,rs,rfl,⟨by rw[l];exact sh,nn,e,M,P,V,T⟩,k⟩)
theorem DH(S:β.ok):∃(w:LI) (G:a0a) (b:Bg),iI K a [.bag] β=My (.ok (bT w),b)/\vr w 2 G/\b.ok:=by
 suffices h:∃g b,iI K a [.bag] β=My (g,b)/\(∃(w:LI) (G:a0a),g= .ok (bT w)/\vr w 2 G/\b.ok) by
  obtain⟨g,b,e,w,G,rfl,t,u⟩:=h;exact⟨w,G,b,e,t,u⟩
 refine jI ?_;unfold nC;refine nU (ds:=[]) (β1:=β) rfl (Ql _) ?_;obtain⟨c,β1,y,B,L,m⟩:=aX S (lot:=6) (by decide) (by decide);have o:∃l:a0a,hY (.lst [nL [40],nL [39,1],nL [30,10],nL [20,20],nL [24,15],nL [13,27]]) (.int c)=My (nL l)/\z4 l/\pr (l.dropLast.map (·+1))<63/\l.length<=2/\∀x∈l,x<=40:=by
  obtain rfl|rfl|rfl|rfl|rfl|rfl:c=0\/c=1\/c=2\/c=3\/c=4\/c=5:=by lia
  .exact⟨[40],rfl,⟨by decide,by decide,by decide,by decide⟩,by decide,by decide,by decide⟩
  .exact⟨[39,1],rfl,⟨by decide,by decide,by decide,by decide⟩,by decide,by decide,by decide⟩
  .exact⟨[30,10],rfl,⟨by decide,by decide,by decide,by decide⟩,by decide,by decide,by decide⟩
  .exact⟨[20,20],rfl,⟨by decide,by decide,by decide,by decide⟩,by decide,by decide,by decide⟩
  .exact⟨[24,15],rfl,⟨by decide,by decide,by decide,by decide⟩,by decide,by decide,by decide⟩
  .exact⟨[13,27],rfl,⟨by decide,by decide,by decide,by decide⟩,by decide,by decide,by decide⟩
 obtain⟨l,o,V,s,N,z⟩:=o;refine bB (ds:=(nI l).map D.int) (β1:=β1) (cK (dr (aj rfl rfl) (ak rfl y) o) rfl) (λi M β=>β.ok/\∃w p q,M=[My (.sh .bag),My (.own ((gI w).map D.lst)),p,q]/\w.length=i/\(∀E∈w,E.length=2/\∀x∈E,0<=x)/\w.map Rf=nI (l.take i)) ⟨m,[],OI,OI,rfl,rfl,λ_ h=>(by cases h),rfl⟩ ?_ ?_
 .rintro i d M b hd ⟨f,w,p,q,rfl,j,k,hs⟩
  obtain⟨n,P,rfl⟩:=l8 hd;have A:=z n (Pd P);have C:=(OT.mp P).1;obtain⟨v,I,p2,F,H,r⟩:=aX f (lot:=(n:Int)+1) (by lia) (by lia);refine⟨_,rfl,aG (ak (ae rfl (ae (dr rfl rfl rfl) rfl)) p2) (au (lP (cs:=(gI w).map D.lst) (d:= .lst [.int v,.int ((n:Int)-v)]) rfl (ae (aj (ae rfl (ae (dr rfl rfl rfl) rfl)) rfl) rfl) (Pm (show _<1000 by rw[OH,OH];lia) (by decide)) (bf ⟨r,w++[[v,(n:Int)-v]],My (.sh (.int (n:Int))),My (.sh (.int v)),?_,by rw[O1,j];rfl,λE h=>?_,?_⟩)))⟩
  .show _=[_,My (Sl.own (Q2 _ (Q2 _ (w++_)))),_,_]
   rw[Pw,Pw];rfl
  .rcases PD.mp h with h|h
   .exact k E h
   .cases Po.mp h
    refine⟨rfl,λx J=>?_⟩;simp at J;lia
  .rw[Pw,hs,Vg,P]
   show _=Q2 _ (_++_);rw[Pw];congr 1;simp;lia
 .rintro M b ⟨f,w,p,q,rfl,j,k,hs⟩
  rw[k4]at j;rw[k4,QE]at hs;exact au (aU rfl ⟨w,l,rfl,⟨⟨j,λE h=>(k E h).1⟩,λE h=>(k E h).2,hs,by decide,by decide,V,s⟩,f⟩)
theorem DR(x:β.ok):∃(ac:LI) (c:Nat) (rs:a0a) (b:Bg),i8 K a [.bag] β=My (.ok (bT ac),b)/\vr ac c rs/\b.ok:=by
 suffices h:∃g b,i8 K a [.bag] β=My (g,b)/\(∃(ac:LI) (c:Nat) (rs:a0a),g= .ok (bT ac)/\vr ac c rs/\b.ok) by
  obtain⟨g,b,e,ac,c,rs,rfl,B,C⟩:=h;exact⟨ac,c,rs,b,e,B,C⟩
 refine jI ?_;unfold li;obtain⟨u,β1,F,J,O,l⟩:=aX x (lot:=6) (by decide) (by decide);refine gQ (ij (dr (ak rfl F) rfl eq_int)) ?_;by_cases q:u=0
 .obtain⟨ac,rs,w,e,g,f⟩:=DH (K:=K) (a:=a) l
  rw[OZ (Pf q)];exact aU (ak rfl e) ⟨ac,2,rs,rfl,g,f⟩
 rw[OY (by simp[q])];refine bx ?_;obtain⟨y,w,p2,b0,b1,f⟩:=aX l (lot:=5) (by decide) (by decide);refine aG (ak rfl p2) ?_;refine gQ (β1:=w) (ij (dr rfl rfl eq_int)) ?_;by_cases M:y=0
 .rw[OZ (Pf M)]
  obtain⟨c,E,m,P,S,i⟩:=aX f (lot:=5) (by decide) (by decide);obtain⟨t,o,p,A,V,j⟩:=aX i (lot:=25) (by decide) (by decide);obtain⟨c,rfl⟩:∃n:Nat,c=(n:Int):=⟨c.toNat,by lia⟩;obtain⟨t,rfl⟩:∃n:Nat,t=(n:Int):=⟨t.toNat,by lia⟩;obtain⟨ac,rs,G,e,g,k⟩:=gu (K:=K) (a:=a) (r:=2) (c:=2+c) (t:=t) j (by decide) (by decide) (by lia) (by lia) (by lia);exact aU (ak (ae rfl (ae rfl (ae (dr (z:= .int ((2+c:Nat):Int)) rfl (ak rfl m) (by show My (D.int _)=_;rw[Sf];rfl)) (ae (ak rfl p) rfl)))) e) ⟨ac,2+c,rs,rfl,g,k⟩
 rw[OY (by simp[M])];refine bx ?_;refine gQ (β1:=w) (ij (dr rfl rfl eq_int)) ?_;by_cases s:y=1
 .rw[OZ (Pf s)]
  obtain⟨c,E,m,P,S,i⟩:=aX f (lot:=2) (by decide) (by decide);obtain⟨t,o,p,A,V,j⟩:=aX i (lot:=9) (by decide) (by decide);obtain⟨c,rfl⟩:∃n:Nat,c=(n:Int):=⟨c.toNat,by lia⟩;obtain⟨t,rfl⟩:∃n:Nat,t=(n:Int):=⟨t.toNat,by lia⟩;obtain⟨ac,rs,G,e,g,k⟩:=gu (K:=K) (a:=a) (r:=4) (c:=2+c) (t:=t) j (by decide) (by decide) (by lia) (by lia) (by lia);exact aU (ak (ae rfl (ae rfl (ae (dr (z:= .int ((2+c:Nat):Int)) rfl (ak rfl m) (by show My (D.int _)=_;rw[Sf];rfl)) (ae (ak rfl p) rfl)))) e) ⟨ac,2+c,rs,rfl,g,k⟩
 rw[OY (by simp[s])];refine bx ?_;obtain⟨r,E,m,P,S,i⟩:=aX f (lot:=2) (by decide) (by decide);obtain⟨c,o,p,A,V,j⟩:=aX i (lot:=3) (by decide) (by decide);obtain⟨t,G,H,L,N,k⟩:=aX j (lot:=12) (by decide) (by decide);obtain⟨r,rfl⟩:∃n:Nat,r=(n:Int):=⟨r.toNat,by lia⟩;obtain⟨c,rfl⟩:∃n:Nat,c=(n:Int):=⟨c.toNat,by lia⟩;obtain⟨t,rfl⟩:∃n:Nat,t=(n:Int):=⟨t.toNat,by lia⟩;obtain⟨ac,rs,I,e,g,v⟩:=gu (K:=K) (a:=a) (r:=2+r) (c:=2+c) (t:=t) k (by lia) (by lia) (by lia) (by lia) (by lia);refine aG (d:= .int ((2+r:Nat):Int)) (dr rfl (ak rfl m) (by show My (D.int _)=_;rw[Sf];rfl)) ?_;refine aG (d:= .int ((2+c:Nat):Int)) (dr rfl (ak rfl p) (by show My (D.int _)=_;rw[Sf];rfl)) ?_;exact au (aU (ak (ae rfl (ae rfl (ae rfl (ae (ak rfl H) rfl)))) e) ⟨ac,2+c,rs,rfl,g,v⟩)
theorem CD(x:β.ok):∃(ac:LI) (c:Nat) (rs:a0a) (b:Bg),(iY K a).1 [.bag] β=My (.ok (bT ac),b)/\vr ac c rs/\b.ok:=by
 suffices h:∃g b,(iY K a).1 [.bag] β=My (g,b)/\(∃(ac:LI) (c:Nat) (rs:a0a),g= .ok (bT ac)/\vr ac c rs/\b.ok) by
  obtain⟨g,b,e,ac,c,rs,rfl,p,q⟩:=h;exact⟨ac,c,rs,b,e,p,q⟩
 unfold iY
 dsimp only
 refine jI ?_;have G:∀(k n:Nat),eZ (.int (k:Int)) (.int (n:Int))=My (.int ((k+n:Nat):Int)):=λk n=>by show My (D.int _)=_;rw[Sf]
 obtain⟨y,β1,u,A,C,j⟩:=aX x (lot:=8) (by decide) (by decide);refine aG (ak rfl u) ?_;refine gQ (β1:=β1) (ij (dr rfl rfl eq_int)) ?_;by_cases M:y=0
 .rw[OZ (Pf M)]
  obtain⟨t,w,p2,b0,b1,d⟩:=aX j (lot:=5) (by decide) (by decide);obtain⟨t,rfl⟩:∃n:Nat,t=(n:Int):=⟨t.toNat,by lia⟩;obtain⟨ac,rs,E,e,g,f⟩:=gu (K:=K) (a:=a) (r:=4) (c:=6) (t:=t) d (by decide) (by decide) (by decide) (by decide) (by lia);exact aU (ak (ae rfl (ae rfl (ae rfl (ae (ak rfl p2) rfl)))) e) ⟨ac,6,rs,rfl,g,f⟩
 rw[OY (by simp[M])];refine bx ?_;refine gQ (β1:=β1) (ij (dr rfl rfl eq_int)) ?_;by_cases P:y=1
 .rw[OZ (Pf P)]
  obtain⟨c,w,p2,b0,b1,d⟩:=aX j (lot:=6) (by decide) (by decide);obtain⟨t,E,l,S,V,f⟩:=aX d (lot:=8) (by decide) (by decide);obtain⟨c,rfl⟩:∃n:Nat,c=(n:Int):=⟨c.toNat,by lia⟩;obtain⟨t,rfl⟩:∃n:Nat,t=(n:Int):=⟨t.toNat,by lia⟩;obtain⟨ac,rs,m,e,g,i⟩:=gu (K:=K) (a:=a) (r:=1) (c:=1+c) (t:=t) f (by decide) (by decide) (RH _ _) (by lia) (by lia);exact aU (ak (ae rfl (ae rfl (ae (dr rfl (ak rfl p2) (G 1 c)) (ae (ak rfl l) rfl)))) e) ⟨ac,1+c,rs,rfl,g,i⟩
 rw[OY (by simp[P])];refine bx ?_;refine gQ (β1:=β1) (ij (dr rfl rfl eq_int)) ?_;by_cases s:y=2
 .rw[OZ (Pf s)]
  obtain⟨c,w,p2,b0,b1,d⟩:=aX j (lot:=4) (by decide) (by decide);obtain⟨t,E,l,S,V,f⟩:=aX d (lot:=8) (by decide) (by decide);obtain⟨c,rfl⟩:∃n:Nat,c=(n:Int):=⟨c.toNat,by lia⟩;obtain⟨t,rfl⟩:∃n:Nat,t=(n:Int):=⟨t.toNat,by lia⟩;obtain⟨ac,rs,m,e,g,i⟩:=gu (K:=K) (a:=a) (r:=1+c) (c:=1) (t:=t) f (RH _ _) (by lia) (by decide) (by decide) (by lia);exact aU (ak (ae rfl (ae (dr rfl (ak rfl p2) (G 1 c)) (ae rfl (ae (ak rfl l) rfl)))) e) ⟨ac,1,rs,rfl,g,i⟩
 rw[OY (by simp[s])];refine bx ?_;obtain⟨r,w,p2,b0,b1,d⟩:=aX j (lot:=2) (by decide) (by decide);obtain⟨c,E,l,S,V,f⟩:=aX d (lot:=3) (by decide) (by decide);obtain⟨t,m,v,B,F,i⟩:=aX f (lot:=8) (by decide) (by decide);obtain⟨r,rfl⟩:∃n:Nat,r=(n:Int):=⟨r.toNat,by lia⟩;obtain⟨c,rfl⟩:∃n:Nat,c=(n:Int):=⟨c.toNat,by lia⟩;obtain⟨t,rfl⟩:∃n:Nat,t=(n:Int):=⟨t.toNat,by lia⟩;obtain⟨ac,rs,z,e,g,o⟩:=gu (K:=K) (a:=a) (r:=2+r) (c:=2+c) (t:=t) i (by lia) (by lia) (by lia) (by lia) (by lia);refine aG (dr rfl (ak rfl p2) (G 2 r)) (aG (dr rfl (ak rfl l) (G 2 c)) ?_);exact au (aU (ak (ae rfl (ae rfl (ae rfl (ae (ak rfl v) rfl)))) e) ⟨ac,2+c,rs,rfl,g,o⟩)
theorem toB{r c:Nat}{b:LP}(h:si r c b):∃B,b=ia B/\B3 r c B:=by
 have e:b=ia (b.map λa=>a.map λp=>(p.1.toNat,p.2.toNat)):=by
  unfold ia;rw[O0];refine(WD b).symm.trans (PU λa g=>?_);show a=Q2 _ (Q2 _ a);rw[O0];refine(WD a).symm.trans (PU λp i=>?_);obtain⟨w,D,E⟩:=h.ok a g p i;exact R6 (show p.1=((p.1.toNat:Nat):Int) by lia) (show p.2=((p.2.toNat:Nat):Int) by lia)
 refine⟨_,e,h.shp.map,λa g p i=>?_⟩;obtain⟨d,j,rfl⟩:=OR.mp g;obtain⟨f,k,rfl⟩:=OR.mp i;obtain⟨w,D,E⟩:=h.ok d j f k;show f.1.toNat<=f.2.toNat/\f.2.toNat<=40;lia
theorem J4{ac:LI}{B:a0f}{rs cs:a0a}(h:Ic ac B rs cs):(pR K a).1 [bT ac,kc B] β=My (.ok (tU a B rs cs),β):=by
 obtain⟨e,g,_,_⟩:=h.nr;have w:=h.c6;have b:=oE (K:=K) (a:=a) (β:=β) (ac:=ac) (by rw[h.shp.1];lia);have c:=ku (K:=K) (a:=a) (β:=β) h.shp e (by lia) (by lia);rw[h.rw1]at b;rw[h.cl1]at c;have f:=AV (K:=K) (a:=a) (β:=β) (ac:=gP (ia B)) (by rw[OH,(je h.bok.1).1];lia);unfold pR
 dsimp only
 refine aW (au (aU (d:=tU a B rs cs) (β1:=β) ?_ ⟨rfl,rfl⟩));unfold AN;rw[M.bind_ok (ae (ak rfl b) (ae (ak rfl c) rfl)),M.bind_ok (ae (ak rfl f) rfl)];exact(M.bind_ok (LH h)).trans rfl
theorem vr.tab{ac:LI}{c:Nat}{rs:a0a}(g:vr ac c rs):ZS rs.length c ac:=by
 obtain⟨b,d,e,_⟩:=g.nr;refine⟨g.shp,g.nn,?_,b,d,g.c1,g.c6⟩;show(ac.map Rf).sum<=40;rw[g.sm,iG];lia
theorem L8{ac:LI}{c:Nat}{rs:a0a}{b:LP}(g:vr ac c rs)(f:si rs.length c b)(w:Kp ac b):∃B cs,b=ia B/\Ic ac B rs cs/\cs.length=c:=by
 obtain⟨B,rfl,ok⟩:=toB f;obtain⟨cs,e⟩:=sI (xs:=(tp c ac).map Rf) λx D=>by
  obtain⟨a,i,rfl⟩:=OR.mp D;exact kF (NK g.nn a i)
 have j:cs.length=c:=by rw[<-(vh (d:=(0:Int)) (c:=c) g.shp.1).1,<-OH (as:=I_ 0 c ac) Rf];exact(Qb TK e).symm▸(OH _).symm
 have k:rs.sum=cs.sum:=by
  have h:tot (tp c ac)=tot ac:=yw g.shp.2;unfold tot at h;rw[e,g.sm,iG,iG]at h;lia
 subst j;exact⟨B,cs,rfl,⟨⟨g.nr,g.wd,k,g.c1,g.c6⟩,g.shp,g.sm,e,ok,w⟩,rfl⟩
theorem ou(n:Nat){i:Int}:cT K a (n+1) [.int i,.int i] β=My (.ok (.bl OL),β):=by
 show d7 2 (gv K a (cT K a n)) _ _=_;refine aW ?_;unfold gv;refine fm (β1:=β) (lO (x:= .bl OQ) (aj rfl rfl) rfl) (bx ?_);refine fm (β1:=β) (ij (dr rfl rfl rfl)) (bx ?_);refine fm (β1:=β) (nQ (ij (dr (aj rfl rfl) (aj rfl rfl) rfl)) (ij (dr (aj rfl rfl) (aj rfl rfl) rfl))) (bx ?_);exact au (aU (va (aj rfl rfl) (dr rfl rfl (by rw[Pu.eq_int,Pf rfl]))) ⟨rfl,rfl⟩)
theorem N6(a:a0b):F0 OL (.bl OQ) (.lst (a.map λ_=> .bl OL))=My (.bl OL):=by
 have h:(a.map λ_=>D.bl OL).all eQ=OL/\(a.map λ_=>D.bl OL).any (λy=>eqF y (.bl OQ))=OQ:=by
  induction a with
  |nil=>exact⟨rfl,rfl⟩
  |cons x a w=>exact⟨by rw[Pc,Vn,w.1];rfl,by rw[Pc,Uk,w.2];rfl⟩
 unfold F0 PJ;simp only[c9,RZ,eQ,Tq,h.1,h.2,Qq,VQ]
theorem wW(n:Nat){d:D}{w:a0b}(E:d= .lst w\/d= .tup w)(b:w.length<=1000)(h:∀x∈w,cT K a (n+1) [x,x] β=My (.ok (.bl OL),β)):cT K a (n+2) [d,d] β=My (.ok (.bl OL),β):=by
 have z:dz w w=w.map λx=> .tup [x,x]:=by simpa using sr (f:=id) (g:=id) w
 show d7 2 (gv K a (cT K a (n+1))) _ _=_;refine aW ?_;unfold gv;rcases E with rfl|rfl
 all_goals
  refine ND (β1:=β) (lO (x:= .bl OL) (aj rfl rfl) rfl) (vd ?_);refine fm (β1:=β) (nQ (ij (dr (aj rfl rfl) (aj rfl rfl) rfl)) (ij (dr (aj rfl rfl) (aj rfl rfl) rfl))) (bx (vd ?_));refine fm (β1:=β) (ij (dr (aj rfl rfl) (aj rfl rfl) (ne_int.trans (by simp)))) (bx ?_);exact aU (β1:=β) (dr (z:= .bl OL) rfl (bq w (λx=>D.tup [x,x]) (λ_=> .bl OL) ((kx rfl rfl rfl rfl).trans (by rw[z])) (λx G=>⟨[My x,My x],rfl,ak rfl (h x G)⟩) (bn b)) (N6 w)) ⟨rfl,rfl⟩
variable{rs cs:a0a}{W:Wy}
theorem JC{R:List R4}(b:R.length<=1000)(c:∀p∈R,p.2.1.length<=4):cT K a 5 [y4 R,y4 R] β=My (.ok (.bl OL),β):=wW 3 (.inl rfl) (by rw[OH];exact b) λz hz=>by
 obtain⟨p,d,rfl⟩:=OR.mp hz;refine wW 2 (.inr rfl) (by show 4<=1000;decide) λz hz=>?_;rcases O6.mp hz with rfl|hz
 .exact ou 2
 rcases O6.mp hz with rfl|hz
 .refine wW 1 (.inr rfl) (by have:=c p d;rw[OH];lia) λz hz=>?_
  obtain⟨i,_,rfl⟩:=OR.mp hz;exact ou 1
 rcases O6.mp hz with rfl|hz
 .exact ou 2
 cases Po.mp hz;exact ou 2
theorem Kv{i:Nat}{ds:a0b}{h:G}{δ:Ds}{Q:a0y}(b:δ.getD i OI=My (.own ds))(a:ds≠[])(k:Gw h (δ.set i (My (.own ds.dropLast))) β Q):Gw (aD (rS i) h) δ β Q:=dh (by unfold rS;simp only[b];rw[OZ a]) k
theorem DP(β:Bg)(P:β.ok):∃i,(oG K a).1 [OI,My (.sh .bag),OI,OI,OI,OI,OI] β=My (.rt (.bl OL),i):=by
 suffices h:Gw (oG K a).1 [OI,My (.sh .bag),OI,OI,OI,OI,OI] β (λo _=>o= .rt (.bl OL)) by
  obtain⟨o,i,e,rfl⟩:=h;exact⟨i,e⟩
 obtain⟨g,c,rs,β1,L,m,v⟩:=CD (K:=K) (a:=a) P;obtain⟨w,β2,S,Y,Z,r⟩:=aX v (lot:=2) (by decide) (by decide);unfold oG
 dsimp only
 refine aG (ak rfl L) (NC (λδ β=>∃g c rs,δ=[OI,My (.sh .bag),My (.sh (bT g)),OI,OI,OI,OI]/\vr g c rs/\β.ok) (au (gQ (β1:=β2) (ij (dr (ak rfl S) rfl eq_int)) ?_)) ?_)
 .by_cases q:w=0
  .rw[OZ (Pf q)]
   obtain⟨g,c,rs,G,N,m,j⟩:=DR (K:=K) (a:=a) r;exact aG (ak rfl N) (yh ⟨g,c,rs,rfl,m,j⟩)
  .rw[OY (λz=>q (QP z))]
   exact bx (yh ⟨g,c,rs,rfl,m,r⟩)
 rintro δ G ⟨g,c,rs,rfl,m,j⟩;obtain⟨l,b,O,V,kl,Q⟩:=xw (K:=K) (a:=a) m.tab j;obtain⟨B,cs,rfl,E,lc⟩:=L8 m V kl;have t:s9 K a rs cs (wB B cs) (kc B):=E.nt;have W:=E.nr.1;have r4:=E.nr.2.1;have c6:=E.c6;have A:=oE (K:=K) (a:=a) (β:=b) (ac:=g) (by rw[E.shp.1];lia);have C:=ku (K:=K) (a:=a) (β:=b) E.shp W (by lia) (by lia);rw[E.rw1]at A;rw[E.cl1]at C;have s:(l_ (wB B cs) rs cs.length (cs.length+1)).length<=1000:=Pj (dY (n:=62) λk F=>by rw[OH];exact gG t (Nat.sub_le _ _)) (by rw[Pi];lia);have u:(ix (wB B cs) rs cs.length).length<=1000:=Pj (dY (n:=62) λk F=>by
  have:=Pn.mp F;rw[OH];exact gG t (Nat.le_of_succ_le_succ ‹_›)) (by rw[Pi];lia)
 have H:∀p∈(ix (wB B cs) rs cs.length).map (KX (wB B cs) cs.length),1<=p.2.1.length/\p.2.1.length<=4:=λp y=>by
  obtain⟨q,T,rfl⟩:=OR.mp y;obtain⟨q1,q2⟩:=zD.mp T;obtain⟨_,n2,_⟩:=t.at q1 q2;show 1<=(nI q.2).length/\(nI q.2).length<=4;rw[OH];lia
 have U:(ix (wB B cs) rs cs.length).map (KX (wB B cs) cs.length)≠[]:=by
  unfold ix;rw[VB,QI,show fh (wB B cs) rs 0=[rs]from rfl];exact List.cons_ne_nil _ _
 have X:((ix (wB B cs) rs cs.length).map (KX (wB B cs) cs.length)).length=(ix (wB B cs) rs cs.length).length:=OH _;have I:=JY (K:=K) (a:=a) (β:=b) (rs:=rs) (cs:=cs) (B:=B) u;refine aG (ak rfl O) (aG (ak rfl (J4 E)) (aG (ak (ae (ak rfl A) (ae (ak rfl C) rfl)) (J6 t E.bok s)) ?_));have J:=λ(δ:Dn) (f:FD)=>J0 (K:=K) (a:=a) (β:=b) (rs:=rs) (cs:=cs) (B:=B) u (δ:=δ) (f:=f);rw[<-X]at u J;generalize (ix (wB B cs) rs cs.length).map (KX (wB B cs) cs.length)=R at*;have M:=λ(β:Bg)=>JC (K:=K) (a:=a) (β:=β) (R:=R) u λp y=>(H p y).2;refine Kw (ds:=R.map rD) (β1:=b) (yf rfl rfl I) ?_;refine fm (β1:=b) (nQ (nR (c:=OL) (lO (ak rfl (M b)) rfl)) (nR (c:=OL) (lO (ak (ae (J _ _ rfl) (ae (aj rfl (dF (by rw[OH]))) rfl)) (ou 4)) rfl))) (bx ?_);refine Kv (ds:=R.map rD) rfl (λz=>U (List.map_eq_nil_iff.mp z)) ?_;refine lP (cs:=(R.map rD).dropLast) (d:=rD (0,[],3,3)) (β1:=b) rfl (ae (aj (ae rfl (ae (aj rfl rfl) rfl)) KD) rfl) (P5 (show _<=1000 by rw[Yr,OH];lia) (by decide)) ?_;refine au (aU (β1:=b) (va (β2:=b) (ak (ae (Nz (yf rfl rfl I)) rfl) (M b)) (dr (β1:=b) (x:=y4 (R.dropLast++[(0,[],3,3)])) ?_ rfl ?_)) rfl)
 .show My (Ra (D.lst ((R.map rD).dropLast++[rD (0,[],3,3)])),b)=_
  unfold y4;rw[Pw,List.map_dropLast];rfl
 .rw[N8 (Mo _ _),PY λz=>?_];rfl
  have:(0,[],3,3)∈R:=by rw[<-z];exact PD.mpr (.inr (Sz _))
  exact Pp (H _ this).1 (by decide)
end
end Law
namespace L2.Pu
open PySem.W
section
variable{j:String->Option Builtin}{p:PM}{w:P0}{f:Nat}{g:Option OP}{i:WL}{q:Ub}
theorem j7(k:Nat){n N:Nat}{s E r:OV}{b:a0R}{c:Code}{D a:Ub}(h:segRun j p w f g 1 n s (piecesOf (b.take k) i c D [Yg q])=My (.next,E,c,a))
  (d:topRun j p w f g N E (restOf (b.drop k) i c a [Yg q])=My r):topRun j p w f g (n+N) s (restOf b i c D [Yg q])=My r:=by
 have:=piece_app h d;rwa[PL]at this
theorem EG{N:Nat}{s r:OV}{b:a0R}{c:Code}{D:Ub}(e:b=[])(k:topRun j p w f g N s ⟨doneF .next,c,D,[Yg q]⟩=My r):topRun j p w f g N s (restOf b i c D [Yg q])=My r:=by
 subst e;exact piece_nil k
end
end L2.Pu
namespace Law
open L2 L2.Pu
noncomputable abbrev E(P:Xl)(n:String)(t:Nat)(v:OP):RY:=⟨PyData.keyHash P (Q5 n),.str (Q5 n) t,v⟩
noncomputable abbrev FN(x q:PZ)(s:QH)(b c a w:OP)(d:a0Q)(D E:OP):Py:=TM x q (im s) (cf s) (ah s) b c a w d D E
noncomputable abbrev fO(f:Py):PF:=⟨.type "function",OI,.func f,#[]⟩
noncomputable abbrev tO(l:a0g):PF:=⟨.type "tuple",OI,.seq l.toArray 0,#[]⟩
noncomputable abbrev cO(l:a0g):PF:=⟨.type "code",OI,.fields l.toArray,#[]⟩
noncomputable abbrev eB(P:Xl)(n:String)(t:Nat):RY:=E P n t (.builtin n)
noncomputable abbrev eT(P:Xl)(n:String)(t:Nat):RY:=E P n t (.type n)
noncomputable abbrev eR(P:Xl)(n:String)(t r:Nat):RY:=E P n t (.ref r)
noncomputable abbrev nO(l:a0g):PF:=⟨.none,OI,.fields l.toArray,#[]⟩
noncomputable abbrev fB(x q:PZ)(s:QH):PF:=⟨.none,OI,.func ⟨x,q,im s,.stmts (cf s),ah s,0,[],.none,.none,.none,.none,OI,.none,.none,0⟩,#[]⟩
noncomputable abbrev cC(n q:PZ)(t l a D c fl r:Nat)(b:Bool)(d e:Nat)(x y z w:OP)(u f v:Nat):PF:=cO [.str n t,.str q (t+1),.str "/claim/cut.py" (t+2),.int l 0,.int a 0,.int D 0,.int c 0,.int fl 0,.ref r,.bool b,.int d 0,.ref e,x,y,z,w,.int u 0,.int f 0,.str "/claim/cut.py" v]
noncomputable abbrev cF(n:PZ)(t l a b r c u:Nat):PF:=cC n n t l a 0 b 3 r OL c (r+1) .none .none .none (.ref (r+2)) u l (u+1)
noncomputable abbrev cG(n:PZ)(t l a b r c u:Nat):PF:=cC n n t l a 0 b 3 r OL c (r+1) .none (.ref (r+2)) (.ref (r+3)) (.ref (r+4)) u l (u+1)
noncomputable abbrev fM(m:PZ)(t:Nat)(x:PZ)(i c:Nat):PF:=fO (FN x x (cp i) .none .none .none (.str m t) OI (.ref c) .none)
abbrev eTt:a0g:=[(.ref 38),(.type "ValueError"),(.type "Exception"),(.type "BaseException"),(.type "object")]
noncomputable abbrev ZD(x:PZ)(a d b t u:Nat):PF:=⟨(.type "type"),OI,(.cls ⟨x,[(.ref 38)],(.ref a)::eTt,d,x,OL,[],[],OQ,OI,OQ⟩),#[(My (.ref b)),OI,(My (.str x t)),(My (.str x u)),(My (.builtin "ValueError.__new__")),(My (.bool OL))]⟩
noncomputable abbrev P_(n:Nat):PF:=⟨(.type "builtin_function_or_method"),OI,(.fields #[(.builtin "object.__init_subclass__"),(.ref n)]),#[]⟩
noncomputable abbrev j0:OP:= .str "edgetally.errors" 194
noncomputable abbrev ra:OP:= .str "edgetally.net" 464
noncomputable abbrev Z1:OP:= .str "__main__" 164
noncomputable abbrev fL(x q:PZ)(i c:Nat):PF:=fO (FN x q (cp i) .none .none .none (.str "law_edgetally_k17_paper_told" 642) OI (.ref c) .none)
noncomputable def trL:a0a->a0g
 |a::b::c::l=> .int a 0:: .int b 0:: .ref c::trL l
 |_=>[]
noncomputable abbrev nT(l:a0a):PF:=nO (trL l)
noncomputable def stL:Nat->a0i->a0g
 |_,[]=>[]
 |t,x::l=> .str x t::stL (t+1) l
noncomputable abbrev tS(t:Nat)(l:a0i):PF:=tO (stL t l)
noncomputable def fD(o:PF):Py:=match o.data with
 | .func f=>f
 |_=>FN "" "" (cp 0) .none .none .none .none OI .none .none
section
variable(P:Xl)
def b0:PF:=⟨(.type "dict"),OI,(.dict #[(E P "__name__" 1 (.str "builtins" 160)),(E P "__doc__" 2 (.builtin "builtins.__doc__:str#opaque")),(E P "__package__" 3 (.builtin "builtins.__package__:str#opaque")),(E P "__loader__" 4 (.builtin "builtins.__loader__:shared#opaque")),(E P "__spec__" 5 (.builtin "builtins.__spec__#opaque")),(eB P "__build_class__" 6),(eB P "__import__" 7),(eB P "abs" 8),(eB P "all" 9),(eB P "any" 10),(eB P "ascii" 11),(eB P "bin" 12),(eB P "breakpoint" 13),(eB P "callable" 14),(eB P "chr" 15),(eB P "compile" 16),(eB P "delattr" 17),(eB P "dir" 18),(eB P "divmod" 19),(eB P "eval" 20),(eB P "exec" 21),(eB P "format" 22),(eB P "getattr" 23),(eB P "globals" 24),(eB P "hasattr" 25),(eB P "hash" 26),(eB P "hex" 27),(eB P "id" 28),(eB P "input" 29),(eB P "isinstance" 30),(eB P "issubclass" 31),(eB P "iter" 32),(eB P "aiter" 33),(eB P "len" 34),(eB P "locals" 35),(eB P "max" 36),(eB P "min" 37),(eB P "next" 38),(eB P "anext" 39),(eB P "oct" 40),(eB P "ord" 41),(eB P "pow" 42),(eB P "print" 43),(eB P "repr" 44),(eB P "round" 45),(eB P "setattr" 46),(eB P "sorted" 47),(eB P "sum" 48),(eB P "vars" 49),(E P "None" 50 .none),(E P "Ellipsis" 51 .ellipsis),(E P "NotImplemented" 52 .notImplemented),(E P "False" 53 (.bool OQ)),(E P "True" 54 (.bool OL)),(eT P "bool" 55),(eT P "memoryview" 56),(eT P "bytearray" 57),(eT P "bytes" 58),(eT P "classmethod" 59),(eT P "complex" 60),(eT P "dict" 61),(eT P "enumerate" 62),(eT P "filter" 63),(eT P "float" 64),(eT P "frozenset" 65),(eT P "property" 66),(eT P "int" 67),(eT P "list" 68),(eT P "map" 69),(eT P "object" 70),(eT P "range" 71),(eT P "reversed" 72),(eT P "set" 73),(eT P "slice" 74),(eT P "staticmethod" 75),(eT P "str" 76),(eT P "super" 77),(eT P "tuple" 78),(eT P "type" 79),(eT P "zip" 80),(E P "__debug__" 81 (.bool OL)),(eT P "BaseException" 82),(eT P "BaseExceptionGroup" 83),(eT P "Exception" 84),(eT P "GeneratorExit" 85),(eT P "KeyboardInterrupt" 86),(eT P "SystemExit" 87),(eT P "ArithmeticError" 88),(eT P "AssertionError" 89),(eT P "AttributeError" 90),(eT P "BufferError" 91),(eT P "EOFError" 92),(eT P "ImportError" 93),(eT P "LookupError" 94),(eT P "MemoryError" 95),(eT P "NameError" 96),(eT P "OSError" 97),(eT P "ReferenceError" 98),(eT P "RuntimeError" 99),(eT P "StopAsyncIteration" 100),(eT P "StopIteration" 101),(eT P "SyntaxError" 102),(eT P "SystemError" 103),(eT P "TypeError" 104),(eT P "ValueError" 105),(eT P "Warning" 106),(eT P "FloatingPointError" 107),(eT P "OverflowError" 108),(eT P "ZeroDivisionError" 109),(eT P "BytesWarning" 110),(eT P "DeprecationWarning" 111),(eT P "EncodingWarning" 112),(eT P "FutureWarning" 113),(eT P "ImportWarning" 114),(eT P "PendingDeprecationWarning" 115),(eT P "ResourceWarning" 116),(eT P "RuntimeWarning" 117),(eT P "SyntaxWarning" 118),(eT P "UnicodeWarning" 119),(eT P "UserWarning" 120),(eT P "BlockingIOError" 121),(eT P "ChildProcessError" 122),(eT P "ConnectionError" 123),(eT P "FileExistsError" 124),(eT P "FileNotFoundError" 125),(eT P "InterruptedError" 126),(eT P "IsADirectoryError" 127),(eT P "NotADirectoryError" 128),(eT P "PermissionError" 129),(eT P "ProcessLookupError" 130),(eT P "TimeoutError" 131),(eT P "IndentationError" 132),(eT P "_IncompleteInputError" 133),(eT P "IndexError" 134),(eT P "KeyError" 135),(eT P "ModuleNotFoundError" 136),(eT P "NotImplementedError" 137),(eT P "PythonFinalizationError" 138),(eT P "RecursionError" 139),(eT P "UnboundLocalError" 140),(eT P "UnicodeError" 141),(eT P "BrokenPipeError" 142),(eT P "ConnectionAbortedError" 143),(eT P "ConnectionRefusedError" 144),(eT P "ConnectionResetError" 145),(eT P "TabError" 146),(eT P "UnicodeDecodeError" 147),(eT P "UnicodeEncodeError" 148),(eT P "UnicodeTranslateError" 149),(eT P "ExceptionGroup" 150),(E P "EnvironmentError" 151 (.type "OSError")),(E P "IOError" 152 (.type "OSError")),(eB P "open" 153),(E P "quit" 154 (.builtin "builtins.quit#opaque")),(E P "exit" 155 (.builtin "builtins.exit#opaque")),(E P "copyright" 156 (.builtin "builtins.copyright#opaque")),(E P "credits" 157 (.builtin "builtins.credits#opaque")),(E P "license" 158 (.builtin "builtins.license#opaque")),(E P "help" 159 (.builtin "builtins.help#opaque"))] 159),#[]⟩
def b1:PF:=⟨(.type "dict"),OI,(.dict #[(eR P "builtins" 162 4),(eR P "__main__" 163 5)] 2),#[]⟩
noncomputable def b2:PF:=⟨.none,OI,(.dict #[] 0),#[]⟩
def mL:List RY:=[(E P "__name__" 165 (.str "law_edgetally_k17_paper_told" 642)),(E P "__doc__" 166 .none),(E P "__package__" 167 .none),(E P "__loader__" 168 (.builtin "__main__.__loader__#opaque")),(E P "__spec__" 169 .none),(eR P "__annotations__" 170 6),(eR P "__builtins__" 171 4),(E P "__file__" 173 (.str "/claim/cut.py" 172)),(E P "__cached__" 174 .none),(eR P "_wall" 193 21),(eR P "EdgeError" 223 38),(eR P "BadSums" 248 59),(eR P "BadBounds" 273 79),(eR P "TooWide" 298 98),(eR P "Barred" 325 117),(eR P "BadNumber" 350 137),(E P "MOST" 354 (.int 40 353)),(E P "MOST_ROWS" 356 (.int 4 355)),(E P "MOST_COLUMNS" 358 (.int 6 357)),(eR P "FREE" 360 140),(eR P "free" 367 146),(eR P "check_sums" 373 151),(eR P "check_pair" 382 158),(eR P "settled_bounds" 388 163),(eR P "factorial" 399 170),(eR P "ways" 408 177),(eR P "fillings" 414 182),(eR P "need_of" 422 187),(eR P "room_inside" 428 192),(eR P "room_beside" 434 197),(eR P "room_of" 440 202),(eR P "narrowest" 446 207),(eR P "choices" 452 212),(eR P "check_fit" 463 219),(E P "WIDE" 467 (.int 500 466)),(eR P "check_wide" 476 226),(eR P "settled_for_net" 486 233),(eR P "column_fillings" 492 238),(eR P "rests_behind" 498 243),(eR P "nodes_by_level" 504 248),(eR P "node_counts" 518 255),(eR P "counted_nodes" 524 260),(eR P "paper_rows" 530 265),(eR P "Net" 641 351),(eR P "_law_bag" 649 360),(eR P "_law_pull" 660 367),(eR P "_law_same" 666 372),(eR P "_law_grid" 672 377),(eR P "_law_small" 682 384),(eR P "_law_wide" 692 391),(eR P "_law_large" 702 398),(eR P "_law_turned" 708 403),(eR P "_law_rowsums" 714 408),(eR P "_law_columnsums" 720 413),(eR P "_law_free" 726 418),(eR P "_law_bounds" 740 425),(eR P "_law_copied" 746 430),(eR P "_law_fit" 752 435),(eR P "_law_less" 758 440),(eR P "_law_factorial" 767 447),(eR P "_law_ways" 776 454),(eR P "_law_net" 784 461),(eR P "_law_nodes" 790 466),(eR P "_law_counted" 796 471),(eR P "law" 809 478)]
noncomputable def b3:PF:=⟨(.type "dict"),OI,(.dict (mL P).toArray 65),#[]⟩
noncomputable def b4:PF:=⟨(.type "module"),(My 0),.plain,#[]⟩
noncomputable def b5:PF:=⟨(.type "module"),(My 3),.plain,#[]⟩
noncomputable def b6:PF:=⟨(.type "dict"),OI,(.dict #[] 0),#[]⟩
def b7:PF:=tO []
def b8:PF:=nO []
def b9:PF:=cC "<module>" "<module>" 176 1 0 0 0 0 7 OQ 175 8 .none .none .none .none 179 1 180
def b10:PF:=⟨(.type "frame"),OI,.plain,#[(My (.ref 9)),(My (.ref 3)),(My (.ref 3)),OI,(My Z1),OI,(My (.ref 0))]⟩
def b12:PF:=nT [1,0,20,5,0,27,10,0,47,14,0,67,18,0,87,23,0,106,29,0,125,38,0,145,40,0,150,51,0,157,55,0,162,65,0,169,70,0,176,78,0,181,88,0,186,90,0,191,93,0,196,95,0,201,97,0,206,99,0,211,104,0,218,111,0,225,117,0,232,122,0,237,124,0,242,126,0,247,134,0,254,142,0,259,152,0,264,154,0,271,194,0,359,196,0,366,206,0,371,218,0,376,225,0,383,236,0,390,242,0,397,253,0,402,255,0,407,257,0,412,259,0,417,261,0,424,273,0,429,275,0,434,284,0,439,286,0,446,291,0,453,296,0,460,298,0,465,307,0,470,322,0,477]
def b13:PF:=cC "<module>" "<module>" 182 1 0 0 0 0 11 OQ 181 12 .none .none .none .none 185 1 186
def b14:PF:=⟨(.type "frame"),OI,.plain,#[(My (.ref 13)),(My (.ref 3)),(My (.ref 3)),OI,(My Z1),OI,(My (.ref 0))]⟩
def b17:PF:=tS 190 ["k"]
def b19:PF:=fB "_wall" "_wall" (cp 0)
def b20:PF:=cG "_wall" 187 1 1 0 15 181 191
def b21:PF:=fM "__main__" 164 "_wall" 0 20
def b22:PF:=tO [(.type "ValueError")]
noncomputable def T1:PF:=⟨(.type "builtin_function_or_method"),OI,(.fields #[(.builtin "type.__prepare__"),(.type "type")]),#[]⟩
def b24:PF:=⟨(.type "dict"),OI,(.dict #[(E P "__module__" 203 j0),(E P "__qualname__" 205 (.str "EdgeError" 204)),(E P "__firstlineno__" 207 (.int 5 206)),(eR P "__init__" 216 35),(eR P "__static_attributes__" 218 36)] 5),#[]⟩
def b26:PF:=nT [7,4,34]
def b27:PF:=cC "EdgeError" "EdgeError" 198 5 0 0 0 0 25 OQ 181 26 .none .none .none .none 201 5 202
def b28:PF:=⟨(.type "frame"),OI,.plain,#[(My (.ref 27)),(My (.ref 3)),(My (.ref 24)),OI,(My j0),OI,(My (.ref 0))]⟩
def b31:PF:=tS 211 ["self","word","why"]
def b33:PF:=fB "__init__" "EdgeError.__init__" (aF (cp 2) 0)
def b34:PF:=cC "__init__" "EdgeError.__init__" 208 7 3 0 0 3 29 OL 181 30 .none (.ref 31) (.ref 32) (.ref 33) 214 7 215
def b35:PF:=fO (FN "__init__" "EdgeError.__init__" (aF (cp 2) 0) .none .none .none j0 OI (.ref 34) .none)
def b36:PF:=tS 217 ["word"]
def b37:PF:=⟨(.type "dict"),OI,(.dict #[(E P "__module__" 203 j0),(E P "__firstlineno__" 207 (.int 5 206)),(eR P "__init__" 216 35),(eR P "__static_attributes__" 218 36),(eR P "__weakref__" 220 39),(E P "__doc__" 221 .none)] 3),#[]⟩
noncomputable def b38:PF:=⟨(.type "type"),OI,(.cls ⟨"EdgeError",[(.type "ValueError")],[(.ref 38),(.type "ValueError"),(.type "Exception"),(.type "BaseException"),(.type "object")],37,"EdgeError",OL,[],[(.ref 59),(.ref 79),(.ref 98),(.ref 117),(.ref 137)],OQ,OI,OQ⟩),#[(My (.ref 22)),OI,(My (.str "EdgeError" 196)),(My (.str "EdgeError" 204)),(My (.builtin "ValueError.__new__")),(My (.bool OL))]⟩
noncomputable def b39:PF:=⟨(.type "getset_descriptor"),OI,(.fields #[(.str "__weakref__" 219),(.ref 38),(.builtin "ExceptionGroup.__weakref__"),.none]),#[]⟩
noncomputable def b40:PF:=⟨(.type "super"),OI,(.fields #[(.ref 38),(.ref 38),(.ref 38)]),#[]⟩
def b41:PF:=P_ 38
def ZP:PF:=tO [(.ref 38)]
def b44:PF:=⟨(.type "dict"),OI,(.dict #[(E P "__module__" 231 j0),(E P "__qualname__" 233 (.str "BadSums" 232)),(E P "__firstlineno__" 235 (.int 10 234)),(eR P "__init__" 244 56),(eR P "__static_attributes__" 245 57)] 5),#[]⟩
def b46:PF:=nT [12,4,55]
def b47:PF:=cC "BadSums" "BadSums" 226 10 0 0 0 0 45 OQ 181 46 .none .none .none .none 229 10 230
def b48:PF:=⟨(.type "frame"),OI,.plain,#[(My (.ref 47)),(My (.ref 3)),(My (.ref 44)),OI,(My j0),OI,(My (.ref 0))]⟩
def b49:PF:=tS 236 ["these sums are no table's"]
def b52:PF:=tS 240 ["self","why"]
def b54:PF:=fB "__init__" "BadSums.__init__" (aF (cp 3) 0)
def b55:PF:=cC "__init__" "BadSums.__init__" 237 12 2 0 0 3 50 OL 181 51 .none (.ref 52) (.ref 53) (.ref 54) 242 12 243
def b56:PF:=fO (FN "__init__" "BadSums.__init__" (aF (cp 3) 0) (.ref 49) .none .none j0 OI (.ref 55) .none)
def b58:PF:=⟨(.type "dict"),OI,(.dict #[(E P "__module__" 231 j0),(E P "__firstlineno__" 235 (.int 10 234)),(eR P "__init__" 244 56),(eR P "__static_attributes__" 245 57),(E P "__doc__" 246 .none)] 2),#[]⟩
def b59:PF:=ZD "BadSums" 59 58 42 224 232
noncomputable def b60:PF:=⟨(.type "super"),OI,(.fields #[(.ref 59),(.ref 59),(.ref 59)]),#[]⟩
def b61:PF:=P_ 59
def b64:PF:=⟨(.type "dict"),OI,(.dict #[(E P "__module__" 256 j0),(E P "__qualname__" 258 (.str "BadBounds" 257)),(E P "__firstlineno__" 260 (.int 14 259)),(eR P "__init__" 269 76),(eR P "__static_attributes__" 270 77)] 5),#[]⟩
def b66:PF:=nT [16,4,75]
def b67:PF:=cC "BadBounds" "BadBounds" 251 14 0 0 0 0 65 OQ 181 66 .none .none .none .none 254 14 255
def b68:PF:=⟨(.type "frame"),OI,.plain,#[(My (.ref 67)),(My (.ref 3)),(My (.ref 64)),OI,(My j0),OI,(My (.ref 0))]⟩
def b69:PF:=tS 261 ["these bounds are no table's"]
def b72:PF:=tS 265 ["self","why"]
def b74:PF:=fB "__init__" "BadBounds.__init__" (aF (cp 4) 0)
def b75:PF:=cC "__init__" "BadBounds.__init__" 262 16 2 0 0 3 70 OL 181 71 .none (.ref 72) (.ref 73) (.ref 74) 267 16 268
def b76:PF:=fO (FN "__init__" "BadBounds.__init__" (aF (cp 4) 0) (.ref 69) .none .none j0 OI (.ref 75) .none)
def b78:PF:=⟨(.type "dict"),OI,(.dict #[(E P "__module__" 256 j0),(E P "__firstlineno__" 260 (.int 14 259)),(eR P "__init__" 269 76),(eR P "__static_attributes__" 270 77),(E P "__doc__" 271 .none)] 2),#[]⟩
def b79:PF:=ZD "BadBounds" 79 78 62 249 257
noncomputable def b80:PF:=⟨(.type "super"),OI,(.fields #[(.ref 79),(.ref 79),(.ref 79)]),#[]⟩
def b81:PF:=P_ 79
def b84:PF:=⟨(.type "dict"),OI,(.dict #[(E P "__module__" 281 j0),(E P "__qualname__" 283 (.str "TooWide" 282)),(E P "__firstlineno__" 285 (.int 18 284)),(eR P "__init__" 293 95),(eR P "__static_attributes__" 295 96)] 5),#[]⟩
def b86:PF:=nT [20,4,94]
def b87:PF:=cC "TooWide" "TooWide" 276 18 0 0 0 0 85 OQ 181 86 .none .none .none .none 279 18 280
def b88:PF:=⟨(.type "frame"),OI,.plain,#[(My (.ref 87)),(My (.ref 3)),(My (.ref 84)),OI,(My j0),OI,(My (.ref 0))]⟩
def b91:PF:=tS 289 ["self","wide"]
def b93:PF:=fB "__init__" "TooWide.__init__" (aF (cp 5) 0)
def b94:PF:=cC "__init__" "TooWide.__init__" 286 20 2 0 0 3 89 OL 181 90 .none (.ref 91) (.ref 92) (.ref 93) 291 20 292
def b95:PF:=fO (FN "__init__" "TooWide.__init__" (aF (cp 5) 0) .none .none .none j0 OI (.ref 94) .none)
def b96:PF:=tS 294 ["wide"]
def b97:PF:=⟨(.type "dict"),OI,(.dict #[(E P "__module__" 281 j0),(E P "__firstlineno__" 285 (.int 18 284)),(eR P "__init__" 293 95),(eR P "__static_attributes__" 295 96),(E P "__doc__" 296 .none)] 2),#[]⟩
def b98:PF:=ZD "TooWide" 98 97 82 274 282
noncomputable def b99:PF:=⟨(.type "super"),OI,(.fields #[(.ref 98),(.ref 98),(.ref 98)]),#[]⟩
def b100:PF:=P_ 98
def b103:PF:=⟨(.type "dict"),OI,(.dict #[(E P "__module__" 306 j0),(E P "__qualname__" 308 (.str "Barred" 307)),(E P "__firstlineno__" 310 (.int 23 309)),(eR P "__init__" 319 114),(eR P "__static_attributes__" 322 115)] 5),#[]⟩
def b105:PF:=nT [25,4,113]
def b106:PF:=cC "Barred" "Barred" 301 23 0 0 0 0 104 OQ 181 105 .none .none .none .none 304 23 305
def b107:PF:=⟨(.type "frame"),OI,.plain,#[(My (.ref 106)),(My (.ref 3)),(My (.ref 103)),OI,(My j0),OI,(My (.ref 0))]⟩
def b110:PF:=tS 314 ["self","over","into"]
def b112:PF:=fB "__init__" "Barred.__init__" (aF (cp 6) 0)
def b113:PF:=cC "__init__" "Barred.__init__" 311 25 3 0 0 3 108 OL 181 109 .none (.ref 110) (.ref 111) (.ref 112) 317 25 318
def b114:PF:=fO (FN "__init__" "Barred.__init__" (aF (cp 6) 0) .none .none .none j0 OI (.ref 113) .none)
def b115:PF:=tS 320 ["into","over"]
def b116:PF:=⟨(.type "dict"),OI,(.dict #[(E P "__module__" 306 j0),(E P "__firstlineno__" 310 (.int 23 309)),(eR P "__init__" 319 114),(eR P "__static_attributes__" 322 115),(E P "__doc__" 323 .none)] 2),#[]⟩
def b117:PF:=ZD "Barred" 117 116 101 299 307
noncomputable def b118:PF:=⟨(.type "super"),OI,(.fields #[(.ref 117),(.ref 117),(.ref 117)]),#[]⟩
def b119:PF:=P_ 117
def b122:PF:=⟨(.type "dict"),OI,(.dict #[(E P "__module__" 333 j0),(E P "__qualname__" 335 (.str "BadNumber" 334)),(E P "__firstlineno__" 337 (.int 29 336)),(eR P "__init__" 346 134),(eR P "__static_attributes__" 347 135)] 5),#[]⟩
def b124:PF:=nT [31,4,133]
def b125:PF:=cC "BadNumber" "BadNumber" 328 29 0 0 0 0 123 OQ 181 124 .none .none .none .none 331 29 332
def b126:PF:=⟨(.type "frame"),OI,.plain,#[(My (.ref 125)),(My (.ref 3)),(My (.ref 122)),OI,(My j0),OI,(My (.ref 0))]⟩
def b127:PF:=tS 338 ["this number is out of its bounds"]
def b130:PF:=tS 342 ["self","why"]
def b132:PF:=fB "__init__" "BadNumber.__init__" (aF (cp 7) 0)
def b133:PF:=cC "__init__" "BadNumber.__init__" 339 31 2 0 0 3 128 OL 181 129 .none (.ref 130) (.ref 131) (.ref 132) 344 31 345
def b134:PF:=fO (FN "__init__" "BadNumber.__init__" (aF (cp 7) 0) (.ref 127) .none .none j0 OI (.ref 133) .none)
def b136:PF:=⟨(.type "dict"),OI,(.dict #[(E P "__module__" 333 j0),(E P "__firstlineno__" 337 (.int 29 336)),(eR P "__init__" 346 134),(eR P "__static_attributes__" 347 135),(E P "__doc__" 348 .none)] 2),#[]⟩
def b137:PF:=ZD "BadNumber" 137 136 120 326 334
noncomputable def b138:PF:=⟨(.type "super"),OI,(.fields #[(.ref 137),(.ref 137),(.ref 137)]),#[]⟩
def b139:PF:=P_ 137
def Nq:PF:=tO [(.int 0 359),(.int 40 353)]
def Np:PF:=⟨(.type "dict"),OI,(.dict #[(eR P "pair" 361 140)] 1),#[]⟩
def b144:PF:=fB "free" "free" (cp 13)
def No:PF:=cF "free" 362 38 2 1 142 181 365
def GW:PF:=fO (FN "free" "free" (cp 13) .none (.ref 141) .none (.str "edgetally.bounds" 351) OI (.ref 145) .none)
def b149:PF:=fB "check_sums" "check_sums" (cp 14)
def Nn:PF:=cF "check_sums" 368 40 2 0 147 181 371
def GV:PF:=fM "edgetally.bounds" 351 "check_sums" 14 150
def b154:PF:=tS 377 ["pair","low","high"]
def b156:PF:=fB "check_pair" "check_pair" (cp 15)
def Nm:PF:=cG "check_pair" 374 51 1 0 152 181 380
def GU:PF:=fM "edgetally.bounds" 351 "check_pair" 15 157
def b161:PF:=fB "settled_bounds" "settled_bounds" (cp 16)
def Nl:PF:=cF "settled_bounds" 383 55 3 0 159 181 386
def GT:PF:=fM "edgetally.bounds" 351 "settled_bounds" 16 162
def b166:PF:=tS 394 ["number","product","factor"]
def b168:PF:=fB "factorial" "factorial" (cp 18)
def Nk:PF:=cG "factorial" 391 65 1 0 164 181 397
def GS:PF:=fM "edgetally.counts" 389 "factorial" 18 169
def b173:PF:=tS 403 ["parts","part","told"]
def b175:PF:=fB "ways" "ways" (cp 19)
def Nj:PF:=cG "ways" 400 70 1 0 171 181 406
def GR:PF:=fM "edgetally.counts" 389 "ways" 19 176
def b180:PF:=fB "fillings" "fillings" (cp 20)
def Ni:PF:=cF "fillings" 409 78 3 0 178 181 412
def GQ:PF:=fM "edgetally.counts" 389 "fillings" 20 181
def b185:PF:=fB "need_of" "need_of" (cp 22)
def Nh:PF:=cF "need_of" 417 88 2 0 183 181 420
def GP:PF:=fM "edgetally.fits" 415 "need_of" 22 186
def b190:PF:=fB "room_inside" "room_inside" (cp 23)
def Ng:PF:=cF "room_inside" 423 90 4 0 188 181 426
def GO:PF:=fM "edgetally.fits" 415 "room_inside" 23 191
def b195:PF:=fB "room_beside" "room_beside" (cp 24)
def Nf:PF:=cF "room_beside" 429 93 3 0 193 181 432
def GN:PF:=fM "edgetally.fits" 415 "room_beside" 24 196
def b200:PF:=fB "room_of" "room_of" (cp 25)
def Nd:PF:=cF "room_of" 435 95 4 0 198 181 438
def GM:PF:=fM "edgetally.fits" 415 "room_of" 25 201
def b205:PF:=fB "narrowest" "narrowest" (cp 26)
def Nb:PF:=cF "narrowest" 441 97 3 0 203 181 444
def GL:PF:=fM "edgetally.fits" 415 "narrowest" 26 206
def b210:PF:=fB "choices" "choices" (cp 27)
def Na:PF:=cF "choices" 447 99 1 0 208 181 450
def GK:PF:=fM "edgetally.fits" 415 "choices" 27 211
def b215:PF:=tS 456 ["rowsums","columnsums","bounds","over","into"]
def b217:PF:=fB "check_fit" "check_fit" (cp 28)
def M9:PF:=cG "check_fit" 453 104 3 0 213 181 461
def GJ:PF:=fM "edgetally.fits" 415 "check_fit" 28 218
def b222:PF:=tS 471 ["rowsums","wide","many"]
def b224:PF:=fB "check_wide" "check_wide" (cp 31)
def M8:PF:=cG "check_wide" 468 111 1 0 220 181 474
def GI:PF:=fM "edgetally.net" 464 "check_wide" 31 225
def b229:PF:=tS 480 ["rowsums","columnsums","bounds","settled"]
def b231:PF:=fB "settled_for_net" "settled_for_net" (cp 32)
def M7:PF:=cG "settled_for_net" 477 117 3 0 227 181 484
def GH:PF:=fM "edgetally.net" 464 "settled_for_net" 32 232
def b236:PF:=fB "column_fillings" "column_fillings" (cp 33)
def M6:PF:=cF "column_fillings" 487 122 4 0 234 181 490
def GG:PF:=fM "edgetally.net" 464 "column_fillings" 33 237
def b241:PF:=fB "rests_behind" "rests_behind" (cp 34)
def M5:PF:=cF "rests_behind" 493 124 2 0 239 181 496
def GF:PF:=fM "edgetally.net" 464 "rests_behind" 34 242
def b246:PF:=fB "nodes_by_level" "nodes_by_level" (cp 35)
def M4:PF:=cF "nodes_by_level" 499 126 3 0 244 181 502
def GE:PF:=fM "edgetally.net" 464 "nodes_by_level" 35 247
def b251:PF:=tS 508 ["rests","filled","behind","tables","dealings","counts","tables_behind","dealings_behind"]
def b253:PF:=fB "node_counts" "node_counts" (cp 36)
def M3:PF:=cG "node_counts" 505 134 3 0 249 181 516
def GD:PF:=fM "edgetally.net" 464 "node_counts" 36 254
def b258:PF:=fB "counted_nodes" "counted_nodes" (cp 37)
def M2:PF:=cF "counted_nodes" 519 142 3 0 256 181 522
def GC:PF:=fM "edgetally.net" 464 "counted_nodes" 37 259
def b263:PF:=fB "paper_rows" "paper_rows" (cp 38)
def M1:PF:=cF "paper_rows" 525 152 1 0 261 181 528
def GB:PF:=fM "edgetally.net" 464 "paper_rows" 38 264
def b268:PF:=⟨(.type "dict"),OI,(.dict #[(E P "__module__" 538 ra),(E P "__qualname__" 540 (.str "Net" 539)),(E P "__firstlineno__" 542 (.int 154 541)),(eR P "__init__" 554 280),(eR P "__eq__" 562 287),(eR P "__len__" 569 294),(eR P "rowsums" 576 301),(eR P "columnsums" 583 308),(eR P "bounds" 589 313),(eR P "counts_at" 598 320),(eR P "tables" 605 327),(eR P "dealings" 612 334),(eR P "steps" 621 341),(eR P "paper" 628 348),(eR P "__static_attributes__" 633 349)] 15),#[]⟩
def b270:PF:=nT [156,4,279,164,4,286,167,4,293,170,4,300,173,4,307,176,4,312,179,4,319,182,4,326,185,4,333,188,4,340,191,4,347]
def b271:PF:=cC "Net" "Net" 533 154 0 0 0 0 269 OQ 181 270 .none .none .none .none 536 154 537
def b272:PF:=⟨(.type "frame"),OI,.plain,#[(My (.ref 271)),(My (.ref 3)),(My (.ref 268)),OI,(My ra),OI,(My (.ref 0))]⟩
def M0:PF:=⟨(.type "dict"),OI,(.dict #[(E P "bounds" 543 .none)] 1),#[]⟩
def b276:PF:=tS 547 ["self","rowsums","columnsums","bounds","settled"]
def b278:PF:=fB "__init__" "Net.__init__" (aF (cp 39) 0)
def MZ:PF:=cC "__init__" "Net.__init__" 544 156 3 0 1 3 274 OL 181 275 .none (.ref 276) (.ref 277) (.ref 278) 552 156 553
def GA:PF:=fO (FN "__init__" "Net.__init__" (aF (cp 39) 0) .none (.ref 273) .none ra OI (.ref 279) .none)
def b283:PF:=tS 558 ["self","other"]
def b285:PF:=fB "__eq__" "Net.__eq__" (aF (cp 39) 1)
def b286:PF:=cC "__eq__" "Net.__eq__" 555 164 2 0 0 3 281 OL 181 282 .none (.ref 283) (.ref 284) (.ref 285) 560 164 561
def b287:PF:=fO (FN "__eq__" "Net.__eq__" (aF (cp 39) 1) .none .none .none ra OI (.ref 286) .none)
def b290:PF:=tS 566 ["self"]
def b292:PF:=fB "__len__" "Net.__len__" (aF (cp 39) 2)
def MY:PF:=cC "__len__" "Net.__len__" 563 167 1 0 0 3 288 OL 181 289 .none (.ref 290) (.ref 291) (.ref 292) 567 167 568
def FZ:PF:=fO (FN "__len__" "Net.__len__" (aF (cp 39) 2) .none .none .none ra OI (.ref 293) .none)
def b297:PF:=tS 573 ["self"]
def b299:PF:=fB "rowsums" "Net.rowsums" (aF (cp 39) 3)
def b300:PF:=cC "rowsums" "Net.rowsums" 570 170 1 0 0 3 295 OL 181 296 .none (.ref 297) (.ref 298) (.ref 299) 574 170 575
def b301:PF:=fO (FN "rowsums" "Net.rowsums" (aF (cp 39) 3) .none .none .none ra OI (.ref 300) .none)
def b304:PF:=tS 580 ["self"]
def b306:PF:=fB "columnsums" "Net.columnsums" (aF (cp 39) 4)
def b307:PF:=cC "columnsums" "Net.columnsums" 577 173 1 0 0 3 302 OL 181 303 .none (.ref 304) (.ref 305) (.ref 306) 581 173 582
def b308:PF:=fO (FN "columnsums" "Net.columnsums" (aF (cp 39) 4) .none .none .none ra OI (.ref 307) .none)
def b311:PF:=fB "bounds" "Net.bounds" (aF (cp 39) 5)
def b312:PF:=cC "bounds" "Net.bounds" 584 176 1 0 0 3 309 OL 181 310 .none .none .none (.ref 311) 587 176 588
def b313:PF:=fO (FN "bounds" "Net.bounds" (aF (cp 39) 5) .none .none .none ra OI (.ref 312) .none)
def b316:PF:=tS 593 ["self","level","rests"]
def b318:PF:=fB "counts_at" "Net.counts_at" (aF (cp 39) 6)
def b319:PF:=cC "counts_at" "Net.counts_at" 590 179 3 0 0 3 314 OL 181 315 .none (.ref 316) (.ref 317) (.ref 318) 596 179 597
def b320:PF:=fO (FN "counts_at" "Net.counts_at" (aF (cp 39) 6) .none .none .none ra OI (.ref 319) .none)
def b323:PF:=tS 602 ["self"]
def b325:PF:=fB "tables" "Net.tables" (aF (cp 39) 7)
def b326:PF:=cC "tables" "Net.tables" 599 182 1 0 0 3 321 OL 181 322 .none (.ref 323) (.ref 324) (.ref 325) 603 182 604
def b327:PF:=fO (FN "tables" "Net.tables" (aF (cp 39) 7) .none .none .none ra OI (.ref 326) .none)
def b330:PF:=tS 609 ["self"]
def b332:PF:=fB "dealings" "Net.dealings" (aF (cp 39) 8)
def b333:PF:=cC "dealings" "Net.dealings" 606 185 1 0 0 3 328 OL 181 329 .none (.ref 330) (.ref 331) (.ref 332) 610 185 611
def b334:PF:=fO (FN "dealings" "Net.dealings" (aF (cp 39) 8) .none .none .none ra OI (.ref 333) .none)
def b337:PF:=tS 616 ["self","level","rests"]
def b339:PF:=fB "steps" "Net.steps" (aF (cp 39) 9)
def b340:PF:=cC "steps" "Net.steps" 613 188 3 0 0 3 335 OL 181 336 .none (.ref 337) (.ref 338) (.ref 339) 619 188 620
def b341:PF:=fO (FN "steps" "Net.steps" (aF (cp 39) 9) .none .none .none ra OI (.ref 340) .none)
def b344:PF:=tS 625 ["self"]
def b346:PF:=fB "paper" "Net.paper" (aF (cp 39) 10)
def MX:PF:=cC "paper" "Net.paper" 622 191 1 0 0 3 342 OL 181 343 .none (.ref 344) (.ref 345) (.ref 346) 626 191 627
def FY:PF:=fO (FN "paper" "Net.paper" (aF (cp 39) 10) .none .none .none ra OI (.ref 347) .none)
def b349:PF:=tS 629 ["column_list","counted","pairs","row_list"]
def MW:PF:=⟨(.type "dict"),OI,(.dict #[(E P "__module__" 538 ra),(E P "__firstlineno__" 542 (.int 154 541)),(eR P "__init__" 554 280),(eR P "__eq__" 562 287),(eR P "__len__" 569 294),(eR P "rowsums" 576 301),(eR P "columnsums" 583 308),(eR P "bounds" 589 313),(eR P "counts_at" 598 320),(eR P "tables" 605 327),(eR P "dealings" 612 334),(eR P "steps" 621 341),(eR P "paper" 628 348),(eR P "__static_attributes__" 633 349),(eR P "__dict__" 635 352),(eR P "__weakref__" 637 353),(E P "__doc__" 638 .none),(E P "__hash__" 639 .none)] 5),#[]⟩
noncomputable def MV:PF:=⟨(.type "type"),OI,(.cls ⟨"Net",[(.type "object")],[(.ref 351),(.type "object")],350,"Net",OL,[],[],OQ,OI,OQ⟩),#[OI,OI,(My (.str "Net" 531)),(My (.str "Net" 539)),(My (.builtin "object.__new__")),(My (.bool OL))]⟩
noncomputable def b352:PF:=⟨(.type "getset_descriptor"),OI,(.fields #[(.str "__dict__" 634),(.ref 351),(.builtin "function.__dict__"),(.builtin "function.__dict__#set")]),#[]⟩
noncomputable def b353:PF:=⟨(.type "getset_descriptor"),OI,(.fields #[(.str "__weakref__" 636),(.ref 351),(.builtin "ExceptionGroup.__weakref__"),.none]),#[]⟩
noncomputable def b354:PF:=⟨(.type "super"),OI,(.fields #[(.ref 351),(.ref 351),(.ref 351)]),#[]⟩
def b355:PF:=P_ 351
def b358:PF:=fB "_law_bag" "_law_bag" (cp 41)
def MU:PF:=cF "_law_bag" 644 194 1 0 356 181 647
def FX:PF:=fL "_law_bag" "_law_bag" 41 359
def b363:PF:=tS 653 ["_law_bag_here","_law_lot","_law_cells","_law_at","_law_cell"]
def b365:PF:=fB "_law_pull" "_law_pull" (cp 42)
def MT:PF:=cG "_law_pull" 650 196 2 0 361 181 658
def FW:PF:=fL "_law_pull" "_law_pull" 42 366
def b370:PF:=fB "_law_same" "_law_same" (cp 43)
def MS:PF:=cF "_law_same" 661 206 2 0 368 181 664
def FV:PF:=fL "_law_same" "_law_same" 43 371
def b375:PF:=fB "_law_grid" "_law_grid" (cp 44)
def MR:PF:=cF "_law_grid" 667 218 4 0 373 181 670
def FU:PF:=fL "_law_grid" "_law_grid" 44 376
def b380:PF:=tS 676 ["_law_bag_here","_law_way","_law_block","_law_columns"]
def b382:PF:=fB "_law_small" "_law_small" (cp 45)
def MQ:PF:=cG "_law_small" 673 225 1 0 378 181 680
def FT:PF:=fL "_law_small" "_law_small" 45 383
def b387:PF:=tS 686 ["_law_bag_here","_law_grid_here","_law_lot","_law_first"]
def b389:PF:=fB "_law_wide" "_law_wide" (cp 46)
def MP:PF:=cG "_law_wide" 683 236 1 0 385 181 690
def FS:PF:=fL "_law_wide" "_law_wide" 46 390
def b394:PF:=tS 696 ["_law_bag_here","_law_way","_law_block","_law_columns"]
def b396:PF:=fB "_law_large" "_law_large" (cp 47)
def MO:PF:=cG "_law_large" 693 242 1 0 392 181 700
def FR:PF:=fL "_law_large" "_law_large" 47 397
def b401:PF:=fB "_law_turned" "_law_turned" (cp 48)
def MN:PF:=cF "_law_turned" 703 253 1 0 399 181 706
def FQ:PF:=fL "_law_turned" "_law_turned" 48 402
def b406:PF:=fB "_law_rowsums" "_law_rowsums" (cp 49)
def MM:PF:=cF "_law_rowsums" 709 255 1 0 404 181 712
def FP:PF:=fL "_law_rowsums" "_law_rowsums" 49 407
def b411:PF:=fB "_law_columnsums" "_law_columnsums" (cp 50)
def MK:PF:=cF "_law_columnsums" 715 257 1 0 409 181 718
def FO:PF:=fL "_law_columnsums" "_law_columnsums" 50 412
def b416:PF:=fB "_law_free" "_law_free" (cp 51)
def MJ:PF:=cF "_law_free" 721 259 2 0 414 181 724
def FM:PF:=fL "_law_free" "_law_free" 51 417
def b421:PF:=tS 730 ["_law_bag_here","_law_grid_here","_law_told","_law_at","_law_row","_law_to","_law_count","_law_way"]
def b423:PF:=fB "_law_bounds" "_law_bounds" (cp 52)
def MI:PF:=cG "_law_bounds" 727 261 2 0 419 181 738
def FK:PF:=fL "_law_bounds" "_law_bounds" 52 424
def b428:PF:=fB "_law_copied" "_law_copied" (cp 53)
def MH:PF:=cF "_law_copied" 741 273 1 0 426 181 744
def FJ:PF:=fL "_law_copied" "_law_copied" 53 429
def b433:PF:=fB "_law_fit" "_law_fit" (cp 54)
def MG:PF:=cF "_law_fit" 747 275 3 0 431 181 750
def FI:PF:=fL "_law_fit" "_law_fit" 54 434
def b438:PF:=fB "_law_less" "_law_less" (cp 55)
def MF:PF:=cF "_law_less" 753 284 2 0 436 181 756
def FH:PF:=fL "_law_less" "_law_less" 55 439
def b443:PF:=tS 762 ["_law_lot","_law_found","_law_k"]
def b445:PF:=fB "_law_factorial" "_law_factorial" (cp 56)
def ME:PF:=cG "_law_factorial" 759 286 1 0 441 181 765
def FG:PF:=fL "_law_factorial" "_law_factorial" 56 446
def b450:PF:=tS 771 ["_law_parts","_law_under","_law_part"]
def b452:PF:=fB "_law_ways" "_law_ways" (cp 57)
def MD:PF:=cG "_law_ways" 768 291 1 0 448 181 774
def FF:PF:=fL "_law_ways" "_law_ways" 57 453
def b457:PF:=tS 780 ["_law_grid_here","_law_limits"]
def b459:PF:=fB "_law_net" "_law_net" (cp 58)
def MC:PF:=cG "_law_net" 777 296 2 0 455 181 782
def FE:PF:=fL "_law_net" "_law_net" 58 460
def b464:PF:=fB "_law_nodes" "_law_nodes" (cp 59)
def MB:PF:=cF "_law_nodes" 785 298 3 0 462 181 788
def FC:PF:=fL "_law_nodes" "_law_nodes" 59 465
def b469:PF:=fB "_law_counted" "_law_counted" (cp 60)
def MA:PF:=cF "_law_counted" 791 307 3 0 467 181 794
def FA:PF:=fL "_law_counted" "_law_counted" 60 470
def b474:PF:=tS 800 ["_law_script","_law_bag_here","_law_grid_here","_law_limits","_law_net_here","_law_due","_law_told"]
def b476:PF:=fB "law" "law" (cp 61)
def Mz:PF:=cG "law" 797 322 1 0 472 181 807
def EZ:PF:=fL "law" "law" 61 477
def h0_3:PF:=⟨(.type "dict"),OI,(.dict (((mL P).take 9).set 0 (E P "__name__" 165 Z1)).toArray 9),#[]⟩
def Ov:PF:=nO []
def h1_3:PF:=⟨(.type "dict"),OI,(.dict (((mL P).take 9).set 0 (E P "__name__" 165 Z1)).toArray 9),#[]⟩
def On:PF:=nT [1,0,20,5,0,27,10,0,47,14,0,67,18,0,87]
def k1_3:PF:=⟨(.type "dict"),OI,(.dict (((mL P).take 14).set 0 (E P "__name__" 165 j0)).toArray 14),#[]⟩
noncomputable def Om:PF:=⟨(.type "type"),OI,(.cls ⟨"EdgeError",[(.type "ValueError")],[(.ref 38),(.type "ValueError"),(.type "Exception"),(.type "BaseException"),(.type "object")],37,"EdgeError",OL,[],[(.ref 59),(.ref 79),(.ref 98)],OQ,OI,OQ⟩),#[(My (.ref 22)),OI,(My (.str "EdgeError" 196)),(My (.str "EdgeError" 204)),(My (.builtin "ValueError.__new__")),(My (.bool OL))]⟩
def Ol:PF:=nT [1,0,20,5,0,27,10,0,47,14,0,67,18,0,87,23,0,106,29,0,125,38,0,145,40,0,150,51,0,157,55,0,162,65,0,169,70,0,176,78,0,181,88,0,186,90,0,191,93,0,196,95,0,201,97,0,206,99,0,211,104,0,218]
def k2_3:PF:=⟨(.type "dict"),OI,(.dict (((mL P).take 35).set 0 (E P "__name__" 165 ra)).toArray 35),#[]⟩
def Oj:PF:=nT [1,0,20,5,0,27,10,0,47,14,0,67,18,0,87,23,0,106,29,0,125,38,0,145,40,0,150,51,0,157,55,0,162,65,0,169,70,0,176,78,0,181,88,0,186,90,0,191,93,0,196,95,0,201,97,0,206,99,0,211,104,0,218,111,0,225,117,0,232,122,0,237,124,0,242,126,0,247,134,0,254,142,0,259,152,0,264,154,0,271,194,0,359,196,0,366,206,0,371,218,0,376,225,0,383,236,0,390,242,0,397]
noncomputable def k3_3:PF:=⟨(.type "dict"),OI,(.dict ((mL P).take 51).toArray 51),#[]⟩
def kL:List PF:=[b0 P,b1 P,b2,b3 P,b4,b5,b6,b7,b8,b9,b10,b7,b12,b13,b14,b7,b8,b17,b7,b19,b20,b21,b22,T1,b24 P,b7,b26,b27,b28,b7,b8,b31,b7,b33,b34,b35,b36,b37 P,b38,b39,b40,b41,ZP,T1,b44 P,b7,b46,b47,b48,b49,b7,b8,b52,b7,b54,b55,b56,b7,b58 P,b59,b60,b61,ZP,T1,b64 P,b7,b66,b67,b68,b69,b7,b8,b72,b7,b74,b75,b76,b7,b78 P,b79,b80,b81,ZP,T1,b84 P,b7,b86,b87,b88,b7,b8,b91,b7,b93,b94,b95,b96,b97 P,b98,b99,b100,ZP,T1,b103 P,b7,b105,b106,b107,b7,b8,b110,b7,b112,b113,b114,b115,b116 P,b117,b118,b119,ZP,T1,b122 P,b7,b124,b125,b126,b127,b7,b8,b130,b7,b132,b133,b134,b7,b136 P,b137,b138,b139,Nq,Np P,b7,b8,b144,No,GW,b7,b8,b149,Nn,GV,b7,b8,b154,b7,b156,Nm,GU,b7,b8,b161,Nl,GT,b7,b8,b166,b7,b168,Nk,GS,b7,b8,b173,b7,b175,Nj,GR,b7,b8,b180,Ni,GQ,b7,b8,b185,Nh,GP,b7,b8,b190,Ng,GO,b7,b8,b195,Nf,GN,b7,b8,b200,Nd,GM,b7,b8,b205,Nb,GL,b7,b8,b210,Na,GK,b7,b8,b215,b7,b217,M9,GJ,b7,b8,b222,b7,b224,M8,GI,b7,b8,b229,b7,b231,M7,GH,b7,b8,b236,M6,GG,b7,b8,b241,M5,GF,b7,b8,b246,M4,GE,b7,b8,b251,b7,b253,M3,GD,b7,b8,b258,M2,GC,b7,b8,b263,M1,GB,b7,T1,b268 P,b7,b270,b271,b272,M0 P,b7,b8,b276,b7,b278,MZ,GA,b7,b8,b283,b7,b285,b286,b287,b7,b8,b290,b7,b292,MY,FZ,b7,b8,b297,b7,b299,b300,b301,b7,b8,b304,b7,b306,b307,b308,b7,b8,b311,b312,b313,b7,b8,b316,b7,b318,b319,b320,b7,b8,b323,b7,b325,b326,b327,b7,b8,b330,b7,b332,b333,b334,b7,b8,b337,b7,b339,b340,b341,b7,b8,b344,b7,b346,MX,FY,b349,MW P,MV,b352,b353,b354,b355,b7,b8,b358,MU,FX,b7,b8,b363,b7,b365,MT,FW,b7,b8,b370,MS,FV,b7,b8,b375,MR,FU,b7,b8,b380,b7,b382,MQ,FT,b7,b8,b387,b7,b389,MP,FS,b7,b8,b394,b7,b396,MO,FR,b7,b8,b401,MN,FQ,b7,b8,b406,MM,FP,b7,b8,b411,MK,FO,b7,b8,b416,MJ,FM,b7,b8,b421,b7,b423,MI,FK,b7,b8,b428,MH,FJ,b7,b8,b433,MG,FI,b7,b8,b438,MF,FH,b7,b8,b443,b7,b445,ME,FG,b7,b8,b450,b7,b452,MD,FF,b7,b8,b457,b7,b459,MC,FE,b7,b8,b464,MB,FC,b7,b8,b469,MA,FA,b7,b8,b474,b7,b476,Mz,EZ]
def Q_:Qt:=⟨⟨((kL P).take 11).set 3 (h0_3 P)⟩,{}⟩
def h1H:Qt:=⟨⟨(((kL P).take 15).set 3 (h1_3 P)).set 12 (Ov)⟩,{}⟩
def k1H:Qt:=⟨⟨((((kL P).take 101).set 3 (k1_3 P)).set 12 (On)).set 38 (Om)⟩,{}⟩
def k2H:Qt:=⟨⟨(((kL P).take 220).set 3 (k2_3 P)).set 12 (Ol)⟩,{}⟩
def k3H:Qt:=⟨⟨(((kL P).take 399).set 3 (k3_3 P)).set 12 (Oj)⟩,{}⟩
noncomputable def ZK:Qt:=⟨⟨kL P⟩,{}⟩
end
def KH:Xl->Pl:=λP=>
[(2,b2),(3,b3 P),(34,b34),(35,b35),(37,b37 P),(38,b38),(140,Nq),(141,Np P),(145,No),(146,GW),(150,Nn),(151,GV),(157,Nm),(158,GU),(162,Nl),(163,GT),(169,Nk),(170,GS),(176,Nj),(177,GR),(181,Ni),(182,GQ),(186,Nh),(187,GP),(191,Ng),(192,GO),(196,Nf),(197,GN),(201,Nd),(202,GM),(206,Nb),(207,GL),(211,Na),(212,GK),(218,M9),(219,GJ),(225,M8),(226,GI),(232,M7),(233,GH),(237,M6),(238,GG),(242,M5),(243,GF),(247,M4),(248,GE),(254,M3),(255,GD),(259,M2),(260,GC),(264,M1),(265,GB),(273,M0 P),(279,MZ),(280,GA),(293,MY),(294,FZ),(347,MX),(348,FY),(350,MW P),(351,MV),(359,MU),(360,FX),(366,MT),(367,FW),(371,MS),(372,FV),(376,MR),(377,FU),(383,MQ),(384,FT),(390,MP),(391,FS),(397,MO),(398,FR),(402,MN),(403,FQ),(407,MM),(408,FP),(412,MK),(413,FO),(417,MJ),(418,FM),(424,MI),(425,FK),(429,MH),(430,FJ),(434,MG),(435,FI),(439,MF),(440,FH),(446,ME),(447,FG),(453,MD),(454,FF),(460,MC),(461,FE),(465,MB),(466,FC),(470,MA),(471,FA),(477,Mz),(478,EZ)]
noncomputable def aH:a0q:=[2,3,34,35,37,38,140,141,145,146,150,151,157,158,162,163,169,170,176,177,181,182,186,187,191,192,196,197,201,202,206,207,211,212,218,219,225,226,232,233,237,238,242,243,247,248,254,255,259,260,264,265,273,279,280,293,294,347,348,350,351,359,360,366,367,371,372,376,377,383,384,390,391,397,398,402,403,407,408,412,413,417,418,424,425,429,430,434,435,439,440,446,447,453,454,460,461,465,466,470,471,477,478]
theorem eH:∀P,aH=(KH P).map (·.1):=λ_=>by kernel_rfl
noncomputable def qH:PM:={PySem.Challenge.pw_edgetally_k17_paper_told with main:={PySem.Challenge.pw_edgetally_k17_paper_told.main with body:=[cp 0,cp 2,cp 3,cp 4,cp 5,cp 6,cp 7,cp 9,cp 10,cp 11,cp 12,cp 14,cp 15,cp 16,cp 18,cp 19,cp 20,cp 22,cp 23,cp 24,cp 25,cp 26,cp 27,cp 28,cp 30,cp 31,cp 32,cp 33,cp 34,cp 35,cp 36,cp 37,cp 38,cp 39,cp 41,cp 42,cp 43,cp 44,cp 45,cp 46,cp 47,cp 48,cp 49,cp 50,cp 51,cp 52,cp 53,cp 54,cp 55,cp 56,cp 57,cp 58,cp 59,cp 60,cp 61]}}
noncomputable abbrev lvH:List (PZ×PySem.W.WData):=[("FREE",PySem.W.WData.tuple [Xd 0,Xd 40])]
noncomputable abbrev loH:a0i:=["BadSums","BadBounds","BadNumber","FREE","free","Net"]
abbrev hkH:=PySem.W.kHook KH aH eH
def xtH(s:OV):Bool:=PySem.W.xlAt qH lvH s&&PySem.W.recOk (PySem.W.RowW.records (RJ (R7 P8))) s
noncomputable abbrev pH:PM:=Xm (RJ (R7 P8))
noncomputable def L4:a0R:=PySem.W.behindTheImports pH
noncomputable def R_:WL:={scope:=pH.main.scope,locals:=mainNs,globals:=mainNs,cells:=[],code:=(.ref 13),frame:=(My 14)}
def cH:Code:= .body L4 R_
noncomputable abbrev M_:List Frame:=[PySem.W.topFrame ⟨0,0,0,0⟩]
theorem opH(w:P0):(PySem.W.fencedOpening Rv pH w 6842).map (λs=>(s.heap,s.gens,s.drawn,s.toks))=My (Q_ w.params,#[],{},181):=by kernel_rfl
theorem szH(w:P0):((Q_ w.params).isNs RG&&(#[]:Array GenState).size==0,(Q_ w.params).objs.size,(Q_ w.params).nsMap RG "__annotations__")=(OL,11,(My (.ref 6))):=by kernel_rfl
theorem r1H(w:P0)(D:VX):PySem.W.topGo Rv pH w 11 (My (.ref 6)) 12 ⟨Q_ w.params,#[],{},181,D⟩ (Y2 pH)=My (⟨h1H w.params,#[],{},187,D⟩,⟨denote Rv (.body L4 R_),cH,⟨0,0,0,0⟩,M_⟩):=by kernel_rfl
theorem r2H(w:P0)(D:VX):UG Rv pH w 11 (My (.ref 6)) 1 1 ⟨h1H w.params,#[],{},187,D⟩ (PySem.W.blockOf L4 R_ cH ⟨0,0,0,0⟩ M_)=My (.next,⟨h1H w.params,#[],{},187,D⟩,cH,⟨0,0,0,0⟩):=by kernel_rfl
theorem c1H(w:P0)(D:VX):UG Rv pH w 11 (My (.ref 6)) 1 995 ⟨h1H w.params,#[],{},187,D⟩ (Vj (L4.take 6) R_ cH ⟨0,0,0,0⟩ M_)=My (.next,⟨k1H w.params,#[],{},299,D⟩,cH,⟨18,0,22,24⟩):=by kernel_rfl
theorem c2H(w:P0)(D:VX):UG Rv pH w 11 (My (.ref 6)) 1 972 ⟨k1H w.params,#[],{},299,D⟩ (Vj ((L4.drop 6).take 25) R_ cH ⟨18,0,22,24⟩ M_)=My (.next,⟨k2H w.params,#[],{},468,D⟩,cH,⟨110,0,110,4⟩):=by kernel_rfl
theorem c3H(w:P0)(D:VX):UG Rv pH w 11 (My (.ref 6)) 1 997 ⟨k2H w.params,#[],{},468,D⟩ (Vj (((L4.drop 6).drop 25).take 17) R_ cH ⟨110,0,110,4⟩ M_)=My (.next,⟨k3H w.params,#[],{},703,D⟩,cH,⟨242,0,252,91⟩):=by kernel_rfl
theorem c4H(w:P0)(D:VX):UG Rv pH w 11 (My (.ref 6)) 1 398 ⟨k3H w.params,#[],{},703,D⟩ (Vj ((((L4.drop 6).drop 25).drop 17).take 14) R_ cH ⟨242,0,252,91⟩ M_)=My (.next,⟨ZK w.params,#[],{},810,D⟩,cH,⟨322,0,335,79⟩):=by kernel_rfl
theorem e0H:((((L4.drop 6).drop 25).drop 17).drop 14)=[]:=by kernel_rfl
theorem r9H(w:P0)(D:VX):Zm Rv pH w 11 (My (.ref 6)) 2 ⟨ZK w.params,#[],{},810,D⟩ ⟨PySem.W.doneF .next,cH,⟨322,0,335,79⟩,M_⟩=My ⟨ZK w.params,#[],{},810,D⟩:=by kernel_rfl
theorem rnH(w:P0)(D:VX):Zm Rv pH w 11 (My (.ref 6)) (12+(1+(995+(972+(997+(398+2)))))) ⟨Q_ w.params,#[],{},181,D⟩ (Y2 pH)=My ⟨ZK w.params,#[],{},810,D⟩:=PySem.W.go_top (r1H w D) (PySem.W.piece_block (r2H w D) (j7 6 (c1H w D) (j7 25 (c2H w D) (j7 17 (c3H w D) (j7 14 (c4H w D) (EG e0H (r9H w D)))))))
theorem hlH:PySem.W.LeftO pH qH loH xtH (PySem.W.Hook.obs hkH) (PySem.W.Hook.val hkH) 6842:=PySem.W.LeftO.of_pieces (H₀:=Q_) (H₁:=ZK) opH szH rnH (by decide +kernel) λw=>by kernel_rfl
theorem wsH:PySem.W.OpenLaw.wellSaid P8=OL:=by decide +kernel
theorem okH:(PySem.W.chainsOk qH&&PySem.W.opensWell (Xm (RJ (R7 P8)))&&(PySem.W.frees (RJ (R7 P8))&&(PySem.W.RowW.within (RJ (R7 P8))).isEmpty))=OL:=by decide +kernel
abbrev adH:Ad:={Aa:=38,Ab:=35,Ac:=fD b35,Ae:=351,Af:=146,Ag:=fD GW,Ah:=151,Ai:=fD GV,Aj:=158,Ak:=fD GU,Al:=163,Am:=fD GT,An:=170,Ao:=fD GS,Aq:=177,Ar:=fD GR,As:=182,At:=fD GQ,Au:=187,Av:=fD GP,Aw:=192,Ax:=fD GO,Ay:=197,Az:=fD GN,A0:=202,A1:=fD GM,A2:=207,A3:=fD GL,A4:=212,A5:=fD GK,A6:=219,A7:=fD GJ,A8:=226,A9:=fD GI,Ba:=233,Bb:=fD GH,Bc:=238,Bd:=fD GG,Be:=243,Bf:=fD GF,Bh:=248,Bi:=fD GE,Bj:=255,Bk:=fD GD,Bl:=260,Bm:=fD GC,Bn:=265,Bo:=fD GB,Bp:=360,Bq:=fD FX,Br:=367,Bs:=fD FW,Bt:=372,Bu:=fD FV,Bv:=377,Bw:=fD FU,Bx:=384,By:=fD FT,Bz:=391,B0:=fD FS,B4:=398,B5:=fD FR,B7:=403,B8:=fD FQ,Ca:=408,Cb:=fD FP,Cc:=413,Cd:=fD FO,Cf:=418,Cg:=fD FM,Ch:=425,Ci:=fD FK,Cj:=430,Ck:=fD FJ,Cl:=435,Cn:=fD FI,Co:=440,Cp:=fD FH,Cq:=447,Cr:=fD FG,Cs:=454,Ct:=fD FF,Cu:=461,Cv:=fD FE,Cw:=466,Cy:=fD FC,Cz:=471,C0:=fD FA,C2:=280,C3:=fD GA,C4:=348,C5:=fD FY,C6:=294,C7:=fD FZ,C8:=478,C9:=fD EZ}
section
variable{P:Xl}{h:Qt}{l:a0j}
theorem fH{x q:PZ}{s:QH}{f:OM}{a b d w h D:OP}{e:a0Q}(l:(KH P).lookup f=My (fO (FN x q s a b d w e h D)):=by kernel_rfl)(c:UF (KH P) h q=OL:=by kernel_rfl)(k:U8 (KH P) (.ref f)=OL:=by kernel_rfl):c_ (KH P) x q s f (FN x q s a b d w e h D):=Kf l c k
theorem mO(X:(KH P).In h)(G:h.Ns RG l){n:PZ}{v:OP}(e:PySem.W.nsIn (KH P) RG n=My (My v):=by kernel_rfl):l n=My v:=mg_of X G e
theorem mN(X:(KH P).In h)(G:h.Ns RG l){n:PZ}(e:PySem.W.nsIn (KH P) RG n=My OI:=by kernel_rfl):l n=OI:=PySem.W.mg_none_of X G e
theorem nH(X:(KH P).In h)(G:h.Ns RG l):o_ (KH P) l adH where
 Da:=mN X G
 Db:=mN X G
 Dc:=mN X G
 Dd:=mN X G
 De:=mN X G
 Df:=mN X G
 Dg:=mN X G
 Dh:=mN X G
 Di:=mN X G
 Dj:=mN X G
 Dl:=mN X G
 Dm:=mN X G
 Do:=mN X G
 Dp:=mN X G
 Dq:=mN X G
 Dr:=mN X G
 Dt:=mN X G
 Du:=mN X G
 Dv:=pp (u:=(.int 40 353)) (mO X G) lQ
 Dw:=pp (u:=(.int 6 357)) (mO X G) lQ
 Dx:=pp (u:=(.int 4 355)) (mO X G) lQ
 Dy:=pp (u:=(.int 500 466)) (mO X G) lQ
 Dz:=fH
 D0:=mO X G
 D3:=Mv (us:=[(.ref 140)]) 2 rfl (λs us a b=>by obtain⟨c,d,rfl⟩:=lU2 b;exact PySem.W.kp_binds a λS=>by kernel_rfl) (Kk (Ji (p:=140) (q1:=(.type "tuple")) (q2:=OI) (q3:=#[(.int 0 359),(.int 40 353)]) (q4:=0) (q5:=#[]) (by kernel_rfl) rfl (by decide) (by repeat (first|exact trivial|refine⟨rfl,?_⟩))) Mr)
 D4:=fH
 D5:=mO X G
 D6:= .all (F_ λ_ _=>rfl)
 D7:=fH
 D8:=mO X G
 D9:= .all (oa λ_=>rfl)
 Ea:=fH
 Eb:=mO X G
 Ec:= .all (t_ λ_ _ _=>rfl)
 Ed:=fH
 Ee:=mO X G
 Ef:= .all (oa λ_=>rfl)
 Eg:=fH
 Eh:=mO X G
 Ei:= .all (oa λ_=>rfl)
 Ej:=fH
 Ek:=mO X G
 El:= .all (t_ λ_ _ _=>rfl)
 Em:=fH
 En:=mO X G
 Eo:= .all (F_ λ_ _=>rfl)
 Ep:=fH
 Er:=mO X G
 Es:= .all (bA4 λ_ _ _ _=>rfl)
 Et:=fH
 Eu:=mO X G
 Ev:= .all (t_ λ_ _ _=>rfl)
 Ew:=fH
 Ex:=mO X G
 Ey:= .all (bA4 λ_ _ _ _=>rfl)
 Ez:=fH
 E2:=mO X G
 E3:= .all (t_ λ_ _ _=>rfl)
 E4:=fH
 E5:=mO X G
 E6:= .all (oa λ_=>rfl)
 E7:=fH
 E8:=mO X G
 E9:= .all (t_ λ_ _ _=>rfl)
 Fa:=fH
 Fb:=mO X G
 Fc:= .all (oa λ_=>rfl)
 Fd:=fH
 Fe:=mO X G
 Ff:= .all (t_ λ_ _ _=>rfl)
 Fg:=fH
 Fh:=mO X G
 Fi:= .all (bA4 λ_ _ _ _=>rfl)
 Fj:=fH
 Fk:=mO X G
 Fl:= .all (F_ λ_ _=>rfl)
 Fm:=fH
 Fn:=mO X G
 Fo:= .all (t_ λ_ _ _=>rfl)
 Fp:=fH
 Fq:=mO X G
 Fs:= .all (t_ λ_ _ _=>rfl)
 Ft:=fH
 Fu:=mO X G
 Fv:= .all (t_ λ_ _ _=>rfl)
 Fw:=fH
 Fy:=mO X G
 Fz:= .all (oa λ_=>rfl)
 F4:=fH
 F5:=mO X G
 F6:= .all (oa λ_=>rfl)
 F7:=fH
 F8:=mO X G
 F9:= .all (F_ λ_ _=>rfl)
 Ga:=fH
 Gb:=mO X G
 Gc:= .all (F_ λ_ _=>rfl)
 Gd:=fH
 Ge:=mO X G
 Gf:= .all (bA4 λ_ _ _ _=>rfl)
 Gg:=fH
 Gi:=mO X G
 Gj:= .all (oa λ_=>rfl)
 Gk:=fH
 Gm:=mO X G
 Gn:= .all (oa λ_=>rfl)
 Gp:=fH
 Gq:=mO X G
 Gr:= .all (oa λ_=>rfl)
 Gs:=fH
 Gu:=mO X G
 Gv:= .all (oa λ_=>rfl)
 Gx:=fH
 Gy:=mO X G
 Gz:= .all (oa λ_=>rfl)
 G0:=fH
 G1:=mO X G
 G2:= .all (oa λ_=>rfl)
 G3:=fH
 G4:=mO X G
 G5:= .all (F_ λ_ _=>rfl)
 G6:=fH
 G7:=mO X G
 G8:= .all (F_ λ_ _=>rfl)
 G9:=fH
 Ha:=mO X G
 Hc:= .all (oa λ_=>rfl)
 Hd:=fH
 He:=mO X G
 Hf:= .all (t_ λ_ _ _=>rfl)
 Hg:=fH
 Hh:=mO X G
 Hi:= .all (F_ λ_ _=>rfl)
 Hj:=fH
 Hk:=mO X G
 Hl:= .all (oa λ_=>rfl)
 Hm:=fH
 Hn:=mO X G
 Ho:= .all (oa λ_=>rfl)
 Hq:=fH
 Hr:=mO X G
 Ht:= .all (F_ λ_ _=>rfl)
 Hu:=fH
 Hv:=mO X G
 Hw:= .all (t_ λ_ _ _=>rfl)
 Hx:=fH
 Hy:=mO X G
 Hz:= .all (t_ λ_ _ _=>rfl)
 Ia:=fH
 Ib:=⟨by kernel_rfl,by kernel_rfl,by kernel_rfl,by kernel_rfl⟩
 Id:=Oi (sv:=[.kw 0]) (.kw .nil) rfl (by decide) λs us g a e f=>by obtain⟨c,d,i,rfl⟩:=lU3 e;obtain⟨j,rfl⟩:=lU1 f;exact .of_eq rfl
 Ie:=fH
 Ig:=⟨by kernel_rfl,by kernel_rfl,by kernel_rfl⟩
 Ih:= .all (oa λ_=>rfl)
 Ii:=fH
 Ij:=⟨by kernel_rfl,by kernel_rfl,by kernel_rfl⟩
 Ik:= .all (oa λ_=>rfl)
 Il:=⟨by kernel_rfl,by kernel_rfl,by kernel_rfl,by kernel_rfl⟩
 Im:=mO X G
 Io:=show T9 (KH P) _ _=_ by kernel_rfl
 Ip:=show T9 (KH P) _ _=_ by kernel_rfl
 Iq:=show T9 (KH P) _ _=_ by kernel_rfl
 Ir:=show T9 (KH P) _ _=_ by kernel_rfl
 Iu:=fH
 Iw:= .all (t_ λ_ _ _=>rfl)
 Ix:=mO X G
 Iy:=⟨by kernel_rfl,by kernel_rfl,by kernel_rfl,by kernel_rfl⟩
theorem wlkH:PySem.W.WalkO qH loH (PySem.W.XL qH lvH) (PySem.W.Hook.says hkH) (RJ (R7 P8)) (Option.get (PySem.W.defOf qH "law") rfl).1 [] (λf D=>YN f D):=
 L2.walk_of (n:=63) (k:=9) (x:="_law_script") (CX:=λw=>fx _ w) (sp:=λw=>HV (KH w.params)) rfl (by decide) rfl ⟨rfl,by decide,by decide,rfl⟩ (λw h Y=>PySem.W.kIn_of Y) (λw l i h c G b=>by
  have e:=b.symm.trans (mg_of c G (v:= .ref 478) (by kernel_rfl));cases e;exact⟨FN "law" "law" (cp 61) .none .none .none (.str "law_edgetally_k17_paper_told" 642) OI (.ref 477) .none,λs v=> .of_eq rfl,λbase _ _=>LD _ _ _ (a:=adH) (fH (by kernel_rfl) (by kernel_rfl) (by kernel_rfl)) (nH c G) λE M=>DP (K:=KH w.params) (a:=adH)  E M⟩) (λ_ _ a P d _ g=>⟨a,P,rfl,g,d,λ_=>rfl⟩) λ_ _ _ _ _ h=>by obtain⟨x,C,j,_,fl⟩:=h;obtain⟨_,_,z⟩:=fl.wish;all_goals exact z
end
end Law
open PySem.W
set_option maxHeartbeats 0 in
theorem PySem.Challenge.cw_edgetally_k17_paper_told_holds : PySem.Challenge.rw_edgetally_k17_paper_told.Holds := by
 w_on
 refine holds_law Law.wsH λsaid=>?_;refine holds_open (q:=Law.qH) (loose:=Law.loH) (Xt:=Law.xtH) (XP:=XL Law.qH Law.lvH) (Yf:=Hook.obs Law.hkH) (Ya:=Hook.val Law.hkH) (YP:=Hook.says Law.hkH) (N:=6842) Law.hlH (Hook.of Law.hkH) (Hook.keeps Law.hkH) (λs e=>xl_of s (Yl.mp e).1) XL.keeps (by rfl) (by rfl) (by rfl) (λs e=>recFacts_of (Yl.mp e).2) (by rfl) said Law.okH ⟨rfl,rfl,rfl,rfl,rfl,by decide +kernel⟩ ?hw ?hc
 case hw=>w_witness2
 exact Law.wlkH
