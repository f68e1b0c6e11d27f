import PyProof.Rows.All
import Wide.All
import OpenK.AllK
import Wide.FinOn
import Lean
import PyProof.EqAt
import PyProof.EqKinds
import PyProof.TupleCall
import PyProof.NsDelKeeps
import PyProof.ListRange
import PyProof.ExcArgsOwn
import PySem.Challenge.RW_edgetally_k18_counts_and_steps
set_option Elab.async false
set_option linter.all false
set_option genSizeOf false
set_option compiler.extract_closed false
set_option bootstrap.genMatcherCode false
set_option maxHeartbeats 8000000
set_option maxRecDepth 100000
noncomputable section
open And renaming intro->WE
open Array renaming length_toList->Pb,getElem?_eq_some_iff->Pw,getElem?_eq_none->Q6,getElem_toList->Rl,getD->Rt,getElem?_toList->RT,getElem?_eq_getElem->Sb,forIn_toList->Sy,getElem?_extract->Ww,getElem?_push->Xd,append_assoc->Xm,size_extract->Xn,toList_push->XI
open Bool renaming true->On,false->Os,false_ne_true->OE,false_eq_true->OT,and_eq_true->O9,not_true->Ra,true_and->S5,eq_iff_iff->Ti,false_and->TF,and_self->Ue,not_false->UN,and_eq_true_iff->Xe
open Classical renaming byContradiction->R3
open Except renaming ok->Q0
open False renaming elim->Rf
open ForInStep renaming yield->Ug
open Function renaming comp->TK
open Int renaming toNat_natCast->P0,zero_add->SQ,emod_nonneg->Tk,emod_lt_of_pos->TU,fdiv_eq_ediv_of_nonneg->TV,natCast_add->UI,natAbs_natCast->Ve,le_refl->Xr
open List renaming length_map->Oh,getD_eq_getElem?_getD->Om,getElem?_eq_getElem->Oo,mem_cons_of_mem->Op,getElem?_map->Ou,mem_cons_self->Ox,map_map->Oy,range->Oz,mem_map->OC,getElem?_eq_some_iff->OF,map_cons->OG,mem_cons->OK,length_append->ON,length_cons->OO,mem_of_getElem?->OQ,size_toArray->OR,mem_range->OV,length_range->OW,replicate->OY,map_congr_left->O1,sum_cons->O3,mem_singleton->O6,map_append->Pd,append_nil->Pf,length_set->Pl,getElem?_set->Pp,getElem_mem->Pq,mem_append_right->Ps,nodup_cons->Pt,getElem?_range->Py,length_singleton->PH,flatMap_cons->PL,map->PQ,mem_flatMap->PX,append_assoc->PY,drop_eq_getElem_cons->P9,mem_append->Qb,not_mem_nil->Qc,length_take->Qg,take_length->Qj,sum->Qq,filterMap_cons->Qr,replicate_succ->Qs,length_replicate->Qw,ext_getElem->QC,getElem?_append_right->QG,flatMap_append->QI,mem_or_eq_of_mem_set->QO,map_flatMap->QS,mem_replicate->QT,zip_cons_cons->QU,getElem?_replicate->Q1,nil_append->Q3,take_of_length_le->Q8,getElem_map->Re,take_append_drop->Ri,pairwise_iff_getElem->Rj,find?_cons->Rm,range_succ->Ro,flatten_cons->Rq,mem_append_left->Rr,map_drop->Rv,drop_eq_nil_of_le->RB,getElem_range->RC,map_nil->RE,map_replicate->RF,forIn_cons->RP,forIn_nil->R6,all_eq_true->Sc,cons_append->Sd,exists_cons_of_length_eq_add_one->Se,length_drop->Sf,getElem?_append_left->Sm,length_zip->SA,mem_filter->SB,pairwise_cons->SE,flatMap_eq_nil_iff->SG,pairwise_singleton->SH,getElem?_eq_none->SV,drop_length->SY,filter_cons->SZ,flatMap_map->S3,any_cons->S8,lookup->Td,map_set->Tv,zipWith->Tw,getElem?_drop->TL,mem_filterMap->TM,getElem?_eq_none_iff->T3,length->T7,nodup_append->T8,pairwise_map->T9,reverse_cons->Ua,all_cons->Uh,flatMap_nil->Us,length_eq_zero_iff->Ut,lookup_cons->Uu,length_pos_of_mem->UA,of_mem_zip->UF,getElem?_toArray->UK,getElem?_append->UQ,map_id->UR,mem_of_mem_take->US,filter_sublist->U2,getElem_of_mem->U3,length_zipWith->U4,map_take->U8,map_inj_right->Vd,filter_congr->Vp,zip_nil_left->Vq,any_eq_true->Vx,nodup_range->Vy,filter_map->VN,length_nil->VO,sum_append->VP,nodup_nil->V7,take_zero->V8,getElem?_take_of_lt->Wq,getElem?_cons_succ->Wz,any_map->WI,filter_eq_nil_iff->WJ,flatMap->WK,getElem?_set_self->WL,range_succ_eq_map->WM,dropLast_eq_take->WP,getElem?_zipWith->WQ,length_filter_le->WR,getElem?_set_ne->Xh,getElem_reverse->Xi,filter_flatMap->Xs,length_reverse->Xu,filterMap_map->XO,filter_append->XQ,foldl->XR,any_eq_false->Yb,ext_getElem?->Yc,map_dropLast->Yd,take_add_one->Ye
open List.Pairwise renaming nil->UE
open List.Perm renaming of_eq->Vf
open List.Sublist renaming refl->UJ
open List.cons renaming injEq->Rx
open Max renaming max->WN
open Min renaming min->RK
open Nat renaming le_refl->OD,le_trans->OP,lt_of_lt_of_le->O0,ne_of_lt->Pr,lt_irrefl->PF,zero_le->PV,lt_of_le_of_lt->Ql,zero_add->QJ,not_lt_zero->Q4,ne_of_gt->Rb,le_add_right->Ry,mul_comm->RH,lt_succ_of_lt->R4,lt_trichotomy->R5,mul_left_comm->SR,mul_assoc->Te,mul_le_mul_right->Tg,pow_le_pow_right->Th,le_of_lt->Tz,lt_trans->TC,le_succ->Ui,add_sub_cancel_left->Ux,le_mul_of_pos_right->Uy,sub_self->UG,add_comm->Vt,lt_or_ge->Vu,lt_succ_self->VD,min_le_right->VE,div_le_self->VV,add_le_add->We,mod_lt->Wf,div_div_eq_div_mul->WS,min_self->WT,sub_zero->WU,zero_mul->WV,add_mul->Xv,add_le_add_left->XT
open Option renaming some->on,none->Oi,map_some->QK,bind_some->Q9,map_eq_some_iff->Uv,isSome_iff_exists->V9,getD_none->XU
open Option.some renaming inj->O8,injEq->Wr
open Or renaming inl->QY,inr->Sg
open Prod renaming ext->RQ,ext_iff->Sh
open Pure renaming pure->QR
open PyProof renaming noPylong_of_log2->VW
open PyProof.Rows renaming callWith_type1->Qh,seqObj->Q5,slot_tuple_getitem->Sx,listUpdate_at->SK,envOfC->SS,AllBare->T5,subscriptTail_builtinR->UX,IntsAre->WH,subscriptTail->XF
open PyProof.Rows.IsTup renaming new->X9
open PySem renaming wpAny_bind->My,wpAny_pure->Oj,Addr->Oq,Value->Ov,Shared->OB,wpAny->OH,starEach->OJ,sizeLine->OS,model->O4,FuncData->O5,Obj->O7,Program->Pc,wpAny_call_entry->Pe,wpAny_newObj_type->Ph,Str->Pj,World->Pk,foldedSetIterable->Pz,wpAny_mono->PN,SetTable->PP,Around->PU,eval->PZ,wpAny_holding->P3,Heap->P4,compareOp->P6,wpAny_truthy_bool->P7,wpAny_field->Qa,Stmt->Qe,mem_of_lookup->Qf,wpAny_setField_rec->Qi,sizeLine_eq->Qo,Comprehension->Qp,cellsFrom->Qv,wpAny_setState_of->Qy,wpAny_seqItems->QB,keywordEach->QD,wpAny_isInstance->QE,treeTable->QN,mainGlobals->QV,backTo->QX,DictEntry->QZ,wpAny_standAt->Q2,wpAny_specialOf->Rc,binaryOp->Rp,wpAny_comprehension_free->Rz,IsPair->RG,backToKw->RI,firstArgMember->RJ,wpAny_setField->RM,wpAny_typeNameOfWhole_itemiter->RN,wpAny_of_eq->RW,wpAny_typeNameOfWhole_keyiter->RX,rawInt->RZ,wpAny_rule->R0,wpAny_attempt->R8,pyNext->Sa,standAt->Si,wpAny_dictEntries->Sj,NameKind->Su,sliceBounds->Sw,bootBuiltins->SC,wpAny_typeNameOf_itemiter->SF,attributeBase->SJ,wpAny_typeNameOf_keyiter->SL,codeAny->SM,holding->SN,wpAny_dictEpoch->SO,isSubtype_type->S9,wpAny_fieldsOf->Ta,wpAny_pyIter_slot->Tc,swapsWith->Ts,sysModules->Tt,wpAny_askSetting->Tu,behindInMarks->Tx,Pos->TD,Paired->TW,assign->TY,codeAny_builtin->TZ,letOwnedTupleGo->T0,wpAny_passesOwn->T1,cLine->T4,codeAny_mono->Ud,IsItemIter->Uk,Fin->Um,wpAny_Call_Name_kw->Uq,IsZip->Uz,wpAny_pyIter_list->UD,getMethod->UL,wpAny_forIn_list->UM,OsState->UT,assignEach->UU,intKind->UV,pyIter->UW,wpAny_isOneOf_itemiter->UY,wpAny_pyIter_rangeiter->UZ,wpAny_typeOf->U1,builtinLookup_eq_fast->Va,isSubtype_tuple_tuple->Vb,Within->Vg,isSubtype_stop->Vj,setField->Vk,wpAny_updateSeq_pair->Vl,BindsTo->Vm,Keyword->Vo,wpAny_setEntries_of->Vv,again->Vz,plainId_quiet->VA,wpAny_handled->VB,wpAny_onRaise->VC,call->VF,isInstance->VG,wpAny_pyIter_tuple->VH,wpAny_tupleItemsOf->VI,Env->VJ,atKey->VX,callerA->VY,ofAClassStatement->VZ,searchCouldBeSeen->V1,wpAny_assign_Name->V2,IsPart->Wd,Params->Wg,newExc->Wj,noFill_tuple_add->Wl,pickOrder->Wm,Draws->Wn,IsRangeIter->Wp,wpAny_letGo->Wu,wpAny_throw->Wv,typeLookup_type->WC,wpAny_execs_nil->WD,PyData->WW,builtinsNs->W0,callWith->W1,call_meets->W2,compPost->W4,entryFor_alias->W5,intItems->W6,newFunctionEnv->W8,raiseNew->W9,wpAny_newTuple->Xb,wpAny_runValue->Xc,call->XB,evalPart_none->XD,seq_tuple_add->XE,wpAny_getItem_list_slice->XG,wpAny_newList->XH,list_append->XZ,bindC->X1,bindL->X2,eqIsQuiet->X3,field->X4,lastMarks->X5,slicePick->X6,getItem->Yk,seqIndex_neg->Yo,wpAny_Call_method_late->Yp,wpAny_pyNext_range_end->Yq
open PySem.Around renaming under_plainId->SX,under->Vc
open PySem.Builtin.Dict renaming showsAll->Sz
open PySem.Builtin.Dict_items renaming ownsTuple->QL,ownedTupleFields->TN,ownedTupleIsFree->TR,pairFromOwner->Uf
open PySem.Builtin.Int renaming intBits->V3
open PySem.Builtin.List renaming listExtendWith->Rw,listSameRef->R1,listTooLong->Tj,listLengthHint->U5,listTouch->Vw
open PySem.Builtin.Range renaming rangeFitsLong->P8,rangeSize->Vn
open PySem.Builtin.Slice renaming slicePlaces->RO,sliceAdjust->S6,sliceApplied->U6
open PySem.Builtin.SmallTypes renaming nextOf->Qz,ownedTupleIsFree->QP,ownedTupleHandOut->TH,refuseKeywords->T6
open PySem.Builtin.Tuple renaming tupleExact->RY,tupleHashOf->S7,tupleItemsOf->U7
open PySem.Calls renaming callWith_builtin->Uw,Name_function_global->VS,call_function_entry->V4,evalArgs_plain->WO,spliced_cons->Xo,spliced_nil->XJ
open PySem.Challenge renaming rw_edgetally_k18_counts_and_steps->Pi
open PySem.Code renaming isFrame->WF
open PySem.Draws renaming list->Xp
open PySem.F renaming slot_list_append->Qt,type_list_append->Qu,slot_dict_itemiterator_next->Qx,plainAttrs_list->QA,slot_dict_keyiterator_next->Q7,slot_tuple_iterator_next->Sk,args_tuple_add_2->TX,entry_tuple_add->Ub,slot_tuple_add->Ul,plain_list_iadd->Ur,slot_zip_next->UO,args_dict_itemiterator_next_1->VL,args_dict_keyiterator_next_1->VT,entry_dict_itemiterator_next->VU,entry_dict_keyiterator_next->V5,slot_dict_itemiterator_iter->V6,plainAttrs_dict->Wa,args_tuple_iterator_next_1->Wc,entry_tuple_iterator_next->Wo,slot_dict_get->Ws,slot_dict_items_iter->Xq,entry_proto_collect->XM,plain_proto_collect->XN,args_list_append_2->X7
open PySem.Heap renaming get?_push_of_some->Ol,get?_push_size->OI,lt_size->OZ,SameBut->Pa,size_push->Qk,get?_update_ne->QH,get?_update_self->Rh,ExtBut->UP,get?_update_other->WG,get?_none_of_le->Xf,get?_push_ne->X8
open PySem.Heap.IsSliceOf renaming new->VM
open PySem.Heap.SameBut renaming update->Qd
open PySem.IntMulOk renaming of_bits->Xg
open PySem.IsTupleKey renaming typeIs->Wx
open PySem.Manifest renaming find?->XS
open PySem.NameKind renaming free->Rk,cell->VQ
open PySem.Obj renaming mapSeq->P5,data_mapFields->Qm,isFreed_of_fields->S4,cls_mapFields->Uj,putSet->UH,mapFields->WA
open PySem.P renaming add_list->Xw
open PySem.PyData renaming eqv->RA,canLayAll0->RU,eqvAll->SW,depthAll->Tf
open PySem.SeqAt renaming shaped->Vh
open PySem.SetTable renaming fits->VR,fresh->X0
open PySem.Str renaming ofString->Qn,empty->Ss
open PySem.Value renaming ref->OM,none->Pg,type->Ru,int->R9,bool->U9,isInt_shape->Vi,isInt->WZ,str->Yi
open PySem.W renaming Frag->OU,fnOf->SI,findIn->SU,codeIn->Tl,segRun->Tp,emptyDict->Tq,piecesOf->Uc,keepIn->Uo,kia_one->UB,kia_tup->UC,instObj->Vr,kitx_list->Vs,methodCall_KW->Wt,callWith_K->WX,of_hideAll->WY,cellsFrom_some->W3,kitx_tuple->W7,topFrame->Xa,kitx_bool->Xj,kitx_none->Xk,plainOver->Xl,handedIn->Xx,kitx_int->Xy,kitx_own->Xz,kitx_str->XA,makesIn->XV,takesIn->XW,topStub->XX,kitAny->Yg,topRun->Yh,hideAll->Yl,hideAll_none->Ym
open PySem.W.OpenLaw renaming row->Rg
open PySem.W.OpenRow renaming toRowW->QW
open PySem.W.RowW renaming prog->Wh
open PySem.W.WData renaming int->Wb
open PySem.pickOrder renaming go->V0
open True renaming intro->R7
abbrev Ot:=@if_neg
abbrev OA:=@if_pos
abbrev OL:=@decide_eq_true
abbrev OX:=@absurd
abbrev Pn:=@decide_eq_false
abbrev Po:=@decide_eq_true_eq
abbrev Px:=@congrArg
abbrev PD:=@if_false
abbrev PM:=@if_true
abbrev PR:=@of_decide_eq_true
abbrev RV:=@bne_self_eq_false
abbrev Sv:=@beq_iff_eq
abbrev SD:=@or_false
abbrev WB:=@beq_eq_false_iff_ne
abbrev Yj:=@beq_self_eq_true
abbrev Yn:=@not_or
open PySem.W (Frag instObj methodObj hideAll hideAll_get hideAll_none lookIn plainGet hasDictIn findIn plainGet_of isFn takerIn emptyDict keepIn specialIn kitOne kia_one kitx_list kitx_tuple cellsFrom_some mg_of kia_tup)
abbrev LI:=List (List Int)
abbrev LP:=List (List (Int×Int))
--CHANGE:your row's module here,as the last of these ba
namespace L2
open PySem PySem.Spec PyProof.Rows
inductive V where
 |non|bl (b:Bool)|int (i:Int)|str (x:Pj)|ref (a:Oq)|ty (n:String)
 deriving DecidableEq
def aI:V->Ov->Prop
 | .non,u=>u=Pg
 | .bl b,u=>u=U9 b
 | .int i,u=>∃t,u=R9 i t
 | .str x,u=>∃t,u=Yi x t
 | .ref a,u=>u=OM a
 | .ty n,u=>u=Ru n
abbrev au:List V->List Ov->Prop:=TW aI
theorem au.length{xs:List V}{us:List Ov}(r:au xs us):xs.length=us.length:=Paired.length r
theorem au.get:∀{xs:List V} {us:List Ov} {i:Nat} {x:V},au xs us->xs[i]?=on x->∃u,us[i]?=on u/\aI x u
 |_,_,_,_,.nil,e=>by simp at e
 |_,_,0,_,.cons r _,e=>by simp at e;subst e;exact⟨_,rfl,r⟩
 |_,_,i+1,x,.cons _ t,e=>by
  obtain⟨u,a,b⟩:=au.get (i:=i) (x:=x) t (by simpa using e);exact⟨u,by simpa using a,b⟩
theorem au.set(r:aI x u):∀{xs:List V} {us:List Ov} (i:Nat),au xs us->au (xs.set i x) (us.set i u)
 |_,_,_,.nil=> .nil
 |_,_,0,.cons _ t=> .cons r t
 |_,_,i+1,.cons q t=> .cons q (au.set r i t)
theorem au.append:∀{xs ys:List V} {us a:List Ov},au xs us->au ys a->au (xs++ys) (us++a)
 |_,_,_,_,.nil,s=>s
 |_,_,_,_,.cons r t,s=> .cons r (au.append t s)
theorem au.take:∀{xs:List V} {us:List Ov} (n:Nat),au xs us->au (xs.take n) (us.take n)
 |_,_,0,_=> .nil
 |_,_,_+1,.nil=> .nil
 |_,_,n+1,.cons r t=> .cons r (au.take n t)
theorem au.drop:∀{xs:List V} {us:List Ov} (n:Nat),au xs us->au (xs.drop n) (us.drop n)
 |_,_,0,r=>r
 |_,_,_+1,.nil=> .nil
 |_,_,n+1,.cons _ t=>au.drop n t
def gE:Option V->Option Ov->Prop
 |some v,on u=>aI v u
 |none,Oi=>True
 |_,_=>False
inductive HO where
 |lst (xs:List V)
 |tup (xs:List V)
 |ins (C dx:Oq) (fs:List (Pj×V))
 |own (x:Oq)
 |xd (fs:List (Pj×V))
 |met (f x:Oq)
 |rng (lo hi:Int)
 |frz (o:O7) (u:HO)
 |tbl (ps:Array Ov)
 |ext (φ:P4->Prop)
abbrev Hp:=Oq->Option HO
noncomputable def upd(H:Hp)(a:Oq)(o:HO):Hp:=λb=>if b=a then on o else H b
theorem aj:upd H a o a=on o:=by unfold upd;rw[OA rfl]
theorem b_(h:b≠a):upd H a o b=H b:=by unfold upd;rw[Ot h]
theorem NJ{H:Hp}{a b:Oq}{o u:HO}(h:H a=on o)(h':H b=on u)(d:o≠u):a≠b:=by
 intro e;subst e;rw[h]at h';exact d (O8 h')
theorem aw{H:Hp}{a b:Oq}{o:HO}(h:H a=on o)(h':H b=Oi):a≠b:=by
 intro e;subst e;rw[h]at h';cases h'
section
variable(P:Pc)(w:Pk)
def bD(P:Pc)(w:Pk)(H:Hp)(h:P4)(a:Oq):HO->Prop
 | .lst xs=>xs.length<=OS/\∃(its:List Ov) (n:Nat),au xs its/\h.get? a=on {cls:= .type "list",data:= .seq its.toArray n}
 | .tup xs=>xs.length<=OS/\∃its:List Ov,au xs its/\IsTup h a its.toArray
 | .ins C dx fs=>H dx=on (.own a)/\fs.length<=1000/\dx≠a/\h.get? a=on (Vr C dx)/\
   ∃b,h.Ns1 dx b/\(∀f,gE (fs.lookup f) (b f))/\Vg b (fs.map (·.1))
 | .own _=>∃o,h.get? a=on o
 | .xd fs=>∃b,h.Ns1 a b/\∀f,gE (fs.lookup f) (b f)
 | .rng lo hi=>∃t u v,h.get? a=on {cls:= .type "range",data:= .fields #[.int lo t,.int hi u,.int 1 v]}
 | .frz o u=>h.get? a=on o/\bD P w H h a u
 | .tbl ps=>h.get? a=on {cls:= .none,data:= .fields ps}
 | .met f x=>h.get? a=on (methodObj (.ref f) (.ref x))
 | .ext φ=>φ h/\(∃o,h.get? a=on o)/\∀c d:P4,φ c->(∀o,c.get? a=on o->d.get? a=on o)->φ d
def lu(H:Hp)(h:P4):Prop:=∀a o,H a=on o->bD P w H h a o
end
section
variable{P:Pc}{w:Pk}{H H':Hp}{h h':P4}{a:Oq}{o:HO}
theorem bD.lt(x:bD P w H h a o):a<h.objs.size:=by
 cases o with
 |lst xs=>obtain⟨_,_,_,_,e⟩:=x;exact OZ e
 |tup xs=>obtain⟨_,_,_,p⟩:=x;exact p.lt
 |ins C dx fs=>obtain⟨_,_,_,e,_⟩:=x;exact OZ e
 |own y=>obtain⟨_,e⟩:=x;exact OZ e
 |xd fs=>obtain⟨_,⟨_,_,_,e,_⟩,_⟩:=x;exact OZ e
 |rng lo hi=>obtain⟨_,_,_,e⟩:=x;exact OZ e
 |frz ob u=>obtain⟨e,_⟩:=x;exact OZ e
 |tbl ps=>exact OZ (show h.get? a=on _ from x)
 |met f y=>exact OZ (show h.get? a=on _ from x)
 |ext φ=>obtain⟨_,⟨_,e⟩,_⟩:=x;exact OZ e
theorem bD.stay(x:bD P w H h a o)(k:∀b u,(b=a\/H b=on (.own a))->h.get? b=on u->h'.get? b=on u)
  (l:∀b,H b=on (.own a)->H' b=on (.own a)) (A:∀b xs,H b=on (.tup xs)->H' b=on (.tup xs)):bD P w H' h' a o:=by
 induction o with
 |lst xs=>obtain⟨z,its,n,r,e⟩:=x;exact⟨z,its,n,r,k _ _ (.inl rfl) e⟩
 |tup xs=>obtain⟨z,its,r,g,e,c⟩:=x;exact⟨z,its,r,g,k _ _ (.inl rfl) e,c⟩
 |ins C dx fs=>
  obtain⟨d,z,ne,e,i,⟨j,es,ep,m,c⟩,r⟩:=x;exact⟨l _ d,z,ne,k _ _ (.inl rfl) e,i,⟨j,es,ep,k _ _ (.inr d) m,c⟩,r⟩
 |own y=>obtain⟨g,e⟩:=x;exact⟨g,k _ _ (.inl rfl) e⟩
 |xd fs=>obtain⟨i,⟨j,es,ep,e,c⟩,r⟩:=x;exact⟨i,⟨j,es,ep,k _ _ (.inl rfl) e,c⟩,r⟩
 |rng lo hi=>obtain⟨t,u,v,e⟩:=x;exact⟨t,u,v,k _ _ (.inl rfl) e⟩
 |frz g u ih=>obtain⟨e,q⟩:=x;exact⟨k _ _ (.inl rfl) e,ih q⟩
 |tbl ps=>
  have e:h.get? a=on {cls:= .none,data:= .fields ps}:=x;show h'.get? a=on {cls:= .none,data:= .fields ps};exact k a _ (.inl rfl) e
 |met f y=>
  have e:h.get? a=on (methodObj (.ref f) (.ref y)):=x;show h'.get? a=on (methodObj (.ref f) (.ref y));exact k a _ (.inl rfl) e
 |ext φ=>obtain⟨p,⟨o,e⟩,st⟩:=x;exact⟨st _ _ p λo q=>k _ _ (.inl rfl) q,⟨o,k _ _ (.inl rfl) e⟩,st⟩
theorem lu.lt(x:lu P w H h)(e:H a=on o):a<h.objs.size:=(x a o e).lt
theorem lu.fresh(x:lu P w H h)(e:h.objs.size<=a):H a=Oi:=by
 cases q:H a with
 |none=>rfl
 |some u=>exact OX (O0 (x.lt q) e) (PF _)
theorem lu.kept(x:lu P w H h)(k:∀b u,h.get? b=on u->h'.get? b=on u):lu P w H h':=λa o e=>
 (x a o e).stay (λb u _ q=>k b u q) (λ_ q=>q) λ_ _ q=>q
theorem lu.laid(x:lu P w H h)(k:∀b u,h.get? b=on u->h'.get? b=on u)(f:h.objs.size<=a)(new:bD P w (upd H a o) h' a o):lu P w (upd H a o) h':=λb u e=>by
 have hn:=x.fresh f;by_cases d:b=a
 .subst d;rw[aj]at e;cases e;exact new
 .rw[b_ d]at e
  exact(x b u e).stay (λc v _ q=>k c v q) (λc q=>by rw[b_ (aw q hn)];exact q) λc xs q=>by rw[b_ (aw q hn)];exact q
def Rd(H:Hp)(a:Oq)(u:HO):Prop:=H a=on u\/∃o,H a=on (.frz o u)
theorem Rd.ok{P:Pc}{w:Pk}{H:Hp}{h:P4}{a:Oq}(r:Rd H a u)(x:lu P w H h):bD P w H h a u:=by
 rcases r with r|⟨o,r⟩
 .exact x a u r
 .obtain⟨_,q⟩:=x a _ r
  exact q
def Zp:Option HO->Prop
 |some (.lst _)=>True
 |some (.ins _ _ _)=>True
 |some (.ext _)=>True
 |_=>False
variable{x e:Oq}{o':HO}
theorem lu.write(ok:lu P w H h)(mu:Zp (H x))(l:e=x\/H e=on (.own x))(k:∀b u,b≠e->h.get? b=on u->h'.get? b=on u)(j:∃u,h'.get? e=on u)
  (new:bD P w (upd H x o') h' x o'):lu P w (upd H x o') h':=λb u q=>by
 have f:∀c y,H c=on (.own y)->c≠x:=λc y r z=>by subst z;rw[r]at mu;exact mu
 have g:∀c xs,H c=on (.tup xs)->c≠x:=λc xs r z=>by subst z;rw[r]at mu;exact mu
 by_cases i:b=x
 .subst i;rw[aj]at q;cases q;exact new
 .rw[b_ i]at q
  by_cases d:b=e
  .have m:H b=on (.own x):=by
    rcases l with z|z
    .exact OX (d.trans z) i
    .rw[d];exact z
   rw[q]at m;cases m;obtain⟨v,n⟩:=j;exact⟨v,by rw[d];exact n⟩
  .refine(ok b u q).stay (λc v hc r=>k c v ?_ r) (λc r=>by rw[b_ (f c b r)];exact r) λc xs r=>by rw[b_ (g c xs r)];exact r
   rcases hc with rfl|hc
   .exact d
   .rintro rfl
    rcases l with z|z
    .exact f c b hc z
    .rw[hc]at z;cases z;exact i rfl
structure Un (fs ex:List Oq) (H H':Hp) (h h':P4):Prop where
 keep:∀b o,h.get? b=on o->H b=Oi->b∉fs->b∉ex->h'.get? b=on o
 slot:∀b o,h.get? b=on o->H b=Oi->b∈fs->b∉ex->∃sl,h'.get? b=on {o with slots:=sl}
 free:∀b o,h.get? b=on o->H b=Oi->b∉ex->H' b=Oi
 there:∀b o,h.get? b=on o->b∉ex->∃o',h'.get? b=on o'
 tups:∀b xs,H b=on (.tup xs)->H' b=on (.tup xs)
 frzs:∀b o u,H b=on (.frz o u)->H' b=on (.frz o u)
 tbls:∀b ps,H b=on (.tbl ps)->∃more,H' b=on (.tbl (ps++more))
variable{fs fs' ex ex':List Oq}{H1 H2:Hp}{h1 h2:P4}
theorem Un.any(u:Un fs ex H H1 h h1)(q:h.get? b=on ob)(n:H b=Oi)(c:b∉ex):∃sl,h1.get? b=on {ob with slots:=sl}:=by
 by_cases d:b∈fs
 .exact u.slot b ob q n d c
 .exact⟨ob.slots,u.keep b ob q n d c⟩
theorem Un.trans(a:Un fs ex H H1 h h1)(b:Un fs ex H1 H2 h1 h2):Un fs ex H H2 h h2 where
 keep:=λc d q n i f=>b.keep c d (a.keep c d q n i f) (a.free c d q n f) i f
 slot:=λc d q n i f=>by
  obtain⟨sl,g⟩:=a.slot c d q n i f;obtain⟨j,k⟩:=b.slot c _ g (a.free c d q n f) i f;exact⟨j,k⟩
 free:=λc d q n f=>by
  obtain⟨o',g⟩:=a.there c d q f;exact b.free c o' g (a.free c d q n f) f
 there:=λc d q f=>by
  obtain⟨o',g⟩:=a.there c d q f;exact b.there c o' g f
 tups:=λc xs q=>b.tups c xs (a.tups c xs q)
 frzs:=λc d xs q=>b.frzs c d xs (a.frzs c d xs q)
 tbls:=λc ps q=>by
  obtain⟨m1,g⟩:=a.tbls c ps q;obtain⟨m2,k⟩:=b.tbls c _ g;exact⟨m1++m2,by rw[k,Xm]⟩
theorem Un.kept(k:∀b u,h.get? b=on u->h'.get? b=on u):Un fs ex H H h h':=
 ⟨λb c q _ _ _=>k b c q,λb c q _ _ _=>⟨c.slots,k b c q⟩,λ_ _ _ n _=>n,λb c q _=>⟨c,k b c q⟩,λ_ _ q=>q,λ_ _ _ q=>q,λ_ ps q=>⟨#[],by rw[q];simp⟩⟩
theorem Un.refl:Un fs ex H H h h:=Un.kept λ_ _ q=>q
theorem Un.laid(k:∀b u,h.get? b=on u->h'.get? b=on u)(c:h.objs.size<=a)(hn:H a=Oi):Un fs ex H (upd H a o) h h' where
 keep:=λb u q _ _ _=>k b u q
 slot:=λb u q _ _ _=>⟨u.slots,k b u q⟩
 free:=λb u q n _=>by rw[b_ (Pr (O0 (OZ q) c))];exact n
 there:=λb u q _=>⟨u,k b u q⟩
 tups:=λb xs q=>by rw[b_ (aw q hn)];exact q
 frzs:=λb u xs q=>by rw[b_ (aw q hn)];exact q
 tbls:=λb ps q=>⟨#[],by rw[b_ (aw q hn),q];simp⟩
theorem Un.write(mu:Zp (H x))(i:e=x\/H e=on (.own x))(k:∀b u,b≠e->h.get? b=on u->h'.get? b=on u)(d:∃u,h'.get? e=on u):Un fs ex H (upd H x o) h h':=by
 have f:∀b,H b=Oi->b≠x:=λb n z=>by subst z;rw[n]at mu;exact mu
 have g:∀b,H b=Oi->b≠e:=λb n z=>by
  subst z;rcases i with r|r
  .exact f b n r
  .rw[n]at r;cases r
 have hm:∀b u,H b=on u->¬Zp (on u)->b≠x:=λb u q j z=>by subst z;rw[q]at mu;exact j mu
 refine⟨λb u q n _ _=>k b u (g b n) q,λb u q n _ _=>⟨u.slots,k b u (g b n) q⟩,λb u q n _=>by rw[b_ (f b n)];exact n,λb u q _=>?_,
  λb xs q=>by rw[b_ (hm b _ q λz=>z)];exact q,λb u xs q=>by rw[b_ (hm b _ q λz=>z)];exact q,λb ps q=>⟨#[],by rw[b_ (hm b _ q λz=>z),q];simp⟩⟩
 by_cases c:b=e
 .subst c;exact d
 .exact⟨u,k b u c q⟩
theorem Un.mono(u:Un fs ex H H1 h h1)(hs:∀b∈fs,b∈fs')(f:∀b∈ex,b∈ex'):Un fs' ex' H H1 h h1:=
 ⟨λb d q n g c=>u.keep b d q n (λz=>g (hs b z)) λz=>c (f b z),λ_ _ q n _ c=>u.any q n λz=>c (f _ z),λb d q n c=>u.free b d q n λz=>c (f b z),λb d q c=>u.there b d q λz=>c (f b z),u.tups,u.frzs,u.tbls⟩
noncomputable def Y6(h:P4)(H:Hp):List Oq:=(Oz h.objs.size).filter λa=>(H a).isSome
noncomputable def j6(h:P4)(H:Hp):P4:=Yl h (Y6 h H)
theorem zK(h:P4)(H:Hp):(j6 h H).objs.size=h.objs.size:=PySem.W.hideAll_size _ _
theorem DF{h:P4}{H:Hp}{o:O7}(e:h.get? b=on o)(n:H b=Oi):(j6 h H).get? b=on o:=
 hideAll_get _ e λhm=>by
  have q:(H b).isSome=On:=(SB.mp hm).2;rw[n]at q;simp at q
theorem Jw{h:P4}{H:Hp}{o:O7}(e:(j6 h H).get? b=on o):h.get? b=on o/\H b=Oi:=by
 have c:h.get? b=on o:=WY (Y6 h H) e;refine⟨c,?_⟩;cases q:H b with
 |none=>rfl
 |some x=>
  have hm:b∈Y6 h H:=SB.mpr ⟨OV.mpr (OZ c),by simp[q]⟩;have z:(j6 h H).get? b=Oi:=Ym (Y6 h H) hm;rw[z]at e;cases e
structure Mod (K:OU) (mg:Pj->Option Ov) (base:P4):Prop where
 kin:K.In base
 glob:base.Ns QV mg
 blt:∃mb,base.Ns W0 mb/\∀x:Pj,x≠"__name__"->mb x=SC x
 nolimit:base.NoLimit
structure Cx where
 prog:Pc
 w:Pk
 K:OU
 mg:Pj->Option Ov
 base:P4
 A:PU
 N:List Pj
 s₀:OB
 H₀:Hp
 env:VJ
 outer:List VJ
 stack:List VJ
 ex:List Oq
 fn:Pj->Bool
 calm:Bool
 pn:List (Oq×O7)
 xe:Ov->OB->Prop
noncomputable def h8(l:List VJ):List Oq:=l.filterMap (·.frame)
end
noncomputable abbrev Cx.fs(X:Cx):List Oq:=h8 X.outer
def YW(a:Scope)(x:Pj):Prop:=a.names.lookup x=on .local\/a.names.lookup x=on .cell\/a.names.lookup x=on .free
def A_(a:Scope)(x:Pj):Prop:=a.names.lookup x=on .local\/a.names.lookup x=on .cell
def Look(env:VJ)(h:P4)(m:Pj->Option Ov)(x:Pj)(u:Ov):Prop:=
 (env.kindOf x=on .local/\m x=on u)\/((env.kindOf x=on .cell\/env.kindOf x=on .free)/\∃c,env.cells.lookup x=on c/\h.IsCell c (on u))
structure Cx.Ok (X:Cx):Prop where
 mod:Mod X.K X.mg X.base
 kind:X.env.scope.kind= .function
 glob:X.env.globals=QV
 blt:X.env.builtins=W0
 above:X.s₀.heap.objs.size<=X.env.locals
 inj:∀x y c,X.env.cells.lookup x=on c->X.env.cells.lookup y=on c->x=y
 has:∀x,(X.env.kindOf x=on .cell\/X.env.kindOf x=on .free)->∃c,X.env.cells.lookup x=on c
 cab:∀x c,X.fn x=On->X.env.cells.lookup x=on c->X.s₀.heap.objs.size<=c
 hd:X.calm=On->X.A.handled=Oi
 frames:X.A.frames=on X.stack
 stk:X.stack=X.outer\/(X.stack=X.env::X.outer/\X.env.frame=on X.env.locals)
 exf:∀b∈X.ex,b≠X.env.locals/\∀x c,X.env.cells.lookup x=on c->c≠b
 bs:∀b o,X.base.get? b=on o->X.s₀.heap.get? b=on o/\X.H₀ b=Oi
 bsz:X.base.objs.size<=X.s₀.heap.objs.size
 noex:∀b o,X.base.get? b=on o->b∉X.ex
 exfs:∀b∈X.ex,b∉X.fs
 funs:X.s₀.heap.FunFrames X.base X.outer
 frf:∀b∈X.fs,X.H₀ b=Oi
structure dk (X:Cx) (a_:List (Oq×O7)) (σ:List (Option V)) (H:Hp) (s:OB):Prop where
 ok:X.Ok
 os:s.os=X.s₀.os
 bare:T5 s.gens
 base:Un X.fs X.ex X.H₀ H X.s₀.heap s.heap
 loc:∃m,s.heap.Ns X.env.locals m/\∀(i:Nat) (x:Pj) (v:V),X.N[i]?=on x->σ[i]?=on (on v)->YW X.env.scope x->∃u,aI v u/\Look X.env s.heap m x u
 cell:∀x c,X.env.cells.lookup x=on c->∃v,s.heap.IsCell c v
 free:H X.env.locals=Oi
 freeC:∀x c,X.env.cells.lookup x=on c->H c=Oi
 pin:∀p∈X.pn++a_,s.heap.get? p.1=on p.2/\H p.1=Oi/\p.1≠X.env.locals/\p.1∉X.fs/\∀v,p.2.data≠ .cell v
 hok:lu X.prog X.w H s.heap
 len:σ.length=X.N.length
section
variable{X:Cx}{a_:List (Oq×O7)}{σ:List (Option V)}{H H':Hp}{s:OB}{h':P4}
theorem Cx.Ok.nofr(ok:X.Ok)(e:X.base.get? b=on o):b∉X.fs:=λa=>by
 have:=(ok.funs.mem a).1;rw[e]at this;cases this
theorem dk.bs(I:dk X a_ σ H s):∀b o,X.base.get? b=on o->s.heap.get? b=on o/\H b=Oi:=λb o e=>
 ⟨I.base.keep b o (I.ok.bs b o e).1 (I.ok.bs b o e).2 (I.ok.nofr e) (I.ok.noex b o e),I.base.free b o (I.ok.bs b o e).1 (I.ok.bs b o e).2 (I.ok.noex b o e)⟩
theorem dk.bk(I:dk X a_ σ H s):∀b o,X.base.get? b=on o->s.heap.get? b=on o:=λb o e=>(I.bs b o e).1
theorem dk.mod(I:dk X a_ σ H s):Mod X.K X.mg X.base:=I.ok.mod
theorem dk.kIn(I:dk X a_ σ H s):X.K.In s.heap:=I.ok.mod.kin.keeps I.bk
theorem dk.lt(I:dk X a_ σ H s):X.env.locals<s.heap.objs.size:=let ⟨_,hn,_⟩:=I.loc;hn.lt
theorem dk.sz(I:dk X a_ σ H s):X.s₀.heap.objs.size<=s.heap.objs.size:=OP I.ok.above (Tz I.lt)
theorem dk.nofs(I:dk X a_ σ H s){a:Oq}(h:s.heap.objs.size<=a):a∉X.fs:=λb=>by
 obtain⟨_,o,c,_⟩:=I.ok.funs.mem b;exact OX (O0 (OZ c) (OP I.sz h)) (PF _)
theorem dk.cne(I:dk X a_ σ H s):∀x c,X.env.cells.lookup x=on c->c≠X.env.locals:=λx c e z=>by
 obtain⟨v,o,d,hd⟩:=I.cell x c e;obtain⟨m,⟨f,es,ep,a,b,_⟩,_⟩:=I.loc;rw[z,a]at d;cases d;rw[b]at hd;cases hd
theorem dk.funs(I:dk X a_ σ H s):s.heap.FunFrames X.base X.outer:=by
 have all:∀(l:List VJ),(∀b∈h8 l,b∈X.fs)->X.s₀.heap.FunFrames X.base l->s.heap.FunFrames X.base l:=by
  intro l
  induction l with
  |nil=>intro _ _;trivial
  |cons env r ih=>
   intro hs f;obtain⟨g,⟨L,o,a,hn,h,hd⟩,i⟩:=f;have c:L∈X.fs:=hs L (by unfold h8;rw[Qr,a];exact Ox);obtain⟨sl,e⟩:=I.base.slot L o h (I.ok.frf L c) c λz=>I.ok.exfs L z c;exact⟨g,⟨L,_,a,hn,e,hd⟩,ih (λb d=>hs b (by unfold h8;rw[Qr,a];exact Op _ d)) i⟩
 exact all X.outer (λ_ d=>d) I.ok.funs
theorem dk.stack(I:dk X a_ σ H s):s.heap.FunFrames X.base X.stack:=by
 rcases I.ok.stk with e|⟨e,a⟩
 .rw[e];exact I.funs
 .rw[e]
  obtain⟨m,hn,_⟩:=I.loc;refine .cons (by rw[I.ok.kind];decide) a hn ?_ I.funs;exact Xf (OP I.ok.bsz I.ok.above)
theorem dk.stkSub(I:dk X a_ σ H s):∀b∈h8 X.stack,b∈X.env.locals::X.fs:=λb a=>by
 rcases I.ok.stk with e|⟨e,c⟩
 .rw[e]at a;exact Op _ a
 .rw[e]at a
  unfold h8 at a;rw[Qr,c]at a;exact a
theorem dk.stkFree(I:dk X a_ σ H s):∀b∈h8 X.stack,H b=Oi:=λb hb=>by
 rcases OK.mp (I.stkSub b hb)with e|hb
 .rw[e];exact I.free
 .obtain⟨_,o,a,_⟩:=I.ok.funs.mem hb
  exact I.base.free b o a (I.ok.frf b hb) λz=>I.ok.exfs b z hb
theorem dk.step{ch:List Oq}(I:dk X a_ σ H s)
  (f:∀b∈ch,(b∈X.ex\/X.s₀.heap.objs.size<=b)/\b≠X.env.locals/\(∀x c,X.env.cells.lookup x=on c->c≠b)/\∀p∈X.pn++a_,p.1≠b)
  (keep:∀b o,b≠X.env.locals->b∉X.fs->b∉ch->s.heap.get? b=on o->H b=Oi->h'.get? b=on o)
  (slot:∀b o,b≠X.env.locals->b∈X.fs->b∉ch->s.heap.get? b=on o->H b=Oi->∃sl,h'.get? b=on {o with slots:=sl}) (free:∀b o,b∉ch->s.heap.get? b=on o->H b=Oi->H' b=Oi)
  (there:∀b o,b∉ch->s.heap.get? b=on o->∃B,h'.get? b=on B)
  (tups:∀b xs,H b=on (.tup xs)->H' b=on (.tup xs)) (frzs:∀b o u,H b=on (.frz o u)->H' b=on (.frz o u)) (tbls:∀b ps,H b=on (.tbl ps)->∃more,H' b=on (.tbl (ps++more)))
  (ns:∀m,s.heap.Ns X.env.locals m->h'.Ns X.env.locals m) (hok:lu X.prog X.w H' h') (O:T5 g'):
  dk X a_ σ H' {s with heap:=h',gens:=g',drawn:=d',toks:=t'}:=by
 have C:∀b o,X.s₀.heap.get? b=on o->b≠X.env.locals:=λb o e=>Pr (O0 (OZ e) I.ok.above);have j:∀b o,X.s₀.heap.get? b=on o->b∉X.ex->b∉ch:=λb o e a y=>by
  rcases(f b y).1 with z|z
  .exact a z
  .exact OX (O0 (OZ e) z) (PF _)
 have g:∀x c,X.env.cells.lookup x=on c->∀v,s.heap.IsCell c v->h'.IsCell c v:=λx c e v ⟨o,A,hd⟩=>by
  have h:c∉ch:=λz=>(f c z).2.2.1 x c e rfl;by_cases L:c∈X.fs
  .obtain⟨sl,q⟩:=slot c o (I.cne x c e) L h A (I.freeC x c e)
   exact⟨_,q,hd⟩
  .exact⟨o,keep c o (I.cne x c e) L h A (I.freeC x c e),hd⟩
 refine⟨I.ok,I.os,O,⟨λb o e n y a=>?_,λb o e n y a=>?_,λb o e n a=>?_,λb o e a=>?_,λb xs e=>tups b xs (I.base.tups b xs e),λb o xs e=>frzs b o xs (I.base.frzs b o xs e),λb ps e=>?_⟩,?_,λx c e=>?_,?_,λx c e=>?_,λp N=>?_,hok,I.len⟩
 .exact keep b o (C b o e) y (j b o e a) (I.base.keep b o e n y a) (I.base.free b o e n a)
 .obtain⟨sl,t⟩:=I.base.slot b o e n y a
  obtain⟨J,F⟩:=slot b _ (C b o e) y (j b o e a) t (I.base.free b o e n a);exact⟨J,F⟩
 .obtain⟨B,t⟩:=I.base.there b o e a
  exact free b B (j b o e a) t (I.base.free b o e n a)
 .obtain⟨B,t⟩:=I.base.there b o e a
  exact there b B (j b o e a) t
 .obtain⟨m1,t⟩:=I.base.tbls b ps e
  obtain⟨m2,F⟩:=tbls b _ t;exact⟨m1++m2,by rw[F,Xm]⟩
 .obtain⟨m,hn,P⟩:=I.loc
  refine⟨m,ns m hn,λi x v t F Q=>?_⟩;obtain⟨u,r,l⟩:=P i x v t F Q;refine⟨u,r,?_⟩;rcases l with l|⟨k,c,e,z⟩
  .exact .inl l
  .exact .inr ⟨k,c,e,g x c e _ z⟩
 .obtain⟨v,z⟩:=I.cell x c e
  exact⟨v,g x c e v z⟩
 .obtain⟨m,⟨o,_,_,A,_⟩,_⟩:=I.loc
  exact free _ o (λz=>(f _ z).2.1 rfl) A I.free
 .obtain⟨v,o,A,hd⟩:=I.cell x c e
  exact free c o (λz=>(f c z).2.2.1 x c e rfl) A (I.freeC x c e)
 .obtain⟨e,n,ne,nf,d⟩:=I.pin p N
  have h:p.1∉ch:=λz=>(f p.1 z).2.2.2 p N rfl;exact⟨keep p.1 p.2 ne nf h e n,free p.1 p.2 h e n,ne,nf,d⟩
theorem dk.un(I:dk X a_ σ H s)(u:Un X.fs [] H H' s.heap h')(hok:lu X.prog X.w H' h'):dk X a_ σ H' {s with heap:=h',toks:=t'}:=by
 obtain⟨m,⟨o,es,ep,g,r⟩,_⟩:=id I.loc;obtain⟨sl,h⟩:=u.any g I.free (by simp);exact I.step (g':=s.gens) (d':=s.drawn) (ch:=[]) (λ_ z=>nomatch z) (λb o _ c _ e n=>u.keep b o e n c (by simp)) (λb o _ c _ e n=>u.slot b o e n c (by simp)) (λb o _ e n=>u.free b o e n (by simp)) (λb o _ e=>u.there b o e (by simp)) u.tups u.frzs u.tbls (λj hm=>by
  obtain⟨k,d,f,a,i⟩:=hm;rw[g]at a;cases a;exact⟨_,d,f,h,i⟩) hok I.bare
theorem dk.call{ch:List Oq}(I:dk X a_ σ H s)(u:Un (h8 X.stack) ch H H' s.heap h')(hok:lu X.prog X.w H' h')(k:T5 g')
  (d:∀b∈ch,(b∈X.ex\/X.s₀.heap.objs.size<=b)/\b≠X.env.locals/\(∀x c,X.env.cells.lookup x=on c->c≠b)/\∀p∈X.pn++a_,p.1≠b):
  dk X a_ σ H' {s with heap:=h',gens:=g',drawn:=d',toks:=t'}:=by
 obtain⟨m,⟨o,es,ep,j,r⟩,_⟩:=id I.loc;obtain⟨sl,g⟩:=u.any j I.free λz=>(d _ z).2.1 rfl;exact I.step (ch:=ch) d (λb o g l a e n=>u.keep b o e n (λz=>(OK.mp (I.stkSub b z)).elim g l) a) (λb o _ _ a e n=>u.any e n a) (λb o a e n=>u.free b o e n a) (λb o a e=>u.there b o e a) u.tups u.frzs u.tbls (λt hm=>by
  obtain⟨v,h,i,f,q⟩:=hm;rw[j]at f;cases f;exact⟨_,h,i,g,q⟩) hok k
theorem dk.turned(I:dk X a_ σ H s)(k:∀b o,b≠it->s.heap.get? b=on o->h'.get? b=on o)(hn:H it=Oi)(f:it≠X.env.locals)
  (g:it∈X.ex\/X.s₀.heap.objs.size<=it) (h:∀x c,X.env.cells.lookup x=on c->c≠it) (i:∀p∈X.pn++a_,p.1≠it):dk X a_ σ H {s with heap:=h',toks:=t'}:=by
 have d:∀b u,H b=on u->b≠it:=λb u e z=>by rw[z,hn]at e;cases e
 refine I.step (g':=s.gens) (d':=s.drawn) (ch:=[it]) (λb j=>?_) (λb o _ _ a e _=>k b o (λz=>a (by simp[z])) e) (λb o _ _ a e _=>⟨o.slots,k b o (λz=>a (by simp[z])) e⟩) (λ_ _ _ _ n=>n)
  (λb o a e=>⟨o,k b o (λz=>a (by simp[z])) e⟩) (λ_ _ e=>e) (λ_ _ _ e=>e) (λb ps e=>⟨#[],by rw[e];simp⟩) (λm hm=>?_) (λb u e=>?_) I.bare
 .have e:b=it:=by simpa using j
  subst e;exact⟨g,f,h,i⟩
 .obtain⟨o,es,ep,l,r⟩:=hm
  exact⟨o,es,ep,k _ o (Ne.symm f) l,r⟩
 .refine(I.hok b u e).stay (λc v a q=>k c v ?_ q) (λ_ q=>q) λ_ _ q=>q
  rcases a with z|z
  .rw[z];exact d b u e
  .exact d c _ z
theorem dk.tok(I:dk X a_ σ H s)(t:Nat):dk X a_ σ H {s with toks:=t}:=I.un (h':=s.heap) (t':=t) Un.refl I.hok
theorem dk.kept(I:dk X a_ σ H s)(k:∀b u,s.heap.get? b=on u->h'.get? b=on u):dk X a_ σ H {s with heap:=h',toks:=t'}:=I.un (Un.kept k) (I.hok.kept k)
theorem dk.laid{a:Oq}{o:HO}{t':Nat}(I:dk X a_ σ H s)(k:∀b u,s.heap.get? b=on u->h'.get? b=on u)(c:s.heap.objs.size<=a)(new:bD X.prog X.w (upd H a o) h' a o):
  dk X a_ σ (upd H a o) {s with heap:=h',toks:=t'}:=I.un (Un.laid k c (I.hok.fresh c)) (I.hok.laid k c new)
theorem dk.write(I:dk X a_ σ H s)(mu:Zp (H x))(c:e=x\/H e=on (.own x))(k:∀b u,b≠e->s.heap.get? b=on u->h'.get? b=on u)(a:∃u,h'.get? e=on u)
  (new:bD X.prog X.w (upd H x o) h' x o):dk X a_ σ (upd H x o) {s with heap:=h',toks:=t'}:=I.un (Un.write mu c k a) (I.hok.write mu c k a new)
theorem dk.pins_of(I:dk X a_ σ H s)(h:∀p∈pins',s.heap.get? p.1=on p.2/\H p.1=Oi/\p.1≠X.env.locals/\p.1∉X.fs/\∀v,p.2.data≠ .cell v):dk X pins' σ H s:=
 ⟨I.ok,I.os,I.bare,I.base,I.loc,I.cell,I.free,I.freeC,λp a=>(Qb.mp a).elim (λz=>I.pin p (Rr _ z)) (h p),I.hok,I.len⟩
theorem tR{N:List Pj}(c:N.Nodup){i j:Nat}{x:Pj}(a:N[i]?=on x)(b:N[j]?=on x):i=j:=by
 obtain⟨f,d⟩:=OF.mp a;obtain⟨g,e⟩:=OF.mp b;exact(List.getElem_inj c).mp (d.trans e.symm)
theorem kH{M:Model}{E:Ov->OB->Prop}(I:dk X a_ σ H s)(hN:X.N.Nodup)(O:X.N[i]?=on x)(l:A_ X.env.scope x)(r:aI v u)
  (h:∀s',dk X a_ (σ.set i (on v)) H s'->(∃a,Pa a s.heap s'.heap/\(a=X.env.locals\/X.env.cells.lookup x=on a))->Q () s') (hf:X.fn x=On\/X.env.scope.names.lookup x=on .local:=by first|exact .inl rfl|exact .inr rfl|assumption):OH M A (storeName X.env x u) Q E s:=by
 obtain⟨m,hn,hl⟩:=id I.loc;have P:(X.env.scope.kind== .class||(X.env.scope.kind== .module&&X.env.locals !=X.env.globals))=Os:=by rw[I.ok.kind];rfl
 have C:i<σ.length:=by rw[I.len];exact(OF.mp O).1
 have cne:=I.cne;have f:∀{a:Oq} {h':P4},(∃o,s.heap.get? a=on o/\H a=Oi)->Pa a s.heap h'->lu X.prog X.w H h':=λ{a h'} ha hs b ob e=>by
  obtain⟨_,_,t⟩:=ha;refine(I.hok b ob e).stay (λc Y hc q=>(hs.2 c ?_).trans q) (λ_ q=>q) λ_ _ q=>q;rintro rfl;rcases hc with rfl|hc
  .rw[t]at e;cases e
  .rw[t]at hc;cases hc
 rcases l with hk|hk
 .refine wpAny_storeName_local hk hn (λh' hn' hs=>?_) P
  obtain⟨oL,_,_,hoL,_⟩:=id hn;refine h _ ⟨I.ok,I.os,I.bare,⟨λb o e n F l=>?_,λb o e n F l=>?_,I.base.free,λb o e l=>?_,I.base.tups,I.base.frzs,I.base.tbls⟩,⟨_,hn',λj y v' g B e3=>?_⟩,λy c e=>?_,I.free,I.freeC,λp hp=>?_,f ⟨oL,hoL,I.free⟩ hs,by simpa using I.len⟩ ⟨_,hs,.inl rfl⟩
  .exact(hs.2 b (Pr (O0 (OZ e) I.ok.above))).trans (I.base.keep b o e n F l)
  .obtain⟨sl,g⟩:=I.base.slot b o e n F l
   exact⟨sl,(hs.2 b (Pr (O0 (OZ e) I.ok.above))).trans g⟩
  .obtain⟨o',g⟩:=I.base.there b o e l
   exact⟨o',(hs.2 b (Pr (O0 (OZ e) I.ok.above))).trans g⟩
  .by_cases J:j=i
   .subst J
    rw[O]at g;cases g;rw[WL C]at B;cases B;exact⟨u,r,.inl ⟨hk,by simp⟩⟩
   .rw[Xh (Ne.symm J)]at B
    obtain⟨u',r',q⟩:=hl j y v' g B e3;refine⟨u',r',?_⟩;rcases q with⟨k,e⟩|⟨k,c,e,z⟩
    .refine .inl ⟨k,?_⟩
     have:y≠x:=λe=>J (tR hN g (e▸O));simp[this,e]
    .exact .inr ⟨k,c,e,z.sameBut hs (cne y c e)⟩
  .obtain⟨Y,z⟩:=I.cell y c e
   exact⟨Y,z.sameBut hs (cne y c e)⟩
  .obtain⟨e,n,ne,nf,d⟩:=I.pin p hp
   exact⟨(hs.2 p.1 ne).trans e,n,ne,nf,d⟩
 .have L:X.fn x=On:=by
   rcases hf with z|z
   .exact z
   .rw[z]at hk;cases hk
  obtain⟨c,hc⟩:=I.ok.has x (.inl hk);obtain⟨Y,z⟩:=I.cell x c hc;refine wpAny_storeName_cell I.ok.kind hk hc z (λh' R hs=>?_);obtain⟨oc,T,U⟩:=id z;refine h {s with heap:=h'} ⟨I.ok,I.os,I.bare,⟨λb o e n F l=>?_,λb o e n F l=>?_,I.base.free,λb o e l=>?_,I.base.tups,I.base.frzs,I.base.tbls⟩,⟨m,hn.sameBut hs (Ne.symm (cne x c hc)),λj y v' g B e3=>?_⟩,λy Z e=>?_,I.free,I.freeC,λp hp=>?_,f ⟨oc,T,I.freeC x c hc⟩ hs,by simpa using I.len⟩ ⟨c,hs,.inr hc⟩
  .exact(hs.2 b (Pr (O0 (OZ e) (I.ok.cab x c L hc)))).trans (I.base.keep b o e n F l)
  .obtain⟨sl,g⟩:=I.base.slot b o e n F l
   exact⟨sl,(hs.2 b (Pr (O0 (OZ e) (I.ok.cab x c L hc)))).trans g⟩
  .obtain⟨o',g⟩:=I.base.there b o e l
   exact⟨o',(hs.2 b (Pr (O0 (OZ e) (I.ok.cab x c L hc)))).trans g⟩
  .by_cases J:j=i
   .subst J
    rw[O]at g;cases g;rw[WL C]at B;cases B;exact⟨u,r,.inr ⟨.inl hk,c,hc,R⟩⟩
   .rw[Xh (Ne.symm J)]at B
    obtain⟨u',r',q⟩:=hl j y v' g B e3;refine⟨u',r',?_⟩;rcases q with q|⟨k,Z,e,z'⟩
    .exact .inl q
    .refine .inr ⟨k,Z,e,z'.sameBut hs ?_⟩
     rintro rfl;exact J (tR hN g (I.ok.inj _ _ _ e hc▸O))
  .by_cases W:Z=c
   .subst W;exact⟨_,R⟩
   .obtain⟨w2,z2⟩:=I.cell y Z e
    exact⟨w2,z2.sameBut hs W⟩
  .obtain⟨e,n,ne,nf,d⟩:=I.pin p hp
   refine⟨(hs.2 p.1 ?_).trans e,n,ne,nf,d⟩;intro q;rw[q,T]at e;have q':oc=p.2:=O8 e;exact d Y (by rw[<-q'];exact U)
theorem np{M:Model}{E:Ov->OB->Prop}(I:dk X a_ σ H s)(a:X.N.Nodup)(b:X.N[i]?=on x)(c:A_ X.env.scope x)(r:aI v u)
  (h:∀s',dk X a_ (σ.set i (on v)) H s'->Q () s') (d:X.fn x=On\/X.env.scope.names.lookup x=on .local:=by first|exact .inl rfl|exact .inr rfl|assumption):OH M A (storeName X.env x u) Q E s:=
 kH I a b c r (λs' e _=>h s' e) d
theorem dk.call'{s':OB}{ch:List Oq}(I:dk X a_ σ H s)(d:s'.os=s.os)(u:Un (h8 X.stack) ch H H' s.heap s'.heap)(hok:lu X.prog X.w H' s'.heap)(f:T5 s'.gens)
  (a:∀b∈ch,(b∈X.ex\/X.s₀.heap.objs.size<=b)/\b≠X.env.locals/\(∀x c,X.env.cells.lookup x=on c->c≠b)/\∀p∈X.pn++a_,p.1≠b):dk X a_ σ H' s':=by
 obtain⟨h',g',d',t',g⟩:=s';have e:g=s.os:=d;subst e;exact I.call (g':=g') (t':=t') (d':=d') u hok f a
abbrev XK:=Ov->Option Oq->Hp->Prop
abbrev St:=List (Option V)
abbrev VK:=V->Hp->Prop
abbrev TE:=St->Hp->VK->Prop
abbrev TT:=St->Hp->(Bool->Hp->Prop)->Prop
abbrev TA:=St->Hp->(List V->Hp->Prop)->Prop
structure pw where
 nx:St->Hp->Prop
 rt:VK
 bk:St->Hp->Prop:=λ_ _=>False
 ct:St->Hp->Prop:=λ_ _=>False
abbrev TS:=pw->St->Hp->Prop
def EP(X:Cx)(a_:List (Oq×O7))(σ:St)(Q:VK)(u:Ov)(s':OB):Prop:=∃v H',dk X a_ σ H' s'/\aI v u/\Q v H'
def TP(X:Cx)(a_:List (Oq×O7))(σ:St)(Q:Bool->Hp->Prop)(b:Bool)(s':OB):Prop:=∃H',dk X a_ σ H' s'/\Q b H'
def AP(X:Cx)(a_:List (Oq×O7))(σ:St)(Q:List V->Hp->Prop)(us:List Ov)(s':OB):Prop:=∃vs H',dk X a_ σ H' s'/\au vs us/\Q vs H'
def SP(X:Cx)(a_:List (Oq×O7))(D:pw)(f:Flow)(s':OB):Prop:=
 match f with
 | .next=>∃a H',dk X a_ a H' s'/\D.nx a H'
 | .brk=>∃a H',dk X a_ a H' s'/\D.bk a H'
 | .cont=>∃a H',dk X a_ a H' s'/\D.ct a H'
 | .ret u=>∃v a H',dk X a_ a H' s'/\aI v u/\D.rt v H'
def PE(X:Cx)(e:Expr)(t:TE):Prop:=
 ∀(a_:List (Oq×O7)) (s:OB) (σ:St) (H:Hp) (Q:VK),dk X a_ σ H s->t σ H Q->OH (O4 X.prog X.w) X.A (PZ e X.env) (EP X a_ σ Q) X.xe s
def PT(X:Cx)(e:Expr)(t:TT):Prop:=
 ∀(a_:List (Oq×O7)) (s:OB) (σ:St) (H:Hp) (Q:Bool->Hp->Prop),dk X a_ σ H s->t σ H Q->OH (O4 X.prog X.w) X.A (isTrue e X.env (PZ e X.env)) (TP X a_ σ Q) X.xe s
def PW(X:Cx)(e:Expr)(t:TT):Prop:=
 ∀(a:Sem Ov) (a_:List (Oq×O7)) (s:OB) (σ:St) (H:Hp) (Q:Bool->Hp->Prop),dk X a_ σ H s->t σ H Q->OH (O4 X.prog X.w) X.A (isTrue e X.env a) (TP X a_ σ Q) X.xe s
theorem PW.pt{X:Cx}(h:PW X e t):PT X e t:=h _
def PA(X:Cx)(es:List Expr)(t:TA):Prop:=
 ∀(pos:TD) (a_:List (Oq×O7)) (s:OB) (σ:St) (H:Hp) (Q:List V->Hp->Prop),dk X a_ σ H s->t σ H Q->OH (O4 X.prog X.w) X.A (spliced (QX pos (OJ es X.env))) (AP X a_ σ Q) X.xe s
def PS(X:Cx)(st:Qe)(t:TS):Prop:=
 ∀(a_:List (Oq×O7)) (s:OB) (σ:St) (H:Hp) (D:pw),dk X a_ σ H s->t D σ H->OH (O4 X.prog X.w) X.A (exec st X.env) (SP X a_ D) X.xe s
def PSs(X:Cx)(st:List Qe)(t:TS):Prop:=
 ∀(a_:List (Oq×O7)) (s:OB) (σ:St) (H:Hp) (D:pw),dk X a_ σ H s->t D σ H->OH (O4 X.prog X.w) X.A (execs st X.env) (SP X a_ D) X.xe s
theorem e_{α:Type}{t:Sem α}{Q b:α->OB->Prop}{M:Model}{A:PU}{E:Ov->OB->Prop}{s:OB}(h:OH M A t Q E s)(c:∀a s,Q a s->b a s):OH M A t b E s:=PN h c λ_ _ x=>x
def jI(i:Nat):TE:=λσ H Q=>∃v,σ[i]?=on (on v)/\Q v H
def tC(v:V):TE:=λ_ H Q=>Q v H
theorem K0(g:X.N[i]?=on x)(j:YW X.env.scope x)(hd:(x==("__debug__":Pj))=Os:=by decide)(d:(x==("__classdict__":Pj))=Os:=by decide):PE X (.Name x pos) (jI i):=by
 intro a_ s σ H Q I h;obtain⟨v,e,h⟩:=h;obtain⟨m,hn,k⟩:=I.loc;obtain⟨u,r,l⟩:=k i x v g e j;have b:EP X a_ σ Q u s:=⟨v,H,I,r,h⟩;rcases l with⟨hk,hm⟩|⟨hk,c,f,a⟩
 .exact wpAny_Name (wpAny_loadName_local I.ok.kind hk hn hm b) hd
 .rcases hk with hk|hk
  .exact wpAny_Name (wpAny_loadName_cell I.ok.kind hk f a b) hd
  .exact wpAny_Name (wpAny_loadName_free I.ok.kind hk f a b d) hd
theorem bL{i j pos}:PE X (.Constant (.int i) j pos) (tC (.int i)):=λ_ _ _ H _ I h=>wpAny_Constant_int ⟨.int i,H,I.tok _,⟨_,rfl⟩,h⟩
theorem Nz{b j pos}:PE X (.Constant (.bool b) j pos) (tC (.bl b)):=λ_ _ _ H _ I h=>Constant_bool ⟨.bl b,H,I,rfl,h⟩
theorem K4{j pos}:PE X (.Constant .none j pos) (tC .non):=λ_ _ _ H _ I h=>Constant_none ⟨.non,H,I,rfl,h⟩
def Gl(X:Cx)(x:Pj):Prop:=X.env.kindOf x=on .globalImplicit
theorem qi{E:Ov->OB->Prop}{a_:List (Oq×O7)}{s:OB}{σ:St}{H:Hp}(I:dk X a_ σ H s)(a:Gl X x)(hm:X.mg x=on u)(h:Q u s)
  (hd:(x==("__debug__":Pj))=Os:=by decide):OH (O4 X.prog X.w) X.A (PZ (.Name x pos) X.env) Q E s:=
 VS I.ok.kind a (Calls.loadGlobal_global (by rw[I.ok.glob];exact I.mod.glob.keeps I.bk) hm h) hd
theorem fF{E:Ov->OB->Prop}{a_:List (Oq×O7)}{s:OB}{σ:St}{H:Hp}(I:dk X a_ σ H s)(a:Gl X x)(hm:X.mg x=Oi)(b:SC x=on u)(h:Q u s)
  (hn:x≠"__name__":=by decide) (hd:(x==("__debug__":Pj))=Os:=by decide):OH (O4 X.prog X.w) X.A (PZ (.Name x pos) X.env) Q E s:=by
 obtain⟨e,c,d⟩:=I.mod.blt;exact VS I.ok.kind a (Calls.loadGlobal_builtin (by rw[I.ok.glob];exact I.mod.glob.keeps I.bk) hm (by rw[I.ok.blt];exact c.keeps I.bk) ((d x hn).trans b) h) hd
theorem Jo(a:Gl X x)(hm:X.mg x=on u)(r:aI v u)(hd:(x==("__debug__":Pj))=Os:=by decide):PE X (.Name x pos) (tC v):=
 λ_ _ _ H _ I h=>qi I a hm ⟨v,H,I,r,h⟩ hd
theorem cT(a:Gl X x)(hm:X.mg x=Oi)(b:SC x=on u)(r:aI v u)(hn:x≠"__name__":=by decide)(hd:(x==("__debug__":Pj))=Os:=by decide):PE X (.Name x pos) (tC v):=
 λ_ _ _ H _ I h=>fF I a hm b ⟨v,H,I,r,h⟩ hn hd
variable{a b:Expr}{ta tb:TE}{pos:TD}
variable{tA tB':TT}{rest:List Expr}
def Kl(t u:TT):TT:=λσ H Q=>t σ H λc d=>if c=On then u σ d Q else Q Os d
def tOr(t u:TT):TT:=λσ H Q=>t σ H λc d=>if c=On then Q On d else u σ d Q
def Zy(t:TT):TT:=λσ H Q=>t σ H λc d=>Q (!c) d
theorem Ji(ha:PT X a tA):PW X (.BoolOp .And [a] pos) tA:=by
 intro d a_ s σ H Q I h;refine isTrue_and (e_ (ha a_ s σ H Q I h) λc f e=>?_);cases c with
 |true=>exact isTrue_and_nil e
 |false=>exact e
theorem KR(ha:PT X a tA):PW X (.BoolOp .Or [a] pos) tA:=by
 intro d a_ s σ H Q I h;refine isTrue_or (e_ (ha a_ s σ H Q I h) λc f e=>?_);cases c with
 |false=>exact isTrue_or_nil e
 |true=>exact e
theorem KS(ha:PT X a tA)(f:PW X (.BoolOp .And (b::rest) pos) tB'):PW X (.BoolOp .And (a::b::rest) pos) (Kl tA tB'):=by
 intro g a_ s σ H Q I h;refine isTrue_and (e_ (ha a_ s σ H _ I h) λc i ⟨d,e,q1⟩=>?_);cases c with
 |true=>exact f g a_ i σ d Q e q1
 |false=>exact⟨d,e,q1⟩
theorem Nx(ha:PT X a tA)(f:PW X (.BoolOp .Or (b::rest) pos) tB'):PW X (.BoolOp .Or (a::b::rest) pos) (tOr tA tB'):=by
 intro g a_ s σ H Q I h;refine isTrue_or (e_ (ha a_ s σ H _ I h) λc i ⟨d,e,q1⟩=>?_);cases c with
 |true=>exact⟨d,e,q1⟩
 |false=>exact f g a_ i σ d Q e q1
theorem KV(ha:PT X a tA):PT X (.UnaryOp .Not a pos) (Zy tA):=by
 intro a_ s σ H Q I h;exact isTrue_not (ha a_ s σ H (λc d=>Q (!c) d) I h)
def Nk(ta tb:TE):TE:=λσ H Q=>ta σ H λx d=>∃c,x= .bl c/\if c=On then tb σ d Q else Q (.bl Os) d
theorem K3{op}(h:PE X a t):PE X (.BoolOp op [a] pos) t:=λa_ s σ H Q I c=>BoolOp_one (h a_ s σ H Q I c)
theorem K6(ha:PE X a ta)(f:PE X (.BoolOp .And (b::rest) pos) tb):PE X (.BoolOp .And (a::b::rest) pos) (Nk ta tb):=by
 intro a_ s σ H Q I h;refine BoolOp_and (e_ (ha a_ s σ H _ I h) λv g ⟨x,d,e,r1,q1⟩=>?_);obtain⟨c,rfl,q1⟩:=q1;cases r1;refine P7 ?_;cases c with
 |true=>exact f a_ g σ d Q e q1
 |false=>exact⟨.bl Os,d,e,rfl,q1⟩
def tIf(t:TT)(ta tb:TE):TE:=λσ H Q=>t σ H λc d=>if c=On then ta σ d Q else tb σ d Q
theorem BV(i:PT X c tA)(ha:PE X a ta)(j:PE X b tb):PE X (.IfExp c a b pos) (tIf tA ta tb):=by
 intro a_ s σ H Q I h;refine wpAny_IfExp (e_ (i a_ s σ H _ I h) λd e ⟨f,g,q1⟩=>?_);cases d with
 |true=>exact ha a_ e σ f Q g q1
 |false=>exact j a_ e σ f Q g q1
def fy(K:OU)(H:Hp)(a:Oq)(xs:List V):Prop:=
 Rd H a (.lst xs)\/
  ∃(o:O7) (its:Array Ov) (n:Nat),K.lookup a=on o/\o.cls= .type "list"/\o.dict=Oi/\o.data= .seq its n/\its.size<=OS/\au xs its.toList
def jn(K:OU)(H:Hp)(a:Oq)(xs:List V):Prop:=
 Rd H a (.tup xs)\/
  ∃(o:O7) (its:Array Ov) (n:Nat),K.lookup a=on o/\o.cls= .type "tuple"/\o.data= .seq its n/\its.size<=OS/\au xs its.toList
noncomputable def absV:Ov->Option V
 | .none=>on .non
 | .bool b=>on (.bl b)
 | .int i _=>on (.int i)
 | .str x _=>on (.str x)
 | .ref a=>on (.ref a)
 | .type n=>on (.ty n)
 |_=>Oi
theorem aI.abs(r:aI x u):absV u=on x:=by
 cases x with
 |non=>cases r;rfl
 |bl _=>cases r;rfl
 |int _=>obtain⟨t,rfl⟩:=r;rfl
 |str _=>obtain⟨t,rfl⟩:=r;rfl
 |ref _=>cases r;rfl
 |ty _=>cases r;rfl
theorem aI.inj(r:aI x u)(q:aI y u):x=y:=O8 (r.abs.symm.trans q.abs)
theorem au.inj:∀{xs ys:List V} {us:List Ov},au xs us->au ys us->xs=ys
 |_,_,_,.nil,.nil=>rfl
 |_,_,_,.cons r t,.cons r' t'=>by rw[r.inj r',au.inj t t']
end
section
variable{X:Cx}{a_:List (Oq×O7)}{σ:St}{H:Hp}{s:OB}{a:Oq}{xs ys:List V}
theorem fy.of{K:OU}(h:H a=on (.lst xs)):fy K H a xs:= .inl (.inl h)
theorem dk.list(I:dk X a_ σ H s)(h:fy X.K H a xs):∃its:List Ov,au xs its/\PlainL s.heap a its.toArray/\xs.length<=OS:=by
 rcases h with h|⟨o,its,n,b,c,hd,hs,d,r⟩
 .obtain⟨z,its,n,r,e⟩:=h.ok I.hok
  exact⟨its,r,⟨_,n,e,rfl,rfl,rfl⟩,z⟩
 .refine⟨its.toList,r,⟨o,n,I.kIn a o b,c,hd,by simpa using hs⟩,?_⟩
  have e:=r.length;simp only[Pb]at e;omega
theorem dk.tuple(I:dk X a_ σ H s)(h:jn X.K H a xs):∃its:List Ov,au xs its/\IsTup s.heap a its.toArray/\xs.length<=OS:=by
 rcases h with h|⟨o,its,n,b,c,hs,d,r⟩
 .obtain⟨z,its,r,p⟩:=h.ok I.hok
  exact⟨its,r,p,z⟩
 .refine⟨its.toList,r,⟨o,I.kIn a o b,c,n,by simpa using hs⟩,?_⟩
  have e:=r.length;simp only[Pb]at e;omega
theorem dk.list_inj(I:dk X a_ σ H s)(h:fy X.K H a xs)(h':fy X.K H a ys):xs=ys:=by
 obtain⟨its,r,⟨o,n,e,_,_,d⟩,_⟩:=I.list h;obtain⟨its',c,⟨f,g,b,_,_,d'⟩,_⟩:=I.list h';rw[e]at b;cases b;rw[d]at d'
 injection d' with d1 _
 have:its=its':=by simpa using Px Array.toList d1
 subst this;exact r.inj c
theorem dk.tuple_inj(I:dk X a_ σ H s)(h:jn X.K H a xs)(h':jn X.K H a ys):xs=ys:=by
 obtain⟨its,r,⟨o,e,_,n,d⟩,_⟩:=I.tuple h;obtain⟨its',c,⟨f,b,_,g,d'⟩,_⟩:=I.tuple h';rw[e]at b;cases b;rw[d]at d'
 injection d' with d1 _
 have:its=its':=by simpa using Px Array.toList d1
 subst this;exact r.inj c
noncomputable abbrev Cx.wish(X:Cx)(E:Ov->OB->Prop):Cx:={X with xe:=E}
noncomputable abbrev Cx.nox(X:Cx):Cx:=X.wish λ_ _=>False
theorem Cx.Ok.wish{X:Cx}(ok:X.Ok)(E:Ov->OB->Prop):(X.wish E).Ok:=
 ⟨ok.mod,ok.kind,ok.glob,ok.blt,ok.above,ok.inj,ok.has,ok.cab,ok.hd,ok.frames,ok.stk,ok.exf,ok.bs,ok.bsz,ok.noex,ok.exfs,ok.funs,ok.frf⟩
theorem Cx.Ok.unwish{X:Cx}{E:Ov->OB->Prop}(ok:(X.wish E).Ok):X.Ok:=
 ⟨ok.mod,ok.kind,ok.glob,ok.blt,ok.above,ok.inj,ok.has,ok.cab,ok.hd,ok.frames,ok.stk,ok.exf,ok.bs,ok.bsz,ok.noex,ok.exfs,ok.funs,ok.frf⟩
variable{E:Ov->OB->Prop}
theorem dk.wish(I:dk X a_ σ H s)(E:Ov->OB->Prop):dk (X.wish E) a_ σ H s:=⟨I.ok.wish E,I.os,I.bare,I.base,I.loc,I.cell,I.free,I.freeC,I.pin,I.hok,I.len⟩
theorem dk.unwish(I:dk (X.wish E) a_ σ H s):dk X a_ σ H s:=⟨I.ok.unwish,I.os,I.bare,I.base,I.loc,I.cell,I.free,I.freeC,I.pin,I.hok,I.len⟩
theorem SP.unwish{D:pw}(h:SP (X.wish E) a_ D f s'):SP X a_ D f s':=by
 cases f with
 |next=>obtain⟨b,c,I,q⟩:=h;exact⟨b,c,I.unwish,q⟩
 |brk=>obtain⟨b,c,I,q⟩:=h;exact⟨b,c,I.unwish,q⟩
 |cont=>obtain⟨b,c,I,q⟩:=h;exact⟨b,c,I.unwish,q⟩
 |ret u=>obtain⟨v,b,c,I,r,q⟩:=h;exact⟨v,b,c,I.unwish,r,q⟩
theorem PSs.nox{st:List Qe}(h:PSs X.nox st t):PSs X st t:=λa_ s σ H D I b=>
 PN (h a_ s σ H D (I.wish _) b) (λ_ _ q=>q.unwish) λ_ _ z=>Rf z
variable{st:Qe}{rest:List Qe}{t u:TS}{e:Expr}{te:TE}{pos:TD}
noncomputable def Ni:TS:=λD σ H=>D.nx σ H
def Zw(t u:TS):TS:=λD σ H=>t {D with nx:=u D} σ H
theorem ml:PSs X [] Ni:=λ_ _ σ H _ I h=>WD ⟨σ,H,I,h⟩
theorem cm(c:PS X st t)(d:PSs X rest u):PSs X (st::rest) (Zw t u):=by
 intro a_ s σ H D I h;refine wpAny_execs_cons (e_ (c a_ s σ H {D with nx:=u D} I h) λf g q=>?_);cases f with
 |next=>
  obtain⟨b,i,j,q⟩:=q;exact d a_ g b i D j q
 |ret v=>exact q
 |brk=>exact q
 |cont=>exact q
theorem gT(b:PS X st t):PSs X [st] t:=by
 intro a_ s σ H D I h;refine wpAny_execs_cons (e_ (b a_ s σ H D I h) λf c q=>?_);cases f with
 |next=>exact WD q
 |ret v=>exact q
 |brk=>exact q
 |cont=>exact q
theorem dk.quiet{a_:List (Oq×O7)}{σ:St}{H:Hp}{s:OB}(I:dk X a_ σ H s):interactive X.env=Os:=by simp[interactive,I.ok.kind]
def ww(te:TE):TS:=λD σ H=>te σ H λ_ b=>D.nx σ b
theorem de(b:PE X e te)(hs:Ts e Oi pos.line X.env=QR Os:=by rfl):PS X (.Expr e pos) (ww te):=by
 intro a_ s σ H D I h;exact wpAny_Expr_any (e_ (b a_ s σ H _ I h) λv f ⟨x,c,d,r1,q1⟩=>⟨σ,c,d,q1⟩) I.quiet hs
def ng(te:TE):TS:=λD σ H=>te σ H D.rt
theorem ax(b:PE X e te):PS X (.Return (on e) pos) (ng te):=by
 intro a_ s σ H D I h;exact wpAny_Return_some (e_ (b a_ s σ H _ I h) λv f ⟨x,c,d,r1,q1⟩=>⟨x,σ,c,d,r1,q1⟩)
def Zz(c:TT)(t u:TS):TS:=λD σ H=>c σ H λb d=>if b=On then t D σ d else u D σ d
theorem wL{a b:List Qe}(j:PT X c tc)(ha:PSs X a t)(k:PSs X b u):PS X (.If c a b pos) (Zz tc t u):=by
 intro a_ s σ H D I h;refine wpAny_If (e_ (j a_ s σ H _ I h) λd f ⟨g,i,q1⟩=>?_);cases d with
 |true=>exact ha a_ f σ g D i q1
 |false=>exact k a_ f σ g D i q1
abbrev TG:=V->St->Hp->(St->Hp->Prop)->Prop
abbrev P_:=List V->St->Hp->(St->Hp->Prop)->Prop
def PG(X:Cx)(b:Expr)(t:TG):Prop:=
 ∀(a_:List (Oq×O7)) (s:OB) (σ:St) (H:Hp) (v:V) (u:Ov) (Q:St->Hp->Prop),dk X a_ σ H s->aI v u->t v σ H Q->
  OH (O4 X.prog X.w) X.A (TY b X.env u) (λ_ s'=>∃c d,dk X a_ c d s'/\Q c d) X.xe s
def Zo(X:Cx)(d:List Expr)(t:P_):Prop:=
 ∀(a_:List (Oq×O7)) (s:OB) (σ:St) (H:Hp) (vs:List V) (us:List Ov) (Q:St->Hp->Prop),dk X a_ σ H s->au vs us->t vs σ H Q->
  OH (O4 X.prog X.w) X.A (assignInOrder ((UU d X.env).map (·.2)) us) (λ_ s'=>∃b c,dk X a_ b c s'/\Q b c) X.xe s
abbrev GB:=V->V->V->Hp->(Hp->Prop)->Prop
def GC(X:Cx)(t:GB):Prop:=
 ∀(a_:List (Oq×O7)) (s:OB) (σ:St) (H:Hp) (o i v:V) (b c u:Ov) (Q:Hp->Prop),dk X a_ σ H s->aI o b->aI i c->aI v u->t o i v H Q->
  OH (O4 X.prog X.w) X.A (setItem b c u) (λ_ s'=>∃d,dk X a_ σ d s'/\Q d) X.xe s
abbrev Zm:=V->V->Hp->VK->Prop
def Zn(X:Cx)(op:Operator)(t:Zm):Prop:=
 ∀(a_:List (Oq×O7)) (s:OB) (σ:St) (H:Hp) (x y:V) (v u:Ov) (Q:VK),dk X a_ σ H s->aI x v->aI y u->t x y H Q->
  OH (O4 X.prog X.w) X.A (inplaceOp op v u) (EP X a_ σ Q) X.xe s
def dC(i:Nat):TG:=λv σ H Q=>Q (σ.set i (on v)) H
theorem vp(b:X.N.Nodup)(c:X.N[i]?=on x)(d:A_ X.env.scope x)(f:X.fn x=On\/X.env.scope.names.lookup x=on .local:=by first|exact .inl rfl|exact .inr rfl|assumption):PG X (.Name x pos) (dC i):=by
 intro a_ s σ H v u Q I r h;exact V2 (np I b c d r (λs' g=>⟨_,H,g,h⟩) f)
noncomputable def gNil:P_:=λvs σ H Q=>vs=[]/\Q σ H
def xp(t:TG)(u:P_):P_:=λvs σ H Q=>∃v r,vs=v::r/\t v σ H λb c=>u r b c Q
theorem bq:Zo X [] gNil:=by
 intro a_ s σ H vs us Q I r h;obtain⟨e,h⟩:=h;subst e;cases r;exact assignInOrder_nil ⟨σ,H,I,h⟩
theorem ay{e:Expr}{t:TG}{u:P_}(c:PG X e t)(d:Zo X es u)
  (hs:(UU (e::es) X.env).map (·.2)=TY e X.env::(UU es X.env).map (·.2):=by rfl):Zo X (e::es) (xp t u):=by
 intro a_ s σ H vs us Q I r h;obtain⟨v,l,f,h⟩:=h;subst f;cases r with
 |cons r g=>
  rw[hs];refine assignInOrder_cons (e_ (c a_ s σ H _ _ _ I r h) λ_ i ⟨b,j,k,q1⟩=>?_);exact d a_ i b j _ _ Q k g q1
def DI(K:OU)(n:Nat)(t:P_):TG:=λv σ H Q=>∃a xs,v= .ref a/\jn K H a xs/\xs.length=n/\t xs σ H Q
theorem bK{t:P_}(g:X.calm=On)(h:Zo X es t)
  (hn:(UU es X.env).length=n:=by rfl) (c:(UU es X.env).findIdx? (·.1)=Oi:=by rfl):PG X (.Tuple es k pos) (DI X.K n t):=by
 intro a_ s σ H v u Q I r d;obtain⟨a,xs,i,j,l,d⟩:=d;subst i;cases r;obtain⟨its,f,m,w⟩:=I.tuple j;refine assign_Tuple_tuple (I.ok.hd g) m (by simp[hn,<-l,f.length]) c λh' p=>?_;have q:dk X a_ σ H {s with heap:=h'}:=I.kept (t':=s.toks) λb o e=>p b o (Pr (OZ e)) e;exact h a_ _ σ H xs _ Q q (by simpa using f) d
def DJ(to b:TE)(t:GB):TG:=λv σ H Q=>to σ H λo c=>b σ c λi d=>t o i v d λf=>Q σ f
theorem ig{t:GB}(d:PE X o to)(f:PE X i ti)(hs:GC X t)
  (ha:∀v,TY (.Subscript o i pos) X.env v=(do
   let b <-SN [v] (PZ o X.env)
   let c <-SN [v,b] (PZ i X.env)
   Si pos
   SN [v,b,c] (setItem b c v)
   release [v,b,c] []):=by intro _;rfl):PG X (.Subscript o i pos) (DJ to ti t):=by
 intro a_ s σ H v u Q I r h;rw[ha];refine My (P3 (e_ (d a_ s σ H _ I h) λb g ⟨x,j,k,r1,q1⟩=>?_));refine My (P3 (e_ (f a_ g σ j _ k q1) λc l ⟨y,m,n,p,q2⟩=>?_));refine My (Q2 (My (P3 (e_ (hs a_ l σ m x y v b c u _ n r1 p r q2) λ_ A ⟨q,w,q3⟩=>?_))));exact wpAny_release ⟨σ,q,w,q3⟩
def ff(te:TE)(g:TG):TS:=λD σ H=>te σ H λx b=>g x σ b D.nx
theorem fq{tg e:Expr}{te:TE}(b:PE X e te)(c:PG X tg g)(hs:swapsWithSole [tg] e pos.line X.env=QR Os:=by rfl)(d:swappedStores [tg] e X.env=QR Oi:=by rfl)
  (f:(UU [tg] X.env).map (·.2)=[TY tg X.env]:=by rfl):PS X (.Assign [tg] e pos) (ff te g):=by
 intro a_ s σ H D I h;refine wpAny_Assign_stores (e_ (b a_ s σ H _ I h) λv i ⟨x,j,k,r1,q1⟩=>?_) hs d;rw[f];exact e_ (c a_ i σ j x v _ k r1 q1) λ_ l q=>q
theorem oV{e:Expr}{te:TE}(b:X.N.Nodup)(c:X.N[i]?=on x)(d:A_ X.env.scope x)(f:PE X e te)(hs:Ts e (on (.Name x pos')) pos.line X.env=QR Os:=by rfl)(g:X.fn x=On\/X.env.scope.names.lookup x=on .local:=by first|exact .inl rfl|exact .inr rfl|assumption):
  PS X (.Assign [.Name x pos'] e pos) (ff te (dC i)):=by
 intro a_ s σ H D I h;refine wpAny_Assign_Name (e_ (f a_ s σ H _ I h) λv m ⟨y,j,k,r1,q1⟩=>?_) hs;exact np k b c d r1 (λn l=>⟨_,j,l,q1⟩) g
def Kk(i:Nat)(te:TE)(b:Zm):TS:=λD σ H=>∃x,σ[i]?=on (on x)/\te σ H λy c=>b x y c λz d=>D.nx (σ.set i (on z)) d
theorem kX{e:Expr}{te:TE}(o:X.N.Nodup)(n:X.N[i]?=on x)(g:A_ X.env.scope x)(p:PE X e te)(q:Zn X op ti)(B:X.fn x=On\/X.env.scope.names.lookup x=on .local:=by first|exact .inl rfl|exact .inr rfl|assumption):
  PS X (.AugAssign (.Name x pos') op e pos) (Kk i te ti):=by
 intro a_ s σ H D I h;obtain⟨v,C,h⟩:=h;obtain⟨m,hn,F⟩:=I.loc;have j:YW X.env.scope x:=by rcases g with k|k;exact .inl k;exact .inr (.inl k)
 obtain⟨u,r,l⟩:=F i x v n C j;refine wpAny_AugAssign_Name ?_;have go:OH (O4 X.prog X.w) X.A (PZ e X.env) (λw d=>OH (O4 X.prog X.w) X.A (inplaceOp op u w) (λr f=>OH (O4 X.prog X.w) X.A (storeName X.env x r) (λ_=>SP X a_ D .next) X.xe f) X.xe d) X.xe s:=by
  refine e_ (p a_ s σ H _ I h) λw J ⟨y,L,O,r1,q1⟩=>?_;refine e_ (q a_ J σ L v y u w _ O r r1 q1) λz W ⟨Y,P,Q,R,q2⟩=>?_;exact np Q o n g R (λZ T=>⟨_,P,T,q2⟩) B
 rcases l with⟨hk,hm⟩|⟨hk,c,U,b⟩
 .exact wpAny_loadName_local I.ok.kind hk hn hm go
 .rcases hk with hk|hk
  .exact wpAny_loadName_cell I.ok.kind hk U b go
  .rcases g with k|k
   .have:X.env.scope.names.lookup x=on .free:=hk
    rw[k]at this;cases this
   .have:X.env.scope.names.lookup x=on .free:=hk
    rw[k]at this;cases this
def ipI(f:Int->Int->Int):Zm:=λx y H Q=>∃i j,x= .int i/\y= .int j/\Q (.int (f i j)) H
theorem zG:Zn X .Add (ipI λi j=>i+j):=by
 intro a_ s σ H x y v u Q I r1 b h;obtain⟨i,j,c,d,q⟩:=h;subst c;subst d;obtain⟨t,rfl⟩:=r1;obtain⟨t',rfl⟩:=b;exact iadd_int ⟨.int _,H,I.tok _,⟨_,rfl⟩,q⟩
structure It where
 go:Nat->Hp->Prop
 yld:Nat->Hp->V->Hp->Prop
 stop:Nat->Hp->Prop
def eJ(X:Cx)(a_:List (Oq×O7))(H:Hp)(b:Oq):Prop:=
 H b=Oi/\b≠X.env.locals/\b∉X.fs/\(b∈X.ex\/X.s₀.heap.objs.size<=b)/\(∀x c,X.env.cells.lookup x=on c->c≠b)/\∀p∈X.pn++a_,p.1≠b
theorem dk.fpOk{X:Cx}{a_:List (Oq×O7)}{σ:St}{H f:Hp}{s:OB}{b:Oq}(I:dk X a_ σ H s)(d:s.heap.objs.size<=b)(hn:f b=Oi):eJ X a_ f b:=by
 refine⟨hn,Rb (O0 I.lt d),I.nofs d,.inr (OP I.sz d),λx c e z=>?_,λp g z=>?_⟩
 .obtain⟨v,q⟩:=I.cell x c e
  exact OX (O0 q.lt (by rw[z];exact d)) (PF _)
 .exact OX (O0 (OZ (I.pin p g).1) (by rw[z];exact d)) (PF _)
structure oa (P:Pc) (w:Pk) (K:OU) (tg:Expr) (J:It) (fp:List Oq) (it:Oq) (tn:Nat->P4->Prop):Prop where
 mem:it∈fp
 obj:∀i h,tn i h->∀b∈fp,∃o,h.get? b=on o/\∀v,o.data≠ .cell v
 keep:∀i h h',tn i h->(∀b∈fp,∀o,h.get? b=on o->h'.get? b=on o)->tn i h'
 item:∀(X:Cx),X.prog=P->X.w=w->X.K=K->X.calm=On->∀(i:Nat) (a_:List (Oq×O7)) (s:OB) (σ:St) (H:Hp) (E:Ov->OB->Prop),dk X a_ σ H s->(∀b∈fp,eJ X a_ H b)->tn i s.heap->J.go i H->
  OH (O4 P w) X.A (Sa (.ref it)) (λr s1=>∃u,r=on u/\
   OH (O4 P w) X.A (T0 tg (.ref it) u) (λ_ s2=>∃x H',dk X a_ σ H' s2/\aI x u/\J.yld i H x H'/\tn (i+1) s2.heap/\∀b∈fp,H' b=Oi) E s1) E s
 done:∀(X:Cx),X.prog=P->X.w=w->X.K=K->X.calm=On->∀(i:Nat) (a_:List (Oq×O7)) (s:OB) (σ:St) (H:Hp) (E:Ov->OB->Prop),dk X a_ σ H s->(∀b∈fp,eJ X a_ H b)->tn i s.heap->J.stop i H->
  OH (O4 P w) X.A (Sa (.ref it)) (λr s1=>r=Oi/\dk X a_ σ H s1) E s
 self:∀(A:PU) (i:Nat) (s:OB) (Q:Ov->OB->Prop) (E:Ov->OB->Prop),tn i s.heap->Q (.ref it) s->OH (O4 P w) A (UW (.ref it)) Q E s
abbrev TI:=St->Hp->(It->Hp->Prop)->Prop
def PIE(X:Cx)(a_:List (Oq×O7))(σ:St)(tg:Expr)(R:It->Hp->Prop)(c:Ov)(f:OB):Prop:=
 ∃(it:Oq) (g:List Oq) (h:Nat->P4->Prop) (J:It) (d:Hp),c= .ref it/\dk X a_ σ d f/\oa X.prog X.w X.K tg J g it h/\h 0 f.heap/\(∀b∈g,eJ X a_ d b)/\R J d
def PI(X:Cx)(tg b:Expr)(c:TI):Prop:=
 ∀(a_:List (Oq×O7)) (s:OB) (σ:St) (H:Hp) (R:It->Hp->Prop),dk X a_ σ H s->c σ H R->
  OH (O4 X.prog X.w) X.A (PZ b X.env) (λv d=>OH (O4 X.prog X.w) X.A (UW v) (PIE X a_ σ tg R) X.xe d) X.xe s
theorem rT{M:Model}{E:Ov->OB->Prop}{s:OB}{u:Ov}{o:O7}(c:s.heap.get? it=on o)(d:o.cls= .type n)(hd:o.data= .fields vs)
  (hn:["enumerate","zip","dict_itemiterator","dict_reverseitemiterator","odict_iterator","itertools.zip_longest","itertools.pairwise"].contains n=Os) (b:Q () s):OH M A (T0 tg (.ref it) u) Q E s:=by
 unfold T0;cases tg<;>first
  |exact Oj b
  |(cases u<;>first
   |exact Oj b
   |(refine My (wpAny_load c ?_)
     rw[d,hd];show OH M A (if(["enumerate","zip","dict_itemiterator","dict_reverseitemiterator","odict_iterator","itertools.zip_longest","itertools.pairwise"].contains n&&vs[0]?==on (RZ _))=On then _ else _) Q E s;rw[Ot (by intro h;rw[hn,TF]at h;cases h)];exact Oj b))
noncomputable def YZ(K:OU)(a:Oq):It:=
 ⟨λi H=>∃xs x,fy K H a xs/\xs[i]?=on x,λi H x b=>b=H/\∀xs,fy K H a xs->xs[i]?=on x,λi H=>∃xs,fy K H a xs/\xs.length<=i⟩
noncomputable def Itt(K:OU)(a:Oq):It:=
 ⟨λi H=>∃xs x,jn K H a xs/\xs[i]?=on x,λi H x b=>b=H/\∀xs,jn K H a xs->xs[i]?=on x,λi H=>∃xs,jn K H a xs/\xs.length<=i⟩
noncomputable def YY(lo:Int)(n:Nat):It:=⟨λi _=>i<n,λi H x b=>b=H/\x= .int (lo+i),λi _=>n<=i⟩
theorem qB{K:OU}(a it:Oq):oa P w K tg (YZ K a) [it] it (λi h=>h.IsListIter it a i) where
 mem:=by simp
 obj:=λi h st b f=>by
  have e:b=it:=by simpa using f
  subst e;obtain⟨o,e,c,d⟩:=st;exact⟨o,e,λv z=>by rw[d]at z;cases z⟩
 keep:=λi h h' st k=>st.at λo e=>k it (by simp) o e
 item:=by
  intro X m n q L i a_ s σ H E I j st r;subst m n q;obtain⟨xs,x,l,y⟩:=r;obtain⟨its,A,p,N⟩:=I.list l;obtain⟨u,O,Q⟩:=A.get y;obtain⟨B,f1,f2,C,F,J⟩:=j it (by simp);refine wpAny_pyNext_list_item st p.isList (x:=u) (by simpa using O) λh' g R=>?_;have T:dk X a_ σ H {s with heap:=h'}:=I.turned (t':=s.toks) (λb o f e=>(R.2 b f).trans e) B f1 C F J;obtain⟨o,e,c,d⟩:=id g;exact⟨u,rfl,rT (s:={s with heap:=h'}) e c d (by decide) ⟨x,H,T,Q,⟨rfl,λys U=>by rw[I.list_inj U l];exact y⟩,g,λb f=>(j b f).1⟩⟩
 done:=by
  intro X m n q L i a_ s σ H E I j st r;subst m n q;obtain⟨xs,l,y⟩:=r;obtain⟨its,A,p,N⟩:=I.list l;obtain⟨B,f1,f2,C,F,J⟩:=j it (by simp);have Y:=A.length;exact wpAny_pyNext_list_end (I.ok.hd L) st p.isList (by simp;omega) λh' W=>⟨rfl,I.turned (t':=s.toks) (λb o f e=>W b o f e) B f1 C F J⟩
 self:=λ_ _ _ _ _ st h=>wpAny_pyIter_listiter st h
theorem wn{K:OU}(a it:Oq):oa P w K tg (Itt K a) [it] it (λi h=>h.IsTupleIter it a i) where
 mem:=by simp
 obj:=λi h st b f=>by
  have e:b=it:=by simpa using f
  subst e;obtain⟨o,e,c,d⟩:=st;exact⟨o,e,λv z=>by rw[d]at z;cases z⟩
 keep:=λi h h' st k=>st.at λo e=>k it (by simp) o e
 item:=by
  intro X m n q L i a_ s σ H E I j st r;subst m n q;obtain⟨xs,x,l,y⟩:=r;obtain⟨its,A,p,N⟩:=I.tuple l;obtain⟨u,O,Q⟩:=A.get y;obtain⟨B,f1,f2,C,F,J⟩:=j it (by simp);refine wpAny_pyNext_tuple_item st (show s.heap.IsTuple a its.toArray from p) (x:=u) (by simpa using O) λh' g R=>?_;have T:dk X a_ σ H {s with heap:=h'}:=I.turned (t':=s.toks) (λb o f e=>(R.2 b f).trans e) B f1 C F J;obtain⟨o,e,c,d⟩:=id g;exact⟨u,rfl,rT (s:={s with heap:=h'}) e c d (by decide) ⟨x,H,T,Q,⟨rfl,λys U=>by rw[I.tuple_inj U l];exact y⟩,g,λb f=>(j b f).1⟩⟩
 done:=by
  intro X m n q L i a_ s σ H E I j st r;subst m n q;obtain⟨xs,l,y⟩:=r;obtain⟨its,A,p,N⟩:=I.tuple l;obtain⟨B,f1,f2,C,F,J⟩:=j it (by simp);have Y:=A.length;exact wpAny_pyNext_tuple_end (I.ok.hd L) st (show s.heap.IsTuple a its.toArray from p) (by simp;omega) λh' W=>⟨rfl,I.turned (t':=s.toks) (λb o f e=>W b o f e) B f1 C F J⟩
 self:=λ_ _ _ _ _ st h=>wpAny_pyIter_tupleiter st h
theorem wo{K:OU}(it:Oq)(lo:Int)(n:Nat):oa P w K tg (YY lo n) [it] it (λi h=>Wp h it (lo+(i:Nat)*1) ((n:Int)-(i:Nat)) 1) where
 mem:=by simp
 obj:=λi h st b c=>by
  have e:b=it:=by simpa using c
  subst e;exact⟨_,st,λv z=>by
   have C:Data.fields _=Data.cell v:=z;cases C⟩
 keep:=λi h h' st k=>k it (by simp) _ st
 item:=by
  intro X g j l m i a_ s σ H E I f st p;subst g j l;obtain⟨q,f1,f2,r,y,A⟩:=f it (by simp);have W:=Walks.range (prog:=X.prog) (w:=X.w) (I.ok.hd m) it lo 1 n;refine W.item i s _ _ p st λv h' B F d J=>?_;obtain⟨t,rfl⟩:=F;have L:dk X a_ σ H {s with heap:=h',toks:=B}:=I.turned (λb o c e=>J b o (by simpa using c) e) q f1 r y A;refine⟨_,rfl,rT (s:={s with heap:=h',toks:=B}) (n:="range_iterator") d rfl rfl (by decide) ⟨.int (lo+i),H,L,⟨t,?_⟩,⟨rfl,rfl⟩,d,λb c=>(f b c).1⟩⟩;rw[Int.mul_one]
 done:=by
  intro X g j l m i a_ s σ H E I f st p;subst g j l;obtain⟨q,f1,f2,r,y,A⟩:=f it (by simp);exact Yq (I.ok.hd m) st (by have:n<=i:=p;omega) λh' N=>⟨rfl,I.turned (t':=s.toks) (λb o c e=>N b o c e) q f1 r y A⟩
 self:=λ_ _ _ _ _ st h=>UZ st h
variable{tg:Expr}
def N5(K:OU)(c:TE):TI:=λσ H R=>c σ H λx b=>∃a,x= .ref a/\(∃xs,fy K b a xs)/\R (YZ K a) b
theorem Jl(f:PE X l tl):PI X tg l (N5 X.K tl):=by
 intro a_ s σ H R I h;refine e_ (f a_ s σ H _ I h) λv c ⟨x,g,d,r1,q1⟩=>?_;obtain⟨a,e,⟨xs,i⟩,q⟩:=q1;subst e;cases r1;obtain⟨its,k,p,m⟩:=d.list i;refine UD p.isList ?_;refine⟨c.heap.objs.size,[c.heap.objs.size],_,_,g,rfl,d.kept (t':=c.toks) λb o e=>Ol _ e,qB a _,⟨_,OI _ rfl,rfl,rfl⟩,λb j=>?_,q⟩;have e:b=c.heap.objs.size:=by simpa using j
 subst e;exact d.fpOk (OD _) (d.hok.fresh (OD _))
theorem tw{a_:List (Oq×O7)}{σ:St}{H:Hp}{s:OB}{E:Ov->OB->Prop}{lo c:Int}{t u v:Tok}(I:dk X a_ σ H s)(f:-(2^62)<=lo)(g:lo<2^62)(h:-(2^62)<=c)(i:c<2^62)
  (q:R (YY lo (c-lo).toNat) H):OH (O4 X.prog X.w) X.A (UW (.ref s.heap.objs.size)) (PIE X a_ σ tg R) E {s with heap:=s.heap.push {cls:= .type "range",data:= .fields #[.int lo t,.int c u,.int 1 v]},toks:=tk}:=by
 refine wpAny_pyIter_range (IsRange.new ..) (small_one f g h i) ?_;have d:dk X a_ σ H {s with heap:=s.heap.push {cls:= .type "range",data:= .fields #[.int lo t,.int c u,.int 1 v]},toks:=tk}:=I.kept λb o e=>Ol _ e;refine⟨(s.heap.push {cls:= .type "range",data:= .fields #[.int lo t,.int c u,.int 1 v]}).objs.size,[(s.heap.push {cls:= .type "range",data:= .fields #[.int lo t,.int c u,.int 1 v]}).objs.size],_,_,H,rfl,
  d.kept (t':=tk) λb o e=>Ol _ e,wo _ lo (c-lo).toNat,?_,λb j=>?_,q⟩
 .have k:lo+((0:Nat):Int)*1=lo:=by simp
  have l:(((c-lo).toNat:Nat):Int)-((0:Nat):Int)=Vn lo c 1:=by rw[rangeSize_one];split<;>omega
  show Wp _ _ (lo+((0:Nat):Int)*1) ((((c-lo).toNat:Nat):Int)-((0:Nat):Int)) 1;rw[k,l];exact OI _ rfl
 .have e:b=(s.heap.push {cls:= .type "range",data:= .fields #[.int lo t,.int c u,.int 1 v]}).objs.size:=by simpa using j
  subst e;exact d.fpOk (OD _) (d.hok.fresh (OD _))
def N3(b:TA):TI:=λσ H R=>b σ H λvs c=>∃j:Int,vs=[.int j]/\-(2^62)<=j/\j<2^62/\R (YY 0 j.toNat) c
def N2(b:TA):TI:=λσ H R=>b σ H λvs c=>∃i j:Int,vs=[.int i,.int j]/\(-(2^62)<=i/\i<2^62/\-(2^62)<=j/\j<2^62)/\R (YY i (j-i).toNat) c
theorem yO{a:Expr}{p pos:TD}(b:Gl X "range")(hm:X.mg "range"=Oi)(ha:PA X [a] ta)(hs:OJ [a] X.env=[(Os,PZ a X.env)]:=by rfl):PI X tg (.Call (.Name "range" p) [a] [] pos) (N3 ta):=by
 intro a_ s σ H R I h;refine Call_ (fF I b hm boot_range (Qh (e_ (ha pos a_ s σ H _ I h) λus f ⟨vs,g,c,r1,q1⟩=>?_) hs rfl));obtain⟨j,e,q1,q2,q⟩:=q1;subst e;cases r1 with
 |cons r d=>
  cases d;obtain⟨t,rfl⟩:=r;exact call_range_1 (tw c (by omega) (by omega) q1 q2 (by simpa using q))
theorem yN{a b:Expr}{p pos:TD}(f:Gl X "range")(hm:X.mg "range"=Oi)(ha:PA X [a,b] ta)(hs:OJ [a,b] X.env=[(Os,PZ a X.env),(Os,PZ b X.env)]:=by rfl)(c:OJ [b] X.env=[(Os,PZ b X.env)]:=by rfl):
  PI X tg (.Call (.Name "range" p) [a,b] [] pos) (N2 ta):=by
 intro a_ s σ H R I h;refine Call_ (fF I f hm boot_range (Qh (e_ (ha pos a_ s σ H _ I h) λus l ⟨vs,m,g,r1,q1⟩=>?_) (by rw[hs,c]) (by rw[c];rfl)));obtain⟨i,j,e,⟨q1,q2,q3,q4⟩,q⟩:=q1;subst e;cases r1 with
 |cons r d=>
  cases d with
  |cons k d=>
   cases d;obtain⟨t,rfl⟩:=r;obtain⟨t',rfl⟩:=k;exact call_range_2 (tw g q1 q2 q3 q4 q)
def wv(h:TI)(g:TG)(j:TS):TS:=λD σ H=>h σ H λJ k=>∃W:Nat->Nat->St->Hp->Prop,(∃m,W 0 m σ k)/\∀i m σ H,W i m σ H->
 (J.stop i H/\D.nx σ H)\/(J.go i H/\∃N:St->Hp->Prop,(∀b c,N b c->∃f,f<m/\W (i+1) f b c)/\∀x c,J.yld i H x c->g x σ c λd l=>j {D with nx:=N,ct:=N,bk:=D.nx} d l)
noncomputable def kY(c:List Oq)(h:P4):List (Oq×O7):=c.filterMap λb=>(h.get? b).map λo=>(b,o)
theorem gN{h:P4}(c:b∈fp)(e:h.get? b=on o):(b,o)∈kY fp h:=TM.mpr ⟨b,c,by rw[e];rfl⟩
theorem yW{h:P4}{p:Oq×O7}(c:p∈kY fp h):p.1∈fp/\h.get? p.1=on p.2:=by
 obtain⟨b,d,e⟩:=TM.mp c;cases q:h.get? b with
 |none=>rw[q]at e;cases e
 |some o=>
  rw[q]at e;have f:(b,o)=p:=O8 e;subst f;exact⟨d,q⟩
theorem dk.pinned{a_:List (Oq×O7)}{σ:St}{H:Hp}{s:OB}(I:dk X a_ σ H s)(g:∀b∈fp,eJ X a_ H b)(h:∀b∈fp,∃o,s.heap.get? b=on o/\∀v,o.data≠ .cell v):dk X (a_++kY fp s.heap) σ H s:=
 I.pins_of λp i=>(Qb.mp i).elim (λz=>I.pin p (Ps _ z)) λz=>by
  obtain⟨c,e⟩:=yW z;obtain⟨j,f1,f2,_⟩:=g p.1 c;obtain⟨o,f,d⟩:=h p.1 c;rw[e]at f;cases f;exact⟨e,j,f1,f2,d⟩
theorem dk.unpinned{a_ pl:List (Oq×O7)}{σ:St}{H:Hp}{s:OB}(I:dk X (a_++pl) σ H s):dk X a_ σ H s:=I.pins_of λp b=>I.pin p (Ps _ (Rr _ b))
theorem bi{pos:TD}(L:PassesOwn (O4 X.prog X.w) X.A X.env X.xe)(hc:X.calm=On)(hi:PI X tg iter wi)(hg:PG X tg g)(j:PSs X body tb)
  (hs:∀x,Pz iter X.env x=QR x:=by intro _;rfl):PS X (.For tg iter body [] pos) (wv wi g tb):=by
 intro a_ s σ H D I h;refine wpAny_For (e_ (hi a_ s σ H _ I h) λv s1 h1=>e_ h1 λitv s2 h2=>?_) hs;obtain⟨it,O,tn,J,H2,e,I2,T,Z,f2,W,⟨m0,w0⟩,P⟩:=h2;subst e
 --what stays On of the iterator's objects through the loop
 have k:∀{B:Hp},(∀b∈O,B b=Oi)->∀b∈O,eJ X a_ B b:=λhn b j=>⟨hn b j,(f2 b j).2⟩;refine codeAny_forLoop_any (λn s'=>∃i l B,dk X a_ l B s'/\tn i s'.heap/\(∀b∈O,B b=Oi)/\W i n l B) ?_ m0 ⟨0,σ,H2,I2,Z,λb j=>(f2 b j).1,w0⟩;rintro n s3 ⟨i,p,Y,I3,Q,R,w3⟩;rcases P i n p Y w3 with⟨stop,qn⟩|⟨go,N,hN,step⟩
 .refine T1 L (e_ (T.done X rfl rfl rfl hc i a_ s3 p Y X.xe I3 (k R) Q stop) λr s4 ⟨hr,I4⟩=>?_)
  subst hr;exact WD ⟨p,Y,I4,qn⟩
 .refine T1 L (e_ (T.item X rfl rfl rfl hc i a_ s3 p Y X.xe I3 (k R) Q go) λr s4 ⟨u,hr,h4⟩=>?_)
  subst hr;refine T1 L (e_ h4 λ_ s5 ⟨x,H5,I5,r5,y5,F,fr5⟩=>?_);have I5':=I5.pinned (k fr5) (T.obj _ _ F);refine T1 L (e_ (hg _ s5 p H5 x u _ I5' r5 (step x H5 y5)) λ_ s6 ⟨σ6,H6,I6,q6⟩=>?_);refine T1 L (e_ (j _ s6 σ6 H6 _ I6 q6) λf s7 C=>?_);have Vz:∀{c:St} {q:Hp},dk X (a_++kY O s5.heap) c q s7->N c q->∃m,m<n/\∃i l B,dk X a_ l B s7/\tn i s7.heap/\(∀b∈O,B b=Oi)/\W i m l B:=λ{c q} y U=>by
   obtain⟨m',hm,w7⟩:=hN c q U;refine⟨m',hm,i+1,c,q,y.unpinned,T.keep _ _ _ F λb j o e=>(y.pin (b,o) (Ps _ (Ps _ (gN j e)))).1,λb j=>?_,w7⟩;obtain⟨o,e,d⟩:=T.obj _ _ F b j;exact(y.pin (b,o) (Ps _ (Ps _ (gN j e)))).2.1
  cases f with
  |next=>obtain⟨c,q,y,U⟩:=C;exact Vz y U
  |cont=>obtain⟨c,q,y,U⟩:=C;exact Vz y U
  |brk=>obtain⟨c,q,y,C⟩:=C;exact⟨c,q,y.unpinned,C⟩
  |ret v=>obtain⟨x7,c,q,y,r7,C⟩:=C;exact⟨x7,c,q,y.unpinned,r7,C⟩
abbrev R2:=V->V->Hp->VK->Prop
def g_(X:Cx)(f:Ov->Ov->Sem Ov)(r:R2):Prop:=
 ∀(a_:List (Oq×O7)) (s:OB) (σ:St) (H:Hp) (x y:V) (v u:Ov) (Q:VK),dk X a_ σ H s->aI x v->aI y u->r x y H Q->
  OH (O4 X.prog X.w) X.A (f v u) (EP X a_ σ Q) X.xe s
def Zk(X:Cx)(f:Ov->Sem Ov)(r:V->Hp->VK->Prop):Prop:=
 ∀(a_:List (Oq×O7)) (s:OB) (σ:St) (H:Hp) (x:V) (v:Ov) (Q:VK),dk X a_ σ H s->aI x v->r x H Q->
  OH (O4 X.prog X.w) X.A (f v) (EP X a_ σ Q) X.xe s
def cM(X:Cx)(f:Ov)(r:List V->Hp->VK->Prop):Prop:=
 ∀(a_:List (Oq×O7)) (s:OB) (σ:St) (H:Hp) (xs:List V) (us:List Ov) (Q:VK),dk X a_ σ H s->au xs us->r xs H Q->
  OH (O4 X.prog X.w) X.A (VF f us) (EP X a_ σ Q) X.xe s
def TruR(X:Cx)(r:V->Hp->(Bool->Hp->Prop)->Prop):Prop:=
 ∀(a_:List (Oq×O7)) (s:OB) (σ:St) (H:Hp) (x:V) (v:Ov) (Q:Bool->Hp->Prop),dk X a_ σ H s->aI x v->r x H Q->
  OH (O4 X.prog X.w) X.A (truthy v) (TP X a_ σ Q) X.xe s
def Wi(r:R2)(b c:TE):TE:=λσ H Q=>b σ H λx d=>c σ d λy f=>r x y f Q
def tUn(r:V->Hp->VK->Prop)(b:TE):TE:=λσ H Q=>b σ H λx c=>r x c Q
def rI(C:Int->Int->Prop)(g:Int->Int->V):R2:=λx y H Q=>∃i j,x= .int i/\y= .int j/\C i j/\Q (g i j) H
def q9(g:Int->Int->V):R2:=λx y H Q=>∃i j,x= .int i/\y= .int j/\Q (g i j) H
def rU(g:Int->V):V->Hp->VK->Prop:=λx H Q=>∃i,x= .int i/\Q (g i) H
end
section
variable{X:Cx}{a b c:Expr}{ta tb tc:TE}{pos:TD}
theorem DY(ha:PE X a ta)(m:PE X b tb){d:List (Oq×O7)}{s:OB}{e:St}{H:Hp}{R:V->V->Hp->Prop}(I:dk X d e H s)
  (h:ta e H λx l=>tb e l λy g=>R x y g) {Q:Ov->OB->Prop} {f:Ov->Ov->Sem Ov}
  (n:∀v u k x y g,dk X d e g k->aI x v->aI y u->R x y g->OH (O4 X.prog X.w) X.A (f v u) Q X.xe k):
  OH (O4 X.prog X.w) X.A (PZ a X.env) (λv i=>OH (O4 X.prog X.w) X.A (PZ b X.env) (λu j=>OH (O4 X.prog X.w) X.A (f v u) Q X.xe j) X.xe i) X.xe s:=by
 refine e_ (ha d s e H _ I h) λv o ⟨x,l,p,r1,q1⟩=>?_;refine e_ (m d o e l _ p q1) λu k ⟨y,g,q,r,q2⟩=>?_;exact n v u k x y g q r1 r q2
theorem dA(e:g_ X (Rp op) r)(ha:PE X a ta)(f:PE X b tb):PE X (.BinOp a op b pos) (Wi r ta tb):=by
 intro d s g H Q I h;exact wpAny_BinOp (DY ha f I h λv u i x y j k l m q=>e d i g j x y v u Q k l m q)
theorem Ny(f:Zk X (unaryOp op) r)(ha:PE X a ta):PE X (.UnaryOp op a pos) (tUn r ta):=by
 intro d s e H Q I h;exact UnaryOp_ (e_ (ha d s e H _ I h) λv g ⟨x,i,j,r1,q1⟩=>f d g e i x v Q j r1 q1)
theorem oD{f:Ov->Ov->Sem Ov}{C:Int->Int->Prop}{g:Int->Int->Int}
  (d:∀(i j:Int) (t u:Tok) (s:OB) (Q:Ov->OB->Prop) (E:Ov->OB->Prop),C i j->Q (.int (g i j) s.toks) {s with toks:=s.toks+1}->OH (O4 X.prog X.w) X.A (f (.int i t) (.int j u)) Q E s):
  g_ X f (rI C λi j=> .int (g i j)):=by
 intro e s n H x y v u Q I k l h;obtain⟨i,j,rfl,rfl,m,q⟩:=h;obtain⟨t,rfl⟩:=k;obtain⟨t',rfl⟩:=l;exact d i j t t' s _ _ m ⟨.int (g i j),H,I.tok _,⟨_,rfl⟩,q⟩
theorem Le{f:Ov->Ov->Sem Ov}{g:Int->Int->Int}
  (d:∀(i j:Int) (t u:Tok) (s:OB) (Q:Ov->OB->Prop) (E:Ov->OB->Prop),Q (.int (g i j) s.toks) {s with toks:=s.toks+1}->OH (O4 X.prog X.w) X.A (f (.int i t) (.int j u)) Q E s):
  g_ X f (q9 λi j=> .int (g i j)):=by
 intro e s m H x y v u Q I k l h;obtain⟨i,j,rfl,rfl,q⟩:=h;obtain⟨t,rfl⟩:=k;obtain⟨t',rfl⟩:=l;exact d i j t t' s _ _ ⟨.int (g i j),H,I.tok _,⟨_,rfl⟩,q⟩
theorem wN{f:Ov->Ov->Sem Ov}{g:Int->Int->Bool}
  (d:∀(i j:Int) (t u:Tok) (s:OB) (Q:Ov->OB->Prop) (E:Ov->OB->Prop),Q (.bool (g i j)) s->OH (O4 X.prog X.w) X.A (f (.int i t) (.int j u)) Q E s):
  g_ X f (q9 λi j=> .bl (g i j)):=by
 intro e s m H x y v u Q I k l h;obtain⟨i,j,rfl,rfl,q⟩:=h;obtain⟨t,rfl⟩:=k;obtain⟨t',rfl⟩:=l;exact d i j t t' s _ _ ⟨.bl (g i j),H,I,rfl,q⟩
def CDiv(i j:Int):Prop:=0<j/\j<1073741824
def CPow(i j:Int):Prop:=0<=j/\j<=1000000/\i.natAbs<2^64
def GF(i j:Int):Prop:=(-(2^64)<i/\i<2^64)\/(-(2^64)<j/\j<2^64)
theorem GF.ok(h:GF i j):IntMulOk i j:=by
 rcases h with⟨d,e⟩|⟨d,e⟩
 .exact .of_left (intBits_le_64 d e)
 .exact .of_right (intBits_le_64 d e)
theorem oX:g_ X (Rp .Add) (q9 λi j=> .int (i+j)):=Le λ_ _ _ _ _ _ _ q=>add_int q
theorem fA:g_ X (Rp .Sub) (q9 λi j=> .int (i-j)):=Le λ_ _ _ _ _ _ _ q=>sub_int q
theorem Lb:g_ X (Rp .Mult) (rI GF λi j=> .int (i*j)):=oD λ_ _ _ _ _ _ _ d q=>mul_int q d.ok
theorem vy:g_ X (Rp .FloorDiv) (rI CDiv λi j=> .int (i/j)):=oD λi j _ _ _ _ _ d q=>by
 have e:(0:Int)<j:=d.1;have f:j<1073741824:=d.2;exact floordiv_int (by omega) (by rw[TV i (by omega)];exact q) (.inl (PyProof.noPylong_small (by omega)))
theorem k4:g_ X (Rp .Mod) (rI (λ_ j=>0<j) λi j=> .int (i % j)):=oD λi j _ _ _ _ _ d q=>by
 have e:(0:Int)<j:=d;exact mod_int' (by omega) (by rw[Int.fmod_eq_emod_of_nonneg i (by omega)];exact q)
theorem K9:g_ X (Rp .Pow) (rI CPow λi j=> .int (i^j.toNat)):=oD λ_ _ _ _ _ _ _ d q=>pow_int_small d.1 d.2.1 d.2.2 q
theorem unI{f:Ov->Sem Ov}{g:Int->Int}
  (d:∀(i:Int) (t:Tok) (s:OB) (Q:Ov->OB->Prop) (E:Ov->OB->Prop),Q (.int (g i) s.toks) {s with toks:=s.toks+1}->OH (O4 X.prog X.w) X.A (f (.int i t)) Q E s):
  Zk X f (rU λi=> .int (g i)):=by
 intro e s k H x v Q I j h;obtain⟨i,rfl,q⟩:=h;obtain⟨t,rfl⟩:=j;exact d i t s _ _ ⟨.int (g i),H,I.tok _,⟨_,rfl⟩,q⟩
theorem sD:Zk X (unaryOp .USub) (rU λi=> .int (-i)):=unI λ_ _ _ _ _ q=>neg_int q
noncomputable def BG:V->V->Bool
 | .non,.non=>On| .non,.int _=>On| .int _,.non=>On| .non,.bl _=>On| .bl _,.non=>On| .non,.str _=>On| .str _,.non=>On
 | .int _,.int _=>On| .bl _,.bl _=>On| .str _,.str _=>On
 | .int _,.str _=>On| .str _,.int _=>On| .bl _,.str _=>On| .str _,.bl _=>On
 |_,_=>Os
noncomputable def ZK:R2:=λx y H Q=>BG x y=On/\Q (.bl (decide (x=y))) H
noncomputable def ZI:R2:=λx y H Q=>BG x y=On/\Q (.bl (!decide (x=y))) H
theorem v5:decide (V.int i=V.int j)=(i==j):=by
 rw[Ti];simp
theorem C_{i j:Bool}:decide (V.bl i=V.bl j)=(i==j):=by
 rw[Ti];simp
theorem v4:decide (V.str i=V.str j)=(i==j):=by
 rw[Ti];simp
theorem dv{k d:Bool}(I:dk X a_ σ H s)(q:Q (.bl k) H)(e:k=d):EP X a_ σ Q (.bool d) s:=by
 subst e;exact⟨.bl k,H,I,rfl,q⟩
theorem NC:g_ X (P6 .Eq) ZK:=by
 intro f s g H x y v u Q I e d h;obtain⟨hs,q⟩:=h;cases x with
 |non=>
  cases e;cases y with
  |non=>cases d;exact PySem.EqNone.eq_none_none (dv I q (by simp))
  |bl j=>cases d;exact PySem.EqNone.eq_none_bool (dv I q (by simp))
  |int j=>obtain⟨t',rfl⟩:=d;exact PySem.EqNone.eq_none_int (dv I q (by simp))
  |str j=>obtain⟨t',rfl⟩:=d;exact PySem.EqNone.eq_none_str (dv I q (by simp))
  |_=>exact OX (show Os=On from hs) OE
 |bl i=>
  cases e;cases y with
  |non=>cases d;exact PySem.EqNone.eq_bool_none (dv I q (by simp))
  |bl j=>cases d;exact eq_bool (dv I q C_)
  |str j=>obtain⟨t',rfl⟩:=d;exact PySem.EqMixed.eq_bool_str (dv I q (by simp))
  |_=>exact OX (show Os=On from hs) OE
 |int i=>
  obtain⟨t,rfl⟩:=e;cases y with
  |non=>cases d;exact PySem.EqNone.eq_int_none (dv I q (by simp))
  |int j=>obtain⟨t',rfl⟩:=d;exact eq_int (dv I q v5)
  |str j=>obtain⟨t',rfl⟩:=d;exact PySem.EqMixed.eq_int_str (dv I q (by simp))
  |_=>exact OX (show Os=On from hs) OE
 |str i=>
  obtain⟨t,rfl⟩:=e;cases y with
  |non=>cases d;exact PySem.EqNone.eq_str_none (dv I q (by simp))
  |bl j=>cases d;exact PySem.EqMixed.eq_str_bool (dv I q (by simp))
  |int j=>obtain⟨t',rfl⟩:=d;exact PySem.EqMixed.eq_str_int (dv I q (by simp))
  |str j=>obtain⟨t',rfl⟩:=d;exact eq_str (dv I q v4)
  |_=>exact OX (show Os=On from hs) OE
 |_=>cases y<;>exact OX (show Os=On from hs) OE
theorem NB:g_ X (P6 .NotEq) ZI:=by
 intro f s g H x y v u Q I e d h;obtain⟨hs,q⟩:=h;cases x with
 |non=>
  cases e;cases y with
  |non=>cases d;exact PySem.EqNone.ne_none_none (dv I q (by simp))
  |bl j=>cases d;exact PySem.EqNone.ne_none_bool (dv I q (by simp))
  |int j=>obtain⟨t',rfl⟩:=d;exact PySem.EqNone.ne_none_int (dv I q (by simp))
  |str j=>obtain⟨t',rfl⟩:=d;exact PySem.EqNone.ne_none_str (dv I q (by simp))
  |_=>exact OX (show Os=On from hs) OE
 |bl i=>
  cases e;cases y with
  |non=>cases d;exact PySem.EqNone.ne_bool_none (dv I q (by simp))
  |bl j=>cases d;exact ne_bool (dv I q (Px not C_))
  |str j=>obtain⟨t',rfl⟩:=d;exact PySem.EqMixed.ne_bool_str (dv I q (by simp))
  |_=>exact OX (show Os=On from hs) OE
 |int i=>
  obtain⟨t,rfl⟩:=e;cases y with
  |non=>cases d;exact PySem.EqNone.ne_int_none (dv I q (by simp))
  |int j=>obtain⟨t',rfl⟩:=d;exact ne_int (dv I q (Px not v5))
  |str j=>obtain⟨t',rfl⟩:=d;exact PySem.EqMixed.ne_int_str (dv I q (by simp))
  |_=>exact OX (show Os=On from hs) OE
 |str i=>
  obtain⟨t,rfl⟩:=e;cases y with
  |non=>cases d;exact PySem.EqNone.ne_str_none (dv I q (by simp))
  |bl j=>cases d;exact PySem.EqMixed.ne_str_bool (dv I q (by simp))
  |int j=>obtain⟨t',rfl⟩:=d;exact PySem.EqMixed.ne_str_int (dv I q (by simp))
  |str j=>obtain⟨t',rfl⟩:=d;exact ne_str (dv I q (Px not v4))
  |_=>exact OX (show Os=On from hs) OE
 |_=>cases y<;>exact OX (show Os=On from hs) OE
theorem mv:g_ X (P6 .Lt) (q9 λi j=> .bl (decide (i<j))):=wN λ_ _ _ _ _ _ _ q=>lt_int q
theorem jU:g_ X (P6 .LtE) (q9 λi j=> .bl (decide (i<=j))):=wN λ_ _ _ _ _ _ _ q=>le_int q
theorem rL:g_ X (P6 .Gt) (q9 λi j=> .bl (decide (j<i))):=wN λ_ _ _ _ _ _ _ q=>gt_int q
theorem HL:g_ X (P6 .GtE) (q9 λi j=> .bl (decide (j<=i))):=wN λ_ _ _ _ _ _ _ q=>ge_int q
theorem tM:g_ X (P6 .Is) (λx y H Q=>y= .non/\Q (.bl (decide (x= .non))) H):=by
 intro d s g H x y v u Q I e f h;obtain⟨rfl,q⟩:=h;cases f;refine is_none_gen (dv I q ?_);cases x<;>first
  |(cases e;rfl)
  |(obtain⟨t,rfl⟩:=e;rfl)
theorem g_.or(h:g_ X f r)(h':g_ X f r'):g_ X f (λx y H Q=>r x y H Q\/r' x y H Q):=by
 intro d s e H x y v u Q I g i q;rcases q with q|q
 .exact h d s e H x y v u Q I g i q
 .exact h' d s e H x y v u Q I g i q
theorem tQ(b:Expr)(h:op≠ .In:=by decide)(d:op≠ .NotIn:=by decide):Tx op b=Os:=by
 have e:(op==CmpOp.In)=Os:=by cases op<;>first|rfl|exact OX rfl h
 have f:(op==CmpOp.NotIn)=Os:=by cases op<;>first|rfl|exact OX rfl d
 cases b<;>simp[Tx,e,f]
theorem Jp(e:g_ X (P6 op) r)(ha:PE X a ta)(f:PE X b tb)(hm:Tx op b=Os):PE X (.Compare a [op] [b] pos) (Wi r ta tb):=by
 intro d s g H Q I h;exact wpAny_Compare1 (DY ha f I h λv u i x y j k l m q=>e d i g j x y v u Q k l m q) hm
def wr(t:TE):TT:=λd H Q=>t d H λx e=>∃k,x= .bl k/\Q k e
theorem vi(g:g_ X (P6 op) r)(ha:PE X a ta)(i:PE X b tb)(hm:Tx op b=Os):PT X (.Compare a [op] [b] pos) (wr (Wi r ta tb)):=by
 intro d s f H Q I h;refine wpAny_isTrue_Compare1 (e_ (ha d s f H _ I h) λv j ⟨x,l,m,r1,q1⟩=>e_ (i d j f l _ m q1) λu n ⟨y,o,p,q,q2⟩=>
  e_ (g d n f o x y v u _ p r1 q q2) λc B ⟨z,t,w,A,k,e,q3⟩=>?_) hm
 subst e;cases A;exact P7 ⟨t,w,q3⟩
def x9(r f:R2)(ta tb tc:TE):TE:=λd H Q=>ta d H λx g=>tb d g λy h=>r x y h λz e=>∃k,z= .bl k/\
 (if k=On then tc d e λi j=>f y i j Q else Q (.bl Os) e)
theorem BN(n:g_ X (P6 op) r)(i:g_ X (P6 op') r')(ha:PE X a ta)(o:PE X b tb)(p:PE X c tc)
  (hm:X5 [op,op'] [b,c]=Os:=by with_unfolding_all rfl):PT X (.Compare a [op,op'] [b,c] pos) (wr (x9 r r' ta tb tc)):=by
 intro f s g H Q I h;refine isTrue_chain (e_ (ha f s g H _ I h) λv q ⟨x,t,w,r1,q1⟩=>test_link (e_ (o f q g t _ w q1) λu A ⟨y,B,C,j,q2⟩=>
  e_ (n f A g B x y v u _ C r1 j q2) λd F ⟨z,l,m,J,k,e,q3⟩=>?_)) hm
 subst e;cases J;refine P7 ?_;cases k with
 |false=>
  obtain⟨k',L,N⟩:=q3;cases L;exact ite_ff ⟨l,m,N⟩
 |true=>
  refine ite_tt (test_last (e_ (p f F g l _ m q3) λO P ⟨R,T,U,W,q4⟩=>e_ (i f P g T y R u O _ U j W q4) λd' s5 ⟨z2,Y,Z,r5,k2,e2,q5⟩=>?_));subst e2;cases r5;exact P7 ⟨Y,Z,q5⟩
def GA(K:OU)(x:V)(H:Hp)(k:Bool):Prop:=
 match x with
 | .non=>k=Os
 | .bl b=>k=b
 | .int i=>k=(i !=0)
 | .str y=>y.length<=OS/\k=((y.length:Int) !=0)
 | .ref p=>(∃xs,fy K H p xs/\k=!xs.isEmpty)\/∃xs,jn K H p xs/\k=!xs.isEmpty
 |_=>False
theorem pf(r:au xs its):(!its.toArray.isEmpty)=!xs.isEmpty:=by
 cases r<;>simp
theorem lf:(OS:Nat)<2^63:=by rw[Qo];decide
theorem Kd:TruR X (λx H Q=>∃k,GA X.K x H k/\Q k H):=by
 intro l s n H x v Q I f h;obtain⟨k,e,q⟩:=h;have o:=lf;have hs:OS=16777216:=Qo;cases x with
 |non=>
  cases f;have d:k=Os:=e;subst d;exact truthy_none ⟨H,I,q⟩
 |bl b=>
  cases f;have d:k=b:=e;subst d;exact P7 ⟨H,I,q⟩
 |int i=>
  obtain⟨t,rfl⟩:=f;have d:k=(i !=0):=e;subst d;exact PySem.P.truthy_int ⟨H,I,q⟩
 |str y=>
  obtain⟨t,rfl⟩:=f;obtain⟨u,d⟩:y.length<=OS/\k=((y.length:Int) !=0):=e;subst d;exact PySem.P.truthy_str (by omega) ⟨H,I.tok _,q⟩
 |ref p=>
  cases f;have d:(∃xs,fy X.K H p xs/\k=!xs.isEmpty)\/∃xs,jn X.K H p xs/\k=!xs.isEmpty:=e;rcases d with⟨xs,j,d⟩|⟨xs,j,d⟩
  .subst d
   obtain⟨its,r,pl,m⟩:=I.list j;have g:=r.length;exact wpAny_truthy_list pl.isList (by simp only[OR];omega) ⟨H,I.tok _,by rw[pf r];exact q⟩
  .subst d
   obtain⟨its,r,pl,m⟩:=I.tuple j;have g:=r.length;exact truthy_tuple pl (by simp only[OR];omega) ⟨H,I.tok _,by rw[pf r];exact q⟩
 |_=>exact(show False from e).elim
theorem BM(ha:PE X a ta)(i:∀d,isTrue a X.env d=(do let v <-d;Si a.pos;SN [v] (truthy v))):
  PT X a (λf H Q=>ta f H λx g=>∃k,GA X.K x g k/\Q k g):=by
 intro e s f H Q I h;exact isTrue_plain (e_ (ha e s f H _ I h) λv j ⟨x,l,m,r1,q1⟩=>Kd e j f l x v Q m r1 q1) (i _)
theorem iD(r:au [x] us):∃u,us=[u]/\aI x u:=by
 cases r with
 |cons r1 d=>cases d;exact⟨_,rfl,r1⟩
theorem rC(r:au [x,y] us):∃u d,us=[u,d]/\aI x u/\aI y d:=by
 cases r with
 |cons r1 e=>
  cases e with
  |cons f g=>cases g;exact⟨_,_,rfl,r1,f⟩
theorem DU:cM X (.builtin "abs") (λxs H Q=>∃i,xs=[.int i]/\Q (.int (if i<0 then -i else i)) H):=by
 intro d s e H xs us Q I r h;obtain⟨i,rfl,q⟩:=h;obtain⟨u,rfl,t,rfl⟩:=iD r;exact call_abs_int λu f=>⟨.int (if i<0 then -i else i),H,I.tok _,⟨_,rfl⟩,q⟩
theorem lL(f:X.calm=On):cM X (.builtin "max") (λxs H Q=>∃i j,xs=[.int i,.int j]/\Q (.int (if j>i then j else i)) H):=by
 intro e s g H xs us Q I r h;obtain⟨i,j,rfl,q⟩:=h;obtain⟨u,l,rfl,⟨t,rfl⟩,⟨t',rfl⟩⟩:=rC r;refine max_two_ints (I.ok.hd f) λh' m k=>⟨_,H,I.kept k,?_,q⟩;by_cases d:j>i
 .rw[OA d,OA d];exact⟨_,rfl⟩
 .rw[Ot d,Ot d];exact⟨_,rfl⟩
theorem gr(f:X.calm=On):cM X (.builtin "min") (λxs H Q=>∃i j,xs=[.int i,.int j]/\Q (.int (if j<i then j else i)) H):=by
 intro e s g H xs us Q I r h;obtain⟨i,j,rfl,q⟩:=h;obtain⟨u,l,rfl,⟨t,rfl⟩,⟨t',rfl⟩⟩:=rC r;refine min_two_ints (I.ok.hd f) λh' m k=>⟨_,H,I.kept k,?_,q⟩;by_cases d:j<i
 .rw[OA d,OA d];exact⟨_,rfl⟩
 .rw[Ot d,Ot d];exact⟨_,rfl⟩
structure t7 (h:P4) (x dx C:Oq) (mA:Pj->Option Ov):Prop where
 obj:h.get? x=on (Vr C dx)
 ns:h.Ns1 dx mA
 ne:dx≠x
theorem zg{h:P4}(n:h.Ns1 dx mA):∃f,h.get? dx=on f/\∀name,lookIn name f=on (mA name):=by
 obtain⟨o,es,ep,g,hd,i,_,hm⟩:=n;refine⟨o,g,λname=>?_⟩;have e:=hm name;unfold nsFind findBy at e;rw[<-Array.find?_toList]at e;unfold lookIn;rw[hd]
 dsimp only
 split
 .rename_i y q
  rw[q]at e;exact Px on e
 .rename_i q
  rw[q]at e;have a:es.toList.any (·.refKey)=Os:=by
   rw[Yb];intro y j;obtain⟨z,t,d⟩:=i y (Array.mem_toList_iff.mp j);simp[DictEntry.refKey,d]
  have k:¬es.toList.any (·.refKey)=On:=by rw[a];exact OE
  rw[Ot k];exact Px on e
theorem t7.look(I:t7 h x dx C mA):∃d,PySem.W.InstAt h x (Vr C dx) C (on d)/\∀name,lookIn name d=on (mA name):=
 let ⟨d,ho,hl⟩:=zg I.ns
 ⟨d,⟨I.obj,rfl,rfl,ho⟩,hl⟩
variable{prog:Pc}{w:Pk}{A:PU}{E:Ov->OB->Prop}{s:OB}{K:OU}{x dx C f:Oq}{mA:Pj->Option Ov}{name:Pj}{v:Ov}
theorem JN{d:Bool}(X:K.In s.heap)(I:t7 s.heap x dx C mA)(g:plainGet K C name=On)(i:hasDictIn K C=On)
  (ha:SU K (.ref C) name=on Oi) (j:mA name=on v) (e:Xx v=On) (h:Q v {s with toks:=s.toks+1}):
  OH (O4 prog w) A (getAttr (.ref x) name d) Q E s:=by
 obtain⟨l,J,k⟩:=I.look;exact PySem.W.get_value X J (plainGet_of g).1 (PySem.W.findObj_own i ha rfl (by rw[k,j])) e h
theorem DH(X:K.In s.heap)(I:t7 s.heap x dx C mA)(d:plainGet K C name=On)
  (e:SU K (.ref C) name=on (on (.ref f))) (g:isFn K (.ref f)=On) (i:mA name=Oi) (h:Q (.ref f,[.ref x]) s):
  OH (O4 prog w) A (UL (.ref x) name pl) Q E s:=by
 obtain⟨j,J,k⟩:=I.look;exact PySem.W.method_fn X J (plainGet_of d).1 (plainGet_of d).2 e (beq_iff_eq.mp g) (by show(lookIn name j).map (·.isSome)=on Os;rw[k,i];rfl) h
theorem I0{ns:List Pj}(X:K.In s.heap)(I:t7 s.heap x dx C mA)
  (hs:SU K (.ref C) "__setattr__"=on (on (.builtin "object.__setattr__"))) (l:Xl K C=On) (m:takerIn K C name=on Oi) (n:hasDictIn K C=On)
  (o:Vg mA ns) (p:ns.length<=OS)
  (h:∀h',t7 h' x dx C (λy=>if y=name then on v else mA y)->Pa dx s.heap h'->Q () {s with heap:=h',toks:=s.toks+2}):
  OH (O4 prog w) A (setAttr (.ref x) name v) Q E s:=by
 obtain⟨F,J,H⟩:=I.look;refine PySem.W.set_plain X J hs (PySem.W.osa_open (s:={s with toks:=s.toks+1}) (r:=Oi) X J l m λb=>?_);obtain⟨cd,q,g⟩:=PySem.W.any_some n;have t:s.heap.get? x=on ⟨.ref C,on dx,.plain,#[]⟩:=I.obj;refine My (Oj (My (My (wpAny_loadPart t (My (PySem.W.Looks.here (s:={s with toks:=s.toks+1}) (PySem.W.looks_clsIn X q) ?_))))));rw[g];refine Oj (a:=on dx) (My (Oj (My ?_)));refine wpAny_nsSet1 (s:={s with toks:=s.toks+1}) I.ns λh' d e=>?_;obtain⟨L,u,B,i,j,k⟩:=d.count (Vg.cons name v o);refine My (wpAny_lookBehind i (by rw[j];exact pastItsLine_dict (OP k (by rw[OO];omega))) ?_);exact Oj (h _ ⟨(e.2 _ (Ne.symm I.ne)).trans I.obj,d,I.ne⟩ e)
theorem CI(X:K.In s.heap)(hm:XV K C=On)
  (e:SU K (.ref C) "__init__"=on (on (.ref f))) (i:PySem.W.typeIn K (.ref f)=on (.type "function"))
  (h:SM (O4 prog w) (A.under (.builtin "type.__call__" ⟨.ref C::vs,kw⟩)) (.call (.ref f) ⟨.ref (s.heap.objs.size+1)::vs,kw⟩) (PySem.W.InitBack (s.heap.objs.size+1) R)
   {s with heap:=(s.heap.push Tq).push (Vr C s.heap.objs.size)}):
  SM (O4 prog w) A (.call (.ref C) ⟨vs,kw⟩) R s:=by
 obtain⟨j,g,d,t,os⟩:=s;exact PySem.W.make_core (PySem.W.makes_of X hm) (PySem.W.looks_findIn X e) (λself=>PySem.W.bind_fn X self i) (.inl rfl) h
noncomputable def db(f:Pj)(v:V):List (Pj×V)->List (Pj×V)
 |[]=>[(f,v)]
 |(g,x)::r=>if g=f then(g,v)::r else(g,x)::db f v r
theorem m3(f g:Pj)(v:V):∀fs:List (Pj×V),(db f v fs).lookup g=if g=f then on v else fs.lookup g
 |[]=>by
  show Td g [(f,v)]=_;by_cases h:g=f
  .have d:(g==f)=On:=beq_iff_eq.mpr h
   simp only[Td,d,OA h]
  .have d:(g==f)=Os:=beq_eq_false_iff_ne.mpr h
   simp only[Td,d,Ot h]
 |(k,x)::r=>by
  have ih:=m3 f g v r;rw[show db f v ((k,x)::r)=(if k=f then(k,v)::r else(k,x)::db f v r)from rfl];by_cases i:k=f
  .rw[OA i]
   by_cases h:g=k
   .have d:(g==k)=On:=beq_iff_eq.mpr h
    simp only[Td,d,OA (h.trans i)]
   .have d:(g==k)=Os:=beq_eq_false_iff_ne.mpr h
    simp only[Td,d,Ot (λe:g=f=>h (e.trans i.symm))]
  .rw[Ot i]
   by_cases h:g=k
   .have d:(g==k)=On:=beq_iff_eq.mpr h
    simp only[Td,d,Ot (λe:g=f=>i (h.symm.trans e))]
   .have d:(g==k)=Os:=beq_eq_false_iff_ne.mpr h
    simp only[Td,d];exact ih
theorem lx(f:Pj)(v:V):∀fs:List (Pj×V),f∈(db f v fs).map (·.1)/\∀g,g∈fs.map (·.1)->g∈(db f v fs).map (·.1)
 |[]=>⟨by simp[db],λg h=>by simp at h⟩
 |(k,x)::r=>by
  obtain⟨i,j⟩:=lx f v r;rw[show db f v ((k,x)::r)=(if k=f then(k,v)::r else(k,x)::db f v r)from rfl];by_cases d:k=f
  .rw[OA d]
   subst d;exact⟨by simp,λg h=>by simpa using h⟩
  .rw[Ot d]
   refine⟨?_,λg h=>?_⟩
   .rw[OG]
    exact Op _ i
   .rw[OG]at h⊢
    rcases OK.mp h with e|e
    .exact OK.mpr (.inl e)
    .exact Op _ (j g e)
theorem m4(f:Pj)(v:V):∀fs:List (Pj×V),(db f v fs).length<=fs.length+1
 |[]=>by simp[db]
 |(k,x)::r=>by
  have ih:=m4 f v r;rw[show db f v ((k,x)::r)=(if k=f then(k,v)::r else(k,x)::db f v r)from rfl];by_cases d:k=f
  .rw[OA d,OO,OO];omega
  .rw[Ot d,OO,OO];omega
theorem gE.some_of{v:V}(r:gE (on v) o):∃u,o=on u/\aI v u:=by
 cases o with
 |none=>exact(show False from r).elim
 |some u=>exact⟨u,rfl,r⟩
theorem gE.none_of(r:gE Oi o):o=Oi:=by
 cases o with
 |none=>rfl
 |some u=>exact(show False from r).elim
theorem zL{v:V}(r:aI v u):Xx u=On:=by
 cases v with
 |non=>cases(show u=Pg from r);rfl
 |bl b=>cases(show u=U9 b from r);rfl
 |int i=>obtain⟨t,e⟩:=(show ∃t,u=R9 i t from r);cases e;rfl
 |str x=>obtain⟨t,e⟩:=(show ∃t,u=Yi x t from r);cases e;rfl
 |ref a=>cases(show u=OM a from r);rfl
 |ty n=>cases(show u=Ru n from r);rfl
end
section
variable{P:Pc}{w:Pk}{H H':Hp}{h h':P4}{a C dx:Oq}{fs fs':List (Pj×V)}
theorem ju(hok:lu P w H h)(e:H a=on (.ins C dx fs)):∃b,t7 h a dx C b/\(∀f,gE (fs.lookup f) (b f))/\Vg b (fs.map (·.1))/\fs.length<=1000/\H dx=on (.own a):=by
 obtain⟨d,z,ne,c,b,n,r,q⟩:=(show bD P w H h a (.ins C dx fs)from hok a _ e);exact⟨b,⟨c,n,ne⟩,r,q,z,d⟩
structure ri (K:OU) (C:Oq):Prop where
 pg:plainGet K C Ss=On
 hd:hasDictIn K C=On
 po:Xl K C=On
 sa:SU K (.ref C) "__setattr__"=on (on (.builtin "object.__setattr__"))
theorem ri.get{K:OU}{C:Oq}(c:ri K C)(f:Pj):plainGet K C f=On:=c.pg
def dH(K:OU)(C:Oq)(f:Pj):Prop:=SU K (.ref C) f=on Oi
theorem dH.taker{K:OU}{C:Oq}(n:dH K C f):takerIn K C f=on Oi:=by
 unfold takerIn;rw[show SU K (.ref C) f=on Oi from n];rfl
structure pq (K:OU) (C:Oq) (m:Pj) (f:Oq):Prop where
 at_:SU K (.ref C) m=on (on (.ref f))
 fn:isFn K (.ref f)=On
 kp:Uo K (.ref f)=On
variable{X:Cx}{a_:List (Oq×O7)}{σ:St}{s:OB}{f:Pj}{v:V}{A:PU}{E:Ov->OB->Prop}
theorem xm{b:Bool}(I:dk X a_ σ H s)(e:H a=on (.ins C dx fs))(c:ri X.K C)(n:dH X.K C f)(l:fs.lookup f=on v)
  (h:∀u s',dk X a_ σ H s'->aI v u->Q u s'):OH (O4 X.prog X.w) A (getAttr (.ref a) f b) Q E s:=by
 obtain⟨g,O,r,_,_,_⟩:=ju I.hok e;obtain⟨u,i,d⟩:=gE.some_of (v:=v) (o:=g f) (by rw[<-l];exact r f);exact JN I.kIn O (c.get f) c.hd n i (zL d) (h u _ (I.tok _) d)
theorem pB(I:dk X a_ σ H s)(e:H a=on (.ins C dx fs))(c:ri X.K C)(k:pq X.K C m g)(l:fs.lookup m=Oi)
  (h:Q (.ref g,[.ref a]) s):OH (O4 X.prog X.w) A (UL (.ref a) m pl) Q E s:=by
 obtain⟨b,O,r,_,_,_⟩:=ju I.hok e;have hn:b m=Oi:=gE.none_of (by rw[<-l];exact r m);exact DH I.kIn O (c.get m) k.at_ k.fn hn h
theorem wC(I:dk X a_ σ H s)(e:H a=on (.ins C dx fs))(c:ri X.K C)(n:dH X.K C f)(F:fs.length<1000)(l:aI y u)
  (h:∀s',dk X a_ σ (upd H a (.ins C dx (db f y fs))) s'->Q () s'):OH (O4 X.prog X.w) A (setAttr (.ref a) f u) Q E s:=by
 obtain⟨i,O,r,j,_,k⟩:=ju I.hok e;have m:(fs.map (·.1)).length<=OS:=by rw[Oh,Qo];omega
 refine I0 I.kIn O c.sa c.po n.taker c.hd j m λh' d p=>h _ ?_;have hd:∃o,h'.get? dx=on o:=let ⟨o,_,_,e',_⟩:=d.ns;⟨o,e'⟩
 refine I.write (x:=a) (e:=dx) (by rw[e];exact R7) (.inr k) (λb q t z=>(p.2 b t).trans z) hd ?_;refine⟨by rw[b_ O.ne];exact k,?_,O.ne,d.obj,_,d.ns,λg=>?_,λg B=>?_⟩
 .have:=m4 f y fs;omega
 .show gE ((db f y fs).lookup g) (if g=f then on u else i g)
  rw[m3];by_cases q:g=f
  .rw[OA q,OA q];exact l
  .rw[Ot q,Ot q];exact r g
 .by_cases q:g=f
  .rw[q];exact(lx f y fs).1
  .refine(lx f y fs).2 g (j g λz=>B ?_)
   show(if g=f then on u else i g)=Oi;rw[Ot q];exact z
theorem dk.made(I:dk X a_ σ H s):dk X a_ σ (upd (upd H s.heap.objs.size (.own (s.heap.objs.size+1))) (s.heap.objs.size+1) (.ins C s.heap.objs.size []))
  {s with heap:=(s.heap.push Tq).push (Vr C s.heap.objs.size)}:=by
 have c:(s.heap.push Tq).get? s.heap.objs.size=on Tq:=OI s.heap rfl;have d:((s.heap.push Tq).push (Vr C s.heap.objs.size)).get? (s.heap.objs.size+1)=on (Vr C s.heap.objs.size):=by
  have:=OI (s.heap.push Tq) (o:=Vr C s.heap.objs.size) rfl;rwa[Qk]at this
 have g:(s.heap.push Tq).Ns s.heap.objs.size (λ_=>Oi):=⟨Tq,#[],_,c,rfl,(λe i=>OX i (by simp)),λ_=>rfl⟩;have j:=I.laid (a:=s.heap.objs.size) (o:= .own (s.heap.objs.size+1)) (h':=s.heap.push Tq) (t':=s.toks) (λb u q=>Ol _ q) (OD _) ⟨_,c⟩;refine j.laid (a:=s.heap.objs.size+1) (o:= .ins C s.heap.objs.size []) (t':=s.toks) (λb u q=>Ol _ q) (Nat.le_of_eq (Qk _ _)) ?_;have ne:s.heap.objs.size≠s.heap.objs.size+1:=Pr (VD _);refine⟨by rw[b_ ne,aj],PV _,ne,d,λ_=>Oi,(Heap.Ns1.of_empty g).at λo q=>Ol _ q,λ_=>R7,λy k=>OX rfl k⟩
theorem J1{w:Pk}{f:Pj}{s:OB}(c:SJ e f env (PZ e env)=PZ e env)
  (h:OH (O4 prog w) A (PZ e env) (λo b=>OH (O4 prog w) A (getAttr o f On) Q E b) E s):OH (O4 prog w) A (PZ (.Attribute e f pos) env) Q E s:=
 Attribute_any_ h (by rw[arm_eval_Attribute,c])
def ZA(K:OU)(c:TE)(f:Pj):TE:=λσ H Q=>c σ H λx b=>∃a C dx fs v,x= .ref a/\b a=on (.ins C dx fs)/\ri K C/\dH K C f/\fs.lookup f=on v/\Q v b
def KD(K:OU)(c d:TE)(f:Pj):TS:=λD σ H=>d σ H λy e=>c σ e λx b=>∃a C dx fs,x= .ref a/\b a=on (.ins C dx fs)/\ri K C/\dH K C f/\fs.length<1000/\
 D.nx σ (upd b a (.ins C dx (db f y fs)))
variable{o e value:Expr}{pos pos' tpos:TD}{ta tv:TE}
theorem K5(b:PE X e ta)(d:SJ e f X.env (PZ e X.env)=PZ e X.env):PE X (.Attribute e f pos) (ZA X.K ta f):=by
 intro a_ s σ H Q I h;refine J1 d (e_ (b a_ s σ H _ I h) λu r ⟨x,g,i,j,a,C,dx,fs,v,ex,k,c,n,l,q⟩=>?_);subst ex;obtain rfl:u=OM a:=j;exact xm i k c n l λt y m p=>⟨v,g,m,p,q⟩
theorem oW(ha:PE X o ta)(b:PE X value tv)(hs:Ts value (on (.Attribute o f pos')) pos.line X.env=QR Os):PS X (.Assign [.Attribute o f pos'] value pos) (KD X.K ta tv f):=by
 intro a_ s σ H D I h;refine plainObj_wpAny_Assign_Attribute (e_ (b a_ s σ H _ I h) λu d ⟨y,g,i,j,q⟩=>e_ (ha a_ d σ g _ i q) λk B ⟨x,F,m,p,a,C,dx,fs,ex,r,c,n,l,q2⟩=>?_) hs;subst ex;obtain rfl:k=OM a:=p;exact wC m r c n l j λJ t=>⟨σ,_,t,q2⟩
variable{Q:Ov->OB->Prop}{c:Ov}{b:Bool}
inductive n_ (K:OU) (H:Hp):V->Ov->Prop where
 |non:n_ K H .non (.type "NoneType")
 |bl (x:Bool):n_ K H (.bl x) (.type "bool")
 |int (i:Int):n_ K H (.int i) (.type "int")
 |str (x:Pj):n_ K H (.str x) (.type "str")
 |lst {a:Oq} {xs:List V} (e:H a=on (.lst xs)):n_ K H (.ref a) (.type "list")
 |frz {a:Oq} {o:O7} {xs:List V} (e:H a=on (.frz o (.lst xs))):n_ K H (.ref a) (.type "list")
 |tup {a:Oq} {xs:List V} (e:H a=on (.tup xs)):n_ K H (.ref a) (.type "tuple")
 |ins {a C dx:Oq} {fs:List (Pj×V)} (e:H a=on (.ins C dx fs)) (cl:ri K C) (ha:SU K (.ref C) "__class__"=on (on (.builtin "object.__class__")))
  (hn:specialIn K (.builtin "object.__class__") "__get__"=on (on (.builtin "getset_descriptor.__get__"))) (htk:XW K (.builtin "object.__class__")=on On)
  (hm:PySem.W.mroIn K C (.type "object")=on On):n_ K H (.ref a) (.ref C)
theorem zE(I:dk X a_ σ H s)(d:aI x u)(ty:n_ X.K H x t)(e:kitOne X.K t c=on b)(h:∀j,Q (.bool b) {s with toks:=j}):
  OH (O4 X.prog X.w) A (VF (.builtin "isinstance") [u,c]) Q E s:=by
 cases ty with
 |non=>cases(show u=Pg from d);exact UB Xk I.kIn R7 e (λz=>nomatch z) h
 |bl y=>cases(show u=U9 y from d);exact UB Xj I.kIn R7 e (λz=>nomatch z) h
 |int i=>obtain⟨t,q⟩:=(show ∃t,u=R9 i t from d);cases q;exact UB Xy I.kIn R7 e (λz=>nomatch z) h
 |str y=>obtain⟨t,q⟩:=(show ∃t,u=Yi y t from d);cases q;exact UB XA I.kIn R7 e (λz=>nomatch z) h
 |@lst a xs ea=>
  cases(show u=OM a from d);obtain⟨_,_,n,_,g⟩:=(show bD X.prog X.w H s.heap a (.lst xs)from I.hok a _ ea);exact UB Vs I.kIn ⟨_,g,rfl⟩ e (λz=>nomatch z) h
 |@frz a ob xs ea=>
  cases(show u=OM a from d);obtain⟨_,_,_,n,_,g⟩:=(show bD X.prog X.w H s.heap a (.frz ob (.lst xs))from I.hok a _ ea);exact UB Vs I.kIn ⟨_,g,rfl⟩ e (λz=>nomatch z) h
 |@tup a xs ea=>
  cases(show u=OM a from d);obtain⟨_,_,_,p⟩:=(show bD X.prog X.w H s.heap a (.tup xs)from I.hok a _ ea);obtain⟨o,g,k,_⟩:=p;exact UB W7 I.kIn ⟨o,g,k⟩ e (λz=>nomatch z) h
 |@ins a C dx fs ea cl ha hn htk hm=>
  cases(show u=OM a from d);obtain⟨l,O,_⟩:=ju I.hok ea;obtain⟨m,J,_⟩:=O.look;exact UB (Xz (cl.get _) cl.hd ha hn htk hm) I.kIn J e (λz=>nomatch z) h
structure en (k:Nat) (A:PU):Prop where
 hd:A.handled=Oi
 dp:A.depth+3*k+5<recursionLimit
 un:A.units+16*k+200<T4
 gd:A.guards=on []
theorem en.mono{A:PU}(r:en k A)(h:j<=k):en j A:=⟨r.hd,by have:=r.dp;omega,by have:=r.un;omega,r.gd⟩
theorem en.deeper{A:PU}(r:en (k+1) A)(env:VJ):en k (A.deeper env):=
 ⟨r.hd,by have:=r.dp;show A.depth+1+3*k+5<_;omega,by have:=r.un;show A.units+3+16*k+200<_;omega,r.gd⟩
theorem wX{A:PU}{C:Oq}:(A.under (.builtin "type.__call__" ⟨.ref C::us,kw⟩)).depth=A.depth+1:=by
 first|rfl|simp[Vc,Code.weight,Code.isCreation,Code.isGuard,Code.isCaller,Code.frames,WF,guardIds]
theorem wW{A:PU}{C:Oq}:(A.under (.builtin "type.__call__" ⟨.ref C::us,kw⟩)).units=A.units+1:=by
 first|rfl|simp[Vc,Code.cUnits,Code.frames,WF]
theorem en.make{A:PU}(r:en (k+1) A)(C:Oq)(us:List Ov)(d:List (Pj×Ov)):en k (A.under (.builtin "type.__call__" ⟨.ref C::us,d⟩)):=
 ⟨r.hd,by have:=r.dp;rw[wX];omega,by have:=r.un;rw[wW];omega,by first|exact r.gd|simp[Vc,Code.guards,Code.isGuard,guardIds,pushGuards,r.gd]⟩
theorem en.depth{A:PU}(r:en k A):A.depth<recursionLimit:=by have:=r.dp;omega
theorem en.units{A:PU}(r:en k A):A.units+64<T4:=by have:=r.un;omega
noncomputable def AX:TA:=λ_ H Q=>Q [] H
def GW(ta:TE)(tr:TA):TA:=λσ H Q=>ta σ H λx d=>tr σ d λxs g=>Q (x::xs) g
variable{es:List Expr}{te:TE}{t:TA}
theorem ii:PA X [] AX:=λ_ _ _ _ H Q I h=>XJ ⟨[],H,I,.nil,h⟩
theorem d9(ha:PE X e te)(d:PA X es t)(hs:OJ (e::es) X.env=(Os,PZ e X.env)::OJ es X.env:=by rfl):PA X (e::es) (GW te t):=by
 intro pos a_ s σ H Q I h;rw[hs];show OH _ _ (spliced ((Os,PZ e X.env)::QX pos (OJ es X.env))) _ _ s;refine Xo (e_ (ha a_ s σ H _ I h) λu g ⟨x,i,j,r1,q1⟩=>?_);exact e_ (d pos a_ g σ i _ j q1) λus n ⟨xs,k,l,m,q2⟩=>⟨x::xs,k,l,.cons r1 m,q2⟩
def Zv(t:TA):TE:=λσ H Q=>t σ H λxs d=>xs.length<=OS/\∀p,d p=Oi->Q (.ref p) (upd d p (.tup xs))
def Kh(t:TA):TE:=λσ H Q=>t σ H λxs d=>xs.length<=OS/\∀p,d p=Oi->Q (.ref p) (upd d p (.lst xs))
theorem K1{x1}(h:PA X es t):PE X (.Tuple es x1 pos) (Zv t):=by
 intro a_ s σ H Q I j;refine wpAny_Tuple_spliced (e_ (h pos a_ s σ H _ I j) λus d ⟨xs,g,i,r,z,q⟩=>⟨by rw[<-r.length];exact z,?_⟩);have k:g d.heap.objs.size=Oi:=i.hok.fresh (OD _);refine⟨.ref d.heap.objs.size,upd g d.heap.objs.size (.tup xs),i.laid (t':=d.toks) (λb u e=>Ol _ e) (OD _) ?_,rfl,q _ k⟩;exact⟨z,us,r,⟨_,OI _ rfl,rfl,_,rfl⟩⟩
theorem dR(h:PA X es t):PE X (.List es pos) (Kh t):=by
 intro a_ s σ H Q I j;refine wpAny_List_spliced (e_ (h pos a_ s σ H _ I j) λus d ⟨xs,g,i,r,z,q⟩=>⟨by rw[<-r.length];exact z,?_⟩);have k:g d.heap.objs.size=Oi:=i.hok.fresh (OD _);refine⟨.ref d.heap.objs.size,upd g d.heap.objs.size (.lst xs),i.laid (t':=d.toks) (λb u e=>Ol _ e) (OD _) ?_,rfl,q _ k⟩;exact⟨z,us,0,r,OI _ rfl⟩
abbrev Sp:=List V->Hp->VK->XK->Prop
abbrev L3:=List VJ->Hp->OB->XK->Ov->OB->Prop
structure up (P:Pc) (w:Pk) (K:OU) (mg:Pj->Option Ov) (base:P4) (A:PU) (outer:List VJ) (s:OB) (H:Hp):Prop where
 frames:A.frames=on outer
 mod:Mod K mg base
 bs:∀b o,base.get? b=on o->s.heap.get? b=on o/\H b=Oi
 bsz:base.objs.size<=s.heap.objs.size
 funs:s.heap.FunFrames base outer
 frf:∀b∈h8 outer,H b=Oi
 hok:lu P w H s.heap
 bare:T5 s.gens
def CE(outer:List VJ)(P:Pc)(w:Pk)(H:Hp)(s:OB)(Q:VK)(u:Ov)(s':OB):Prop:=
 ∃v H',s'.os=s.os/\T5 s'.gens/\Un (h8 outer) [] H H' s.heap s'.heap/\lu P w H' s'.heap/\aI v u/\Q v H'
def CR(CX:L3)(outer:List VJ)(P:Pc)(w:Pk)(H:Hp)(s:OB)(Q:VK)(E:XK)(r:Result)(s':OB):Prop:=
 match r with
 | .ok (.ret u)=>CE outer P w H s Q u s'
 | .ok _=>False
 | .error e=>CX outer H s E e s'
structure fw (P:Pc) (w:Pk) (K:OU) (mg:Pj->Option Ov) (base:P4) (CX:L3) (k:Nat) (f:Oq) (fd:O5) (ps:List Pj) (sp:Sp):Prop where
 len:∀vs H Q E,sp vs H Q E->vs.length=ps.length
 run:∀(A:PU) (outer:List VJ) (s:OB) (H:Hp) (args:Args) (us:List Ov) (vs:List V) (Q:VK) (E:XK),en k A->up P w K mg base A outer s H->Vm s fd args (ps.zip us)->au vs us->sp vs H Q E->
  SM (O4 P w) A (.call (.ref f) args) (CR CX outer P w H s Q E) s
theorem fw.mono{P:Pc}{w:Pk}{K:OU}{f:Oq}(F:fw P w K mg base CX j f fd ps sp)(h:j<=k):
  fw P w K mg base CX k f fd ps sp:=⟨F.len,λA outer s H args us vs Q E d=>F.run A outer s H args us vs Q E (d.mono h)⟩
theorem up.make{P:Pc}{w:Pk}{K:OU}{A:PU}{s:OB}{H:Hp}(e:up P w K mg base A outer s H)(C:Oq)(us:List Ov)(d:List (Pj×Ov)):
  up P w K mg base (A.under (.builtin "type.__call__" ⟨.ref C::us,d⟩)) outer s H:=⟨by first|exact e.frames|(simpa[Vc,Code.envs,WF,pushEnvs]using e.frames),e.mod,e.bs,e.bsz,e.funs,e.frf,e.hok,e.bare⟩
variable{s':OB}
theorem dk.env0(I:dk X a_ σ H s):up X.prog X.w X.K X.mg X.base X.A X.stack s H:=
 ⟨I.ok.frames,I.ok.mod,I.bs,OP I.ok.bsz I.sz,I.stack,I.stkFree,I.hok,I.bare⟩
theorem dk.after{Q:VK}(I:dk X a_ σ H s)(h:CE X.stack X.prog X.w H s Q u s'):EP X a_ σ Q u s':=by
 obtain⟨v,H',os,bare,un,hok,r,q⟩:=h;obtain⟨j,g,d,t,i⟩:=s';obtain rfl:i=s.os:=os;exact⟨v,H',I.call (h':=j) (g':=g) (d':=d) (t':=t) (ch:=[]) un hok bare (λb z=>OX z (by simp)),r,q⟩
def Nj(sp:Sp)(d:List V)(E:St->XK)(t:TA):TE:=λσ H Q=>t σ H λvs g=>sp (vs++d) g Q (E σ)
def wu(C:Oq)(m:Pj)(sp:Sp)(d:List V)(E:St->XK)(ta:TE)(t:TA):TE:=λσ H Q=>ta σ H λx g=>∃a dx fs,x= .ref a/\g a=on (.ins C dx fs)/\fs.lookup m=Oi/\
 t σ g λvs i=>sp (x::(vs++d)) i Q (E σ)
def aC(K:OU)(d:O5)(ps:List Pj)(ds:List Ov):Prop:=
 ∀(s:OB) (us:List Ov),K.In s.heap->(us++ds).length=ps.length->Vm s d ⟨us,[]⟩ (ps.zip (us++ds))
theorem aC.all{K:OU}{ps:List Pj}(h:∀us:List Ov,us.length=ps.length->bindArgs fd ⟨us,[]⟩=QR (ps.zip us)):aC K fd ps []:=λs us _ d=>by
 rw[Pf]at d⊢;exact .of_eq (h us d)
def cK(CX:L3)(X:Cx)(E:St->XK):Prop:=∀(a_:List (Oq×O7)) (σ:St) (H:Hp) (s:OB) (e:Ov) (s':OB),dk X a_ σ H s->CX X.stack H s (E σ) e s'->X.xe e s'
end
section
variable{X:Cx}{CX:L3}{k:Nat}{f C:Oq}{fd:O5}{ps:List Pj}{sp:Sp}{dvs:List V}{ds:List Ov}{E:St->XK}{x m:Pj}{p pos apos:TD}{e o:Expr}{es:List Expr}{ta:TE}{t:TA}
theorem tj(F:fw X.prog X.w X.K X.mg X.base CX k f fd ps sp)(c:en k X.A)(d:aC X.K fd ps ds)(hd:au dvs ds)(g:cK CX X E)
  (I:dk X a_ σ H s) (r:au vs us) (h:sp (vs++dvs) H Q (E σ)):OH (O4 X.prog X.w) X.A (VF (.ref f) us) (EP X a_ σ Q) X.xe s:=by
 have b:au (vs++dvs) (us++ds):=r.append hd;have i:(us++ds).length=ps.length:=by rw[<-b.length];exact F.len _ _ _ _ h
 refine wpAny_call (Ud (F.run X.A X.stack s H ⟨us,[]⟩ (us++ds) (vs++dvs) Q (E σ) c I.env0 (d s us I.kIn i) b h) λr s' a=>?_);cases r with
 |error e=>exact g a_ σ H s e s' I a
 |ok fl=>
  cases fl with
  |ret u=>exact I.after a
  |next=>exact Rf a
  |brk=>exact Rf a
  |cont=>exact Rf a
theorem mo(F:fw X.prog X.w X.K X.mg X.base CX k f fd ps sp)(g:en k X.A)(i:Gl X x)(hm:X.mg x=on (.ref f))(j:Uo X.K (.ref f)=On)(l:aC X.K fd ps ds)(hd:au dvs ds)(n:cK CX X E)
  (ha:PA X (e::es) t) (b:(x==("__debug__":Pj))=Os:=by decide) (u:OJ (e::es) X.env=(Os,PZ e X.env)::OJ es X.env:=by rfl) (c:(QX pos (OJ es X.env)).any (·.1)=Os:=by rfl):
  PE X (.Call (.Name x p) (e::es) [] pos) (Nj sp dvs E t):=by
 intro a s v H Q I h;refine Uq (qi I i hm ?_ b);refine WX (h₀:=X.base) I.ok.mod.kin j (e_ (ha pos a s v H _ I h) λus y ⟨vs,B,d,r,q⟩=>⟨d.kIn,?_⟩) u c;exact tj F g l hd n d r q
theorem vq(v:PE X o ta)(c:ri X.K C)(hm:pq X.K C m f)(F:fw X.prog X.w X.K X.mg X.base CX k f fd ps sp)(y:en k X.A)(B:aC X.K fd ps ds)(hd:au dvs ds)(J:cK CX X E)(ha:PA X (e::es) t)
  (d:OJ (e::es) X.env=(Os,PZ e X.env)::OJ es X.env:=by rfl) (g:(QX pos (OJ es X.env)).any (·.1)=Os:=by rfl)
  (L:PZ (.Call (.Attribute o m apos) (e::es) [] pos) X.env=(do
   let ov <-PZ o X.env
   Si apos.atName
   let (f,first) <-SN [ov] (UL ov m pl)
   W1 pos f first (QX pos (OJ (e::es) X.env)) (RI pos (QD [] X.env))):=by rfl):
  PE X (.Call (.Attribute o m apos) (e::es) [] pos) (wu C m sp dvs E ta t):=by
 intro b s i H Q I h;refine Wt (pl:=pl) (e_ (v b s i H _ I h) λu N ⟨x,O,j,P,a,T,fs,ex,R,l,q⟩=>?_) L;subst ex;obtain rfl:u=OM a:=P;refine pB j R c hm l ?_;refine WX (first:=[.ref a]) (h₀:=X.base) I.ok.mod.kin hm.kp (e_ (ha pos b N i O _ j q) λus U ⟨vs,W,n,r,q2⟩=>⟨n.kIn,?_⟩) d g
 exact tj (us:= .ref a::us) (vs:= .ref a::vs) F y B hd J n (.cons rfl r) q2
theorem BT(g:PE X o ta)(c:ri X.K C)(hm:pq X.K C m f)(F:fw X.prog X.w X.K X.mg X.base CX k f fd ps sp)(i:en k X.A)(j:aC X.K fd ps ds)(hd:au dvs ds)(n:cK CX X E)
  (r:PZ (.Call (.Attribute o m apos) [] [] pos) X.env=(do
   let ov <-PZ o X.env
   Si apos.atName
   let (f,first) <-SN [ov] (UL ov m pl)
   W1 pos f first (QX pos (OJ [] X.env)) (RI pos (QD [] X.env))):=by rfl):
  PE X (.Call (.Attribute o m apos) [] [] pos) (wu C m sp dvs E ta AX):=by
 intro b s v H Q I h;refine Wt (pl:=pl) (e_ (g b s v H _ I h) λu J ⟨x,L,d,y,a,N,fs,ex,B,l,q⟩=>?_) r;subst ex;obtain rfl:u=OM a:=y;refine pB d B c hm l ?_;exact PySem.W.callWith_K0 (first:=[.ref a]) d.kIn hm.kp (tj (us:=[.ref a]) (vs:=[.ref a]) F i j hd n d (.cons rfl .nil) q)
structure Mk (K:OU) (C f:Oq):Prop where
 makes:XV K C=On
 init:SU K (.ref C) "__init__"=on (on (.ref f))
 fn:isFn K (.ref f)=On
 kp:Uo K (.ref C)=On
def PK(X:Cx)(b:List Vo)(t:TA):Prop:=
 ∀(pos:TD) (a:List (Oq×O7)) (s:OB) (c:St) (H:Hp) (Q:List V->Hp->Prop),dk X a c H s->t c H Q->OH (O4 X.prog X.w) X.A (evalAll ((RI pos (QD b X.env)).map (·.2))) (AP X a c Q) X.xe s
variable{ks:List Pj}{kpos:TD}{kws:List Vo}{te:TE}{tk:TA}{nm:Option Pj}
theorem KY:PK X [] AX:=λ_ _ _ _ H Q I h=>wpAny_evalAll_nil ⟨[],H,I,.nil,h⟩
theorem Jk(ha:PE X e te)(c:PK X kws t):PK X (⟨nm,e,kpos⟩::kws) (GW te t):=by
 intro pos a s b H Q I h;show OH _ _ (evalAll ((do let v <-PZ e X.env;Si pos;QR v)::(RI pos (QD kws X.env)).map (·.2))) _ _ s
 refine wpAny_evalAll_cons (My (e_ (ha a s b H _ I h) λu d ⟨x,g,i,r1,q1⟩=>My (Q2 (Oj ?_))));exact e_ (c pos a d b g _ i q1) λus q ⟨xs,j,l,n,q2⟩=>⟨x::xs,j,l,.cons r1 n,q2⟩
structure E_ (K:OU) (fd:O5) (ps ks:List Pj) (g:List Ov->List Ov->List Ov) (gV:List V->List V->List V):Prop where
 to:∀(s:OB) (us ws:List Ov),K.In s.heap->(g us ws).length=ps.length->Vm s fd ⟨us,ks.zip ws⟩ (ps.zip (g us ws))
 rel:∀{vs:List V} {us:List Ov} {zs:List V} {ws:List Ov},au vs us->au zs ws->au (gV vs zs) (g us ws)
variable{g:List Ov->List Ov->List Ov}{gV:List V->List V->List V}
structure c_ (N P:List Pj) (sc:Scope):Prop where
 kind:sc.kind= .function
 co:sc.isCoroutine=Os
 gen:sc.isGenerator=Os
 nd:N.Nodup
 pre:N.take P.length=P
 par:∀x∈P,sc.names.lookup x=on .local\/sc.names.lookup x=on .cell
 nofree:∀y∈sc.names,y.2≠ .free
theorem rf{b:Pj->Option Su}{x:Pj}:∀{a:List (Pj×Ov)} {m:Pj->Option Ov},(∀v,(x,v)∉a)->X2 b a m x=m x
 |[],_,_=>rfl
 |(n,v)::r,m,h=>by
  unfold X2;rw[rf λw c=>h w (Op _ c)];split
  .have:x≠n:=by rintro rfl;exact h v Ox
   simp[this]
  .rfl
theorem rj{b:Pj->Option Su}{x:Pj}:∀{a:List (Pj×Ov)} {m:Pj->Option Ov},(∀v,(x,v)∉a)->X1 b a m x=m x
 |[],_,_=>rfl
 |(n,v)::r,m,h=>by
  unfold X1;rw[rj λw c=>h w (Op _ c)];split
  .rfl
  .have:x≠n:=by rintro rfl;exact h v Ox
   simp[this]
theorem rh{a:Pj->Option Su}{x:Pj}{v:Ov}:∀{P:List Pj} {vs:List Ov} {i:Nat} {m:Pj->Option Ov},P.Nodup->P[i]?=on x->vs[i]?=on v->a x=on .local->
  X2 a (P.zip vs) m x=on v
 |[],_,_,_,_,h,_,_=>by simp at h
 |_::_,[],_,_,_,_,h,_=>by simp at h
 |p::P,w::vs,0,m,nd,h1,h2,hk=>by
  simp at h1 h2;subst h1;subst h2;show X2 a ((p,w)::P.zip vs) m p=_;unfold X2;rw[rf λv b=>(Pt.mp nd).1 (UF b).1,OA hk];simp
 |p::P,w::vs,i+1,m,nd,h1,h2,hk=>by
  show X2 a ((p,w)::P.zip vs) m x=_;unfold X2;exact rh (i:=i) (Pt.mp nd).2 (by simpa using h1) (by simpa using h2) hk
theorem rm{a:Pj->Option Su}{x:Pj}{v:Ov}:∀{P:List Pj} {vs:List Ov} {i:Nat} {m:Pj->Option Ov},P.Nodup->P[i]?=on x->vs[i]?=on v->a x≠on .local->
  X1 a (P.zip vs) m x=on v
 |[],_,_,_,_,h,_,_=>by simp at h
 |_::_,[],_,_,_,_,h,_=>by simp at h
 |p::P,w::vs,0,m,nd,h1,h2,hk=>by
  simp at h1 h2;subst h1;subst h2;show X1 a ((p,w)::P.zip vs) m p=_;unfold X1;rw[rj λv b=>(Pt.mp nd).1 (UF b).1,Ot hk];simp
 |p::P,w::vs,i+1,m,nd,h1,h2,hk=>by
  show X1 a ((p,w)::P.zip vs) m x=_;unfold X1;exact rm (i:=i) (Pt.mp nd).2 (by simpa using h1) (by simpa using h2) hk
noncomputable def eS(N:List Pj)(vs:List V):St:=vs.map on++OY (N.length-vs.length) Oi
noncomputable def eF(CX:L3)(P:Pc)(w:Pk)(K:OU)(mg:Pj->Option Ov)(base:P4)(N:List Pj)(a:Pj)(scope:Scope)(f:Oq)(cd:Ov)(A:PU)(outer:List VJ)(s:OB)(H:Hp)(E:XK):Cx where
 prog:=P
 w:=w
 K:=K
 mg:=mg
 base:=base
 A:=A.deeper (SS a scope s.heap.objs.size f cd)
 N:=N
 s₀:=s
 H₀:=H
 env:=SS a scope s.heap.objs.size f cd
 outer:=outer
 stack:=SS a scope s.heap.objs.size f cd::outer
 ex:=[]
 calm:=On
 fn:=λ_=>On
 pn:=[]
 xe:=λe s'=>OH (O4 P w) (A.deeper (SS a scope s.heap.objs.size f cd)) (leaving (SS a scope s.heap.objs.size f cd) e) (λ_ b=>CX outer H s E e b) (λc b=>CX outer H s E c b) s'
theorem uH{a:Scope}{x:Pj}(h:a.names.lookup x=on .cell):∃c,(Qv n a.names []).lookup x=on c:=by
 have q:=W3 a.names n [] (.inl h);exact V9.mp q
theorem zH{CX:L3}{K:OU}{N ps:List Pj}{scope:Scope}{f:Oq}{A:PU}{s L:OB}{E:XK}{vs:List V}
  (S:c_ N ps scope) (hd:A.handled=Oi) (j:up P w K mg base A outer s H) (U:vs.length=ps.length) (r:au vs us)
  (x:InCallC s s.heap.objs.size (X2 (SS qual scope s.heap.objs.size f cd).kindOf (ps.zip us) λ_=>Oi) (Qv (s.heap.objs.size+1) scope.names []) (X1 (SS qual scope s.heap.objs.size f cd).kindOf (ps.zip us) λ_=>Oi) L):
  dk (eF CX P w K mg base N qual scope f cd A outer s H E) [] (eS N vs) H L:=by
 have R:ps.length<=N.length:=by have:=Px T7 S.pre;rw[Qg]at this;omega
 obtain⟨I,tk,rfl,O⟩:=x.done;have l:∀b:Oq,b∉(eF CX P w K mg base N qual scope f cd A outer s H E).ex:=λb z=>OX (show b∈([]:List Oq)from z) (by simp);refine⟨⟨j.mod,S.kind,rfl,rfl,OD _,λy z c I d=>?_,λy hy=>?_,λy c _ h=>?_,λ_=>hd,Around.frames_deeper j.frames,.inr ⟨rfl,rfl⟩,λb z=>OX z (l b),j.bs,j.bsz,λb _ _=>l b,λb z=>OX z (l b),j.funs,j.frf⟩,
  rfl,j.bare,Un.kept O,⟨_,x.toInCall.ns,λi y v I d W=>?_⟩,λy c h=>⟨_,x.cell y c h⟩,j.hok.fresh (OD _),λy c h=>?_,λp B=>OX (show p∈([]:List (Oq×O7))from B) (by simp),j.hok.kept O,?_⟩
 .exact name_of_addr x.apart (Qf I) (Qf d)
 .have hy:scope.names.lookup y=on .cell\/scope.names.lookup y=on .free:=hy
  rcases hy with hy|hy
  .exact uH hy
  .exact OX rfl (S.nofree _ (Qf hy))
 .exact Tz (x.above y c (Qf h))
 .have J:i<vs.length:=by
   unfold eS at d;by_cases J:i<vs.length
   .exact J
   .rw[QG (by simpa using J)]at d
    rw[Q1]at d;split at d<;>cases d
  have ha:vs[i]?=on v:=by
   unfold eS at d;rw[Sm (by simpa using J),Ou]at d;cases e:vs[i]? with
   |none=>rw[e]at d;cases d
   |some a=>rw[e]at d;cases d;rfl
  obtain⟨u,Q,T⟩:=r.get ha;have B:ps[i]?=on y:=by
   rw[<-S.pre,Wq (by omega)];exact I
  have F:ps.Nodup:=by rw[<-S.pre];exact S.nd.sublist (List.take_sublist _ _)
  refine⟨u,T,?_⟩;rcases S.par y (OQ B)with k|k
  .exact .inl ⟨k,rh F B Q k⟩
  .obtain⟨c,e⟩:=uH (n:=s.heap.objs.size+1) k
   refine .inr ⟨.inl k,c,e,?_⟩;have q:=x.cell y c e;rw[rm F B Q (by show scope.names.lookup y≠_;rw[k];decide)]at q;exact q
 .exact j.hok.fresh (Tz (x.above y c (Qf h)))
 .unfold eS
  show _=N.length;rw[ON,Oh,Qw];omega
theorem Iq{CX:L3}{K:OU}{k:Nat}{f:Oq}
  {N ps:List Pj} {sp:Sp} (U:K.lookup f=on ⟨oc,od,.func (SI name qual params body scope dV kV doc pm an cdv ct),osl⟩) (B:Tl K cdv qual=On) (S:c_ N ps scope)
  (len:∀vs H Q E,sp vs H Q E->vs.length=ps.length)
  (d:∀(A:PU) (outer:List VJ) (s:OB) (H:Hp) (vs:List V) (Q:VK) (E:XK),en k (A.deeper (SS qual scope s.heap.objs.size f cdv))->sp vs H Q E->
   ∃t,PSs (eF CX P w K mg base N qual scope f cdv A outer s H E) body t/\t {nx:=λ_ c=>Q .non c,rt:=Q} (eS N vs) H):
  fw P w K mg base CX (k+1) f (SI name qual params body scope dV kV doc pm an cdv ct) ps sp:=by
 refine⟨len,λA outer s H args us vs Q E F i Y r j=>?_⟩;have Z:=len _ _ _ _ j;have R:K.In s.heap:=i.mod.kin.keeps λb o e=>(i.bs b o e).1;have L:s.heap.NoLimit:=i.mod.nolimit.keeps λb o e=>(i.bs b o e).1;have h:∀y∈ps.zip us,scope.names.lookup y.1=on .local\/(scope.names.lookup y.1=on .cell/\((Qv (s.heap.objs.size+1) scope.names []).lookup y.1).isSome=On):=λ⟨n,v⟩ hy=>by
  rcases S.par n (UF hy).1 with q|q
  .exact .inl q
  .exact .inr ⟨q,W3 _ _ _ (.inl q)⟩
 refine codeAny_call_function F.depth (R _ _ U) rfl S.co S.gen rfl (PySem.W.codeRec_of R B) (Y _ _ _ _ ?_);refine wpAny_newFunctionEnv_cells S.kind h λenv he T x=>?_;subst he;refine⟨L.keeps x.toInCall.keep,codeAny_func ?_⟩;obtain⟨t,ht,hq⟩:=d A outer s H vs Q E (F.deeper _) j;have I:dk (eF CX P w K mg base N qual scope f cdv A outer s H E) [] (eS N vs) H T:=zH S F.hd i Z r x;refine PN (ht [] T (eS N vs) H _ I hq) (λfl s' hs=>?_) λe s' hs=>hs;have l:∀{a:St} {c:Hp} {v:V} {u:Ov},dk (eF CX P w K mg base N qual scope f cdv A outer s H E) [] a c s'->aI v u->Q v c->CE outer P w H s Q u s':=
  λ{a c v u} J O q=>⟨v,c,J.os,J.bare,J.base,J.hok,O,q⟩
 cases fl with
 |ret u=>
  obtain⟨v,a,c,J,O,q⟩:=hs;exact l J O q
 |next=>
  obtain⟨a,c,J,q⟩:=hs;exact l (v:=V.non) (u:=Pg) J rfl q
 |brk=>
  obtain⟨_,_,_,q⟩:=hs;exact Rf q
 |cont=>
  obtain⟨_,_,_,q⟩:=hs;exact Rf q
variable{id T:String}{r:List V->Hp->VK->Prop}
def ZB(r:List V->Hp->VK->Prop)(t:TA):TE:=λa H Q=>t a H λvs b=>r vs b Q
theorem jP(i:cM X (.builtin id) r)(j:Gl X x)(hm:X.mg x=Oi)(l:SC x=on (.builtin id))(ha:PA X (e::es) t)(hn:x≠"__name__":=by decide)(b:(x==("__debug__":Pj))=Os:=by decide)
  (n:OJ (e::es) X.env=(Os,PZ e X.env)::OJ es X.env:=by rfl) (c:(QX pos (OJ es X.env)).any (·.1)=Os:=by rfl):PE X (.Call (.Name x p) (e::es) [] pos) (ZB r t):=by
 intro a s d H Q I h;refine Uq (fF I j hm l ?_ hn b);exact PyProof.Rows.callWith_builtin1 (e_ (ha pos a s d H _ I h) λus q ⟨vs,u,v,r1,q1⟩=>i a q d u vs us Q v r1 q1) n c
theorem yP(i:cM X (.type T) r)(j:Gl X x)(hm:X.mg x=Oi)(l:SC x=on (.type T))(ha:PA X (e::es) t)(hn:x≠"__name__":=by decide)(b:(x==("__debug__":Pj))=Os:=by decide)
  (n:OJ (e::es) X.env=(Os,PZ e X.env)::OJ es X.env:=by rfl) (c:(QX pos (OJ es X.env)).any (·.1)=Os:=by rfl):PE X (.Call (.Name x p) (e::es) [] pos) (ZB r t):=by
 intro a s d H Q I h;refine Uq (fF I j hm l ?_ hn b);exact Qh (e_ (ha pos a s d H _ I h) λus q ⟨vs,u,v,r1,q1⟩=>i a q d u vs us Q v r1 q1) n c
end
end L2
namespace HT
open PySem PyProof.Rows
section
open PySem.SeqAt
open PySem.AutoSeq1 (wpAny_loadPart')
open PySem.MeetsSeq PySem.MeetsSeq2 PySem.MeetsSeq3
end
section
variable{prog:Pc}{w:Pk}{A:PU}{E:Ov->OB->Prop}{s:OB}
theorem cat_tup{vs a:List Ov}(u:IsTup s.heap t vs.toArray)(v:IsTup s.heap b a.toArray)(m:vs≠[])
  (y:a=[]->Q (.ref t) s) (B:a≠[]->Q (.ref s.heap.objs.size) {s with heap:=s.heap.push {cls:= .type "tuple",data:= .seq (vs++a).toArray}})
  (k:vs.length+a.length<=OS):OH (O4 prog w) A (Rp .Add (.ref t) (.ref b)) Q E s:=by
 obtain⟨⟨cls,o,data,sl⟩,i,p,n,hd⟩:=id u;obtain⟨⟨q,d,l,f⟩,c,g,r,h⟩:=id v;simp only at p hd g h;subst p hd g h;have e:vs.toArray++a.toArray=(vs++a).toArray:=by simp
 by_cases j:a=[]
 .exact concat_meets ⟨_,i,rfl⟩ ⟨_,c,rfl⟩ Wl XE Ul Ub (TX _ _)
   (tuple_addW1 t b vs.toArray a.toArray n r o d sl f (by simpa using m) (by simp[j])) ⟨i,c,y j⟩
 .refine concat_meets ⟨_,i,rfl⟩ ⟨_,c,rfl⟩ Wl XE Ul Ub (TX _ _)
   (tuple_addW2 t b vs.toArray a.toArray n r o d sl f (by simpa using m) (by simpa using j) (by rw[OR,OR];exact k)) ⟨i,c,?_⟩
  rw[e];exact B j
noncomputable def sIx(n d:Nat):Option Int->Nat
 |none=>d
 |some v=>if v<0 then(v+(n:Int)).toNat else RK v.toNat n
theorem sIx_none(n d:Nat):sIx n d Oi=d:=rfl
theorem sIx_nat(n d k:Nat):sIx n d (on (k:Int))=RK k n:=by
 show(if(k:Int)<0 then((k:Int)+(n:Int)).toNat else RK (k:Int).toNat n)=RK k n;rw[Ot (by omega),P0]
theorem KC(n d:Nat)(hd:d<=n)(o:Option Int):sIx n d o<=n:=by
 cases o with
 |none=>exact hd
 |some v=>
  show(if v<0 then(v+(n:Int)).toNat else RK v.toNat n)<=n;by_cases a:v<0
  .rw[OA a];omega
  .rw[Ot a];exact VE _ _
theorem v7(v:Int)(n d:Nat):(if v<0 then WN (v+(n:Int)) 0 else RK v (n:Int))=((sIx n d (on v):Nat):Int):=by
 show(if v<0 then WN (v+(n:Int)) 0 else RK v (n:Int))=(((if v<0 then(v+(n:Int)).toNat else RK v.toNat n):Nat):Int);by_cases a:v<0
 .simp only[OA a];omega
 .simp only[Ot a];omega
theorem xJ(lo a:Option Int)(n:Nat):S6 lo a 1 (n:Int)=(((sIx n 0 lo:Nat):Int),((sIx n n a:Nat):Int)):=by
 have b:¬((1:Int)<0):=by omega
 unfold S6;simp only[b,PD];refine RQ ?_ ?_
 .cases lo with
  |none=>rfl
  |some v=>exact v7 v n 0
 .cases a with
  |none=>rfl
  |some v=>exact v7 v n n
theorem wM(i j:Nat):RO (i:Int) (j:Int) 1=j-i:=by
 unfold RO;have a:(1:Int)>0:=by omega
 simp only[a,PM,Int.ediv_one];split<;>omega
theorem oE(p:Wd v o)(h:Q o s):OH (O4 prog w) A (Builtin.Slice.slicePartIndex v) Q E s:=by
 cases p with
 |none=>exact slicePart_none h
 |int i t=>exact slicePart_int h
theorem ny{sl:Oq}{d e:Ov}{lo a:Option Int}{n:Nat}{Q:Int×Int×Nat->OB->Prop}(hs:s.heap.IsSliceOf sl d e .none)(pl:Wd d lo)(f:Wd e a)
  (h:Q (((sIx n 0 lo:Nat):Int),1,sIx n n a-sIx n 0 lo) s):OH (O4 prog w) A (U6 (.ref sl) (QR (n:Int))) Q E s:=by
 obtain⟨os,b,g,c⟩:=id hs;unfold U6 Builtin.Slice.sliceFields;refine My (My (Qa b c (x:=d) rfl (My (Qa b c (x:=e) rfl (My (Qa b c (x:= .none) rfl (Oj ?_)))))));refine My (slicePart_none ?_);show OH _ _ (if((1:Int)==0)=On then _ else _) _ _ s;rw[Ot (by decide)];refine My (oE pl (My (oE f (My (Oj ?_)))));show OH _ _ (match S6 lo a 1 (n:Int)with|(lo,a)=>QR (lo,(1:Int),RO lo a 1)) _ _ s
 rw[xJ lo a n];show OH _ _ (QR (((sIx n 0 lo:Nat):Int),(1:Int),RO ((sIx n 0 lo:Nat):Int) ((sIx n n a:Nat):Int) 1)) _ _ s;rw[wM];exact Oj h
theorem BQ(xs:Array Ov)(i k:Nat):((Oz k).filterMap λ(m:Nat)=>xs[((i:Int)+(m:Int)*1).toNat]?).toArray=((xs.toList.drop i).take k).toArray:=by
 have e:(λ(m:Nat)=>xs[((i:Int)+(m:Int)*1).toNat]?)=λm=>xs[i+m]?:=by
  funext m;have:((i:Int)+(m:Int)*1).toNat=i+m:=by omega
  rw[this]
 rw[e];have:=pick_run xs i k;rw[XO]at this;have a:((λx=>xs[x]?)∘λx=>i+x)=λm=>xs[i+m]?:=rfl;rw[a]at this;rw[this]
theorem getItem_tuple_cut{a:Array Ov}{lo c:Option Int}(d:IsTup s.heap t a)(hs:s.heap.IsSliceOf sl vl vu .none)(pl:Wd vl lo)(j:Wd vu c)
  (k:¬(sIx a.size 0 lo=0/\sIx a.size a.size c=a.size))
  (h:Q (.ref s.heap.objs.size) {s with heap:=s.heap.push {cls:= .type "tuple",data:= .seq ((a.toList.drop (sIx a.size 0 lo)).take (sIx a.size a.size c-sIx a.size 0 lo)).toArray}})
  (l:a.size<=OS):OH (O4 prog w) A (Yk (.ref t) (.ref sl)) Q E s:=by
 have b:sizeOk (.seq ((a.toList.drop (sIx a.size 0 lo)).take (sIx a.size a.size c-sIx a.size 0 lo)).toArray):=by
  show((a.toList.drop (sIx a.size 0 lo)).take (sIx a.size a.size c-sIx a.size 0 lo)).toArray.size<=OS;rw[OR,Qg,Sf,Pb];omega
 have o:sIx a.size a.size c<=a.size:=KC _ _ (OD _) c;obtain⟨os,e,f,n⟩:=id hs;have g:s.TypeIs (.ref sl) "slice":=⟨os,e,f⟩;unfold Yk
 try with_reducible refine P3 ?_
 first|refine My (Oj ?_)|skip
 refine My (wpAny_sequenceKey d.typeIs (by decide) ?_);refine My (wpAny_callSpecial?_slot (name:=Qn "__getitem__") d.typeIs Sx
  (Pe Sx d.typeIs entry_tuple_getitem ?_ (args_tuple_getitem _ _)))
 show OH _ _ (U7 (.ref t)>>=_) _ _ s;refine My (tupleItemsOf_ d ?_);refine My (U1 g ?_);rw[OA (by decide)];refine My (ny hs pl j ?_);have i:¬((((sIx a.size 0 lo:Nat):Int)==0&&(1:Int)==1&&(sIx a.size a.size c-sIx a.size 0 lo)==a.size)=On):=by
  intro q;rw[O9,O9]at q;have q1:((sIx a.size 0 lo:Nat):Int)=0:=eq_of_beq q.1.1;have q2:sIx a.size a.size c-sIx a.size 0 lo=a.size:=eq_of_beq q.2;exact k ⟨by omega,by omega⟩
 show OH _ _ (if(((sIx a.size 0 lo:Nat):Int)==0&&(1:Int)==1&&(sIx a.size a.size c-sIx a.size 0 lo)==a.size)=On then _ else _) _ _ s;rw[Ot i,BQ]
 first
  |exact My (m:=RY _) (Ph (Oj ⟨_,rfl,Oj h⟩) b)
  |exact My (m:=RY _) (Ph (My (Oj (Oj ⟨_,rfl,Oj h⟩))) b)
  |exact My (My (m:=RY _) (Ph (Oj (Oj ⟨_,rfl,Oj h⟩)) b))
  |exact My (My (m:=RY _) (Ph (Oj ⟨_,rfl,Oj h⟩) b))
end
end HT
namespace L2
open PySem PySem.Spec PyProof.Rows
abbrev TO:=St->Hp->(Option Int->Hp->Prop)->Prop
def PO(X:Cx)(e:Option Expr)(t:TO):Prop:=
 ∀(a:List (Oq×O7)) (s:OB) (b:St) (H:Hp) (Q:Option Int->Hp->Prop),dk X a b H s->t b H Q->
  OH (O4 X.prog X.w) X.A (evalPart e X.env) (λu s'=>∃o c,dk X a b c s'/\Wd u o/\Q o c) X.xe s
noncomputable def IS:TO:=λ_ H Q=>Q Oi H
def Nh(t:TE):TO:=λa H Q=>t a H λx b=>∃i,x= .int i/\Q (on i) b
theorem pz{ns:List Int}:∀{us:List Ov},au (ns.map V.int) us->WH us ns:=by
 induction ns with
 |nil=>intro us r;rw[RE]at r;cases r;exact .nil
 |cons n ns ih=>
  intro us r;rw[OG]at r;cases r with
  |cons r1 a=>
   obtain⟨t,e⟩:=r1;subst e;exact .cons n t (ih a)
section
variable{X:Cx}{e:Expr}{te:TE}{lo hi:Option Expr}{tl th:TO}{pos p2:TD}
theorem vn:PO X Oi IS:=by
 intro a s b H Q I h;rw[XD];exact Oj ⟨Oi,H,I,.none,h⟩
theorem vm(h:PE X e te):PO X (on e) (Nh te):=by
 intro a s b H Q I c;rw[evalPart_some];refine e_ (h a s b H _ I c) λu g ⟨x,d,f,r1,q1⟩=>?_;obtain⟨i,rfl,q⟩:=q1;obtain⟨t,rfl⟩:=r1;exact⟨on i,d,f,.int i t,q⟩
def SlR(X:Cx)(r:V->Option Int->Option Int->Hp->VK->Prop):Prop:=
 ∀(a:List (Oq×O7)) (s:OB) (b:St) (H:Hp) (x:V) (v c d:Ov) (lo hi:Option Int) (sl:Oq) (Q:VK),dk X a b H s->aI x v->s.heap.IsSliceOf sl c d .none->Wd c lo->Wd d hi->r x lo hi H Q->
  ∃T f,typeLookup (.type T) "__getitem__"=QR (on (.builtin f))/\s.TypeIs v T/\OH (O4 X.prog X.w) X.A (Yk v (.ref sl)) (EP X a b Q) X.xe s
def tSl(r:V->Option Int->Option Int->Hp->VK->Prop)(te:TE)(tl th:TO):TE:=λa H Q=>te a H λx b=>tl a b λl c=>th a c λu d=>r x l u d Q
theorem nG(j:SlR X r)(k:PE X e te)(m:PO X lo tl)(n:PO X hi th):PE X (.Subscript e (.Slice lo hi Oi p2) pos) (tSl r te tl th):=by
 intro a s d H Q I h;refine Subscript_ (e_ (k a s d H _ I h) λv o ⟨x,p,t,r1,q1⟩=>?_);refine wpAny_Slice (e_ (m a o d p _ t q1) λf y ⟨l,B,C,pl,q2⟩=>e_ (n a y d B _ C q2) λg c ⟨u,i,F,J,q3⟩=>?_);rw[XD];refine Oj ?_;have L:dk X a d i {c with heap:=c.heap.push {cls:= .type "slice",data:= .fields #[f,g,.none]}}:=F.kept (t':=c.toks) λb R q=>Ol _ q;obtain⟨T,U,N,O,P⟩:=j a {c with heap:=c.heap.push {cls:= .type "slice",data:= .fields #[f,g,.none]}} d i x v f g l u c.heap.objs.size Q L r1 (VM ..) pl J q3;show OH (O4 X.prog X.w) X.A (XF e (.Slice lo hi Oi p2) v (.ref c.heap.objs.size)) (EP X a d Q) X.xe {c with heap:=c.heap.push {cls:= .type "slice",data:= .fields #[f,g,.none]}};exact tail_any (ops:=[.ref c.heap.objs.size,v]) O N P (by with_unfolding_all rfl)
noncomputable def jc(xs:List V)(lo hi:Option Int):List V:=(xs.drop (HT.sIx xs.length 0 lo)).take (HT.sIx xs.length xs.length hi-HT.sIx xs.length 0 lo)
theorem m6(xs:List V)(lo hi:Option Int):(jc xs lo hi).length<=xs.length:=by
 unfold jc;rw[Qg,Sf];omega
def ZF(K:OU):V->Option Int->Option Int->Hp->VK->Prop:=λx lo hi H Q=>∃a xs,x= .ref a/\jn K H a xs/\
 ¬(HT.sIx xs.length 0 lo=0/\HT.sIx xs.length xs.length hi=xs.length)/\∀p,H p=Oi->Q (.ref p) (upd H p (.tup (jc xs lo hi)))
theorem Ks:SlR X (ZF X.K):=by
 intro d s m H x v n p lo hi sl Q I i hs pl j h;obtain⟨a,xs,rfl,k,l,q⟩:=h;cases i;obtain⟨its,r,f,g⟩:=I.tuple k;have c:its.toArray.size=xs.length:=by rw[OR];exact r.length.symm
 refine⟨"tuple",_,Sx.lookup,f.typeIs,?_⟩;refine HT.getItem_tuple_cut f hs pl j (by rw[c];exact l) ?_ (by rw[c];exact g);rw[c];refine⟨.ref s.heap.objs.size,_,I.laid (t':=s.toks) (o:= .tup (jc xs lo hi)) (λb t q=>Ol _ q) (OD _) ?_,rfl,q _ (I.hok.fresh (OD _))⟩;exact⟨OP (m6 xs lo hi) g,_,(r.drop (HT.sIx xs.length 0 lo)).take (HT.sIx xs.length xs.length hi-HT.sIx xs.length 0 lo),X9 _ _⟩
def wI(K:OU):R2:=λx y H Q=>∃a b xs ys,x= .ref a/\y= .ref b/\jn K H a xs/\jn K H b ys/\xs≠[]/\xs.length+ys.length<=OS/\
 (ys=[]->Q (.ref a) H)/\(ys≠[]->∀p,H p=Oi->Q (.ref p) (upd H p (.tup (xs++ys))))
theorem au.nil_iff(r:au xs us):us=[]↔xs=[]:=by
 cases r with
 |nil=>simp
 |cons _ _=>simp
theorem Js:g_ X (Rp .Add) (wI X.K):=by
 intro d s n H x y v u Q I i j h;obtain⟨a,b,xs,ys,rfl,rfl,ha,k,l,f,q1,q2⟩:=h;cases i;cases j;obtain⟨its,r1,m,_⟩:=I.tuple ha;obtain⟨g,c,p2,_⟩:=I.tuple k;refine HT.cat_tup m p2 (λz=>l (r1.nil_iff.mp z)) (λz=>⟨.ref a,H,I,rfl,q1 (c.nil_iff.mp z)⟩) (λz=>?_) (by rw[<-r1.length,<-c.length];exact f);refine⟨.ref s.heap.objs.size,_,I.laid (t':=s.toks) (o:= .tup (xs++ys)) (λb p q=>Ol _ q) (OD _) ?_,rfl,q2 (λw=>z (c.nil_iff.mpr w)) _ (I.hok.fresh (OD _))⟩;exact⟨by rw[ON];exact f,_,r1.append c,X9 _ _⟩
noncomputable def ra(n:Nat)(i:Int):Option Nat:=if 0<=i then(if i<n then on i.toNat else Oi)else if -(n:Int)<=i then on (i+n).toNat else Oi
def o1{α:Type}(xs:List α)(i:Int):Option α:=(ra xs.length i).bind λj=>xs[j]?
theorem vK(h:ra n i=on j):seqIndex? i n=on j/\j<n/\-(n:Int)<=i/\i<n:=by
 unfold ra at h;by_cases b:0<=i
 .rw[OA b]at h
  by_cases a:i<n
  .rw[OA a]at h
   have e:i.toNat=j:=O8 h;exact⟨by rw[seqIndex_of b a,e],by omega,by omega,a⟩
  .rw[Ot a]at h;cases h
 .rw[Ot b]at h
  by_cases a:-(n:Int)<=i
  .rw[OA a]at h
   have e:(i+n).toNat=j:=O8 h;exact⟨by rw[Yo (by omega) a,e],by omega,a,by omega⟩
  .rw[Ot a]at h;cases h
theorem wa{α:Type}{xs:List α}{i:Int}{v:α}(h:o1 xs i=on v):∃j,seqIndex? i xs.length=on j/\xs[j]?=on v/\j<xs.length/\-(xs.length:Int)<=i/\i<xs.length:=by
 unfold o1 at h;cases e:ra xs.length i with
 |none=>rw[e]at h;cases h
 |some j=>
  rw[e]at h;obtain⟨a,b,c,d⟩:=vK e;exact⟨j,a,h,b,c,d⟩
theorem J2{α:Type}{xs:List α}{j:Nat}{v:α}(h:xs[j]?=on v):o1 xs (j:Int)=on v:=by
 have a:j<xs.length:=(OF.mp h).1;have e:ra xs.length (j:Int)=on j:=by
  unfold ra;rw[OA (by omega),OA (by omega)];simp
 unfold o1;rw[e];exact h
def we(b:Expr):Prop:=∀o i,subscripted b Os o i=operate [o,i] (Yk o i)
def K_(X:Cx)(r:R2):Prop:=
 ∀(c a:Expr) (b:List (Oq×O7)) (s:OB) (d:St) (H:Hp) (x y:V) (v u:Ov) (Q:VK),dk X b d H s->aI x v->aI y u->r x y H Q->
  subscripted a Os v u=operate [v,u] (Yk v u)->OH (O4 X.prog X.w) X.A (XF c a v u) (EP X b d Q) X.xe s
def MtR(X:Cx)(c:String)(r:V->List V->Hp->VK->Prop):Prop:=
 ∀(a:List (Oq×O7)) (s:OB) (b:St) (H:Hp) (x:V) (xs:List V) (v:Ov) (us:List Ov) (Q:VK),dk X a b H s->aI x v->au xs us->r x xs H Q->
  OH (O4 X.prog X.w) X.A (VF (.builtin c) (v::us)) (EP X a b Q) X.xe s
variable{a b:Expr}{ta tb:TE}
theorem K_.or(h:K_ X r)(h':K_ X r'):K_ X (λx y H Q=>r x y H Q\/r' x y H Q):=by
 intro c d f s g H x y v u Q I i j q hs;rcases q with q|q
 .exact h c d f s g H x y v u Q I i j q hs
 .exact h' c d f s g H x y v u Q I i j q hs
theorem ft(d:K_ X r)(ha:PE X a ta)(f:PE X b tb)(hs:we b):PE X (.Subscript a b pos) (Wi r ta tb):=by
 intro c s g H Q I h;exact Subscript_ (DY ha f I h λv u i x y j k l m q=>d a b c i g j x y v u Q k l m q (hs _ _))
def tE(K:OU):R2:=λx y H Q=>∃p xs i v,x= .ref p/\y= .int i/\fy K H p xs/\o1 xs i=on v/\Q v H
def BL(K:OU):R2:=λx y H Q=>∃p xs i v,x= .ref p/\y= .int i/\jn K H p xs/\o1 xs i=on v/\Q v H
theorem dh:K_ X (tE X.K):=by
 intro g k c s n H x y v u Q I B C h hs;obtain⟨p,xs,i,z,rfl,rfl,F,J,q⟩:=h;cases B;obtain⟨t,rfl⟩:=C;obtain⟨its,r,pl,R⟩:=I.list F;obtain⟨j,f,L,T,N,O⟩:=wa J;obtain⟨w,o,l⟩:=r.get L;have P:=r.length;have hn:=lf;have d:EP X c n Q w s:=⟨z,H,I,l,q⟩;by_cases A:0<=i
 .have m:i.toNat=j:=by
   rw[seqIndex_of A O]at f;exact O8 f
  exact item_listR pl.isList A (by omega) (by rw[m];simpa using o) d hs
 .have m:(i+(its.toArray.size:Int)).toNat=j:=by
   rw[Yo (by omega) N]at f;rw[OR,<-P];exact O8 f
  exact UX (x:=w) pl.isList.typeIs slot_list_getitem.lookup
   (wpAny_getItem_list_neg (Q:=λr s'=>r=w/\EP X c n Q r s') pl.isList (by omega) (by rw[OR]<;>omega) (by omega) (by rw[m];simpa using o) ⟨rfl,d⟩) hs
theorem Ly:K_ X (BL X.K):=by
 intro d f c s l H x y v u Q I m n h hs;obtain⟨p,xs,i,z,rfl,rfl,o,A,q⟩:=h;cases m;obtain⟨t,rfl⟩:=n;obtain⟨its,r,pl,L⟩:=I.tuple o;obtain⟨j,B,C,N,O,P⟩:=wa A;obtain⟨w,F,g⟩:=r.get C;have J:=r.length;have hn:=lf;have k:EP X c l Q w s:=⟨z,H,I,g,q⟩;exact UX (x:=w) pl.typeIs slot_tuple_getitem.lookup
  (getItem_tuple (j:=j) (Q:=λr s'=>r=w/\EP X c l Q r s') pl (by omega) (by omega) (by rw[OR,<-J];exact B) (by simpa using F) ⟨rfl,k⟩) hs
theorem wV(its:List Ov)(n j:Nat)(u:Ov):P5 (·.setIfInBounds j u) {cls:= .type "list",data:= .seq its.toArray n}={cls:= .type "list",data:= .seq (its.set j u).toArray n}:=by
 simp[P5]
theorem dk.lst{s:OB}{xs:List V}(I:dk X a_ σ H s)(h:H p=on (.lst xs)):
  ∃(its:List Ov) (n:Nat),au xs its/\s.heap.get? p=on {cls:= .type "list",data:= .seq its.toArray n}/\xs.length<=OS:=by
 obtain⟨z,its,n,r,e⟩:=I.hok p _ h;exact⟨its,n,r,e,z⟩
theorem dk.lstUpd{s:OB}{xs ys:List V}{its its':List Ov}(I:dk X a_ σ H s)(h:H p=on (.lst xs))
  (d:s.heap.get? p=on {cls:= .type "list",data:= .seq its.toArray n}) (c:f {cls:= .type "list",data:= .seq its.toArray n}={cls:= .type "list",data:= .seq its'.toArray n'}) (r:au ys its') (g:ys.length<=OS) (t:Nat):
  dk X a_ σ (upd H p (.lst ys)) {s with heap:=s.heap.update p f,toks:=t}:=by
 have e:(s.heap.update p f).get? p=on {cls:= .type "list",data:= .seq its'.toArray n'}:=by
  rw[Rh f d (by rw[c]<;>rfl),c]
 refine I.write (x:=p) (e:=p) (by rw[h];trivial) (.inl rfl) (λb u i q=>(WG _ _ (Ne.symm i)).trans q) ⟨_,e⟩ ?_;exact⟨g,its',n',r,e⟩
def HG:V->V->V->Hp->(Hp->Prop)->Prop:=λo i v H Q=>∃p xs k j,o= .ref p/\i= .int k/\H p=on (.lst xs)/\ra xs.length k=on j/\Q (upd H p (.lst (xs.set j v)))
theorem fQ:GC X HG:=by
 intro c s C H o i v P R u Q I F J L h;obtain⟨p,xs,k,j,rfl,rfl,m,N,q⟩:=h;cases F;obtain⟨t,rfl⟩:=J;obtain⟨its,n,r,f,O⟩:=I.lst m;obtain⟨d,T,w,y⟩:=vK N;have g:=r.length;have hn:=lf;have A:dk X c C (upd H p (.lst (xs.set j v))) {s with heap:=s.heap.update p (P5 (·.setIfInBounds j u))}:=
  I.lstUpd m f (wV its n j u) (r.set L j) (by rw[Pl];exact O) s.toks
 by_cases B:0<=k
 .have l:k.toNat=j:=by
   rw[seqIndex_of B y]at d;exact O8 d
  exact PySem.W.ki_setAt f B (by omega) (by rw[OR,<-g];exact y) (by rw[l];exact⟨_,A,q⟩)
 .have l:(k+(its.toArray.size:Int)).toNat=j:=by
   rw[Yo (by omega) w]at d;rw[OR,<-g];exact O8 d
  exact PySem.W.ki_setBack f (by omega) (by rw[OR,<-g];exact w) (by omega) (by rw[l];exact⟨_,A,q⟩)
theorem sN(lo hi:Option Int)(n:Nat):(Sw lo hi Oi n).1=((HT.sIx n 0 lo:Nat):Int)/\(Sw lo hi Oi n).2.1=((HT.sIx n n hi:Nat):Int)/\(Sw lo hi Oi n).2.2=1:=by
 refine⟨?_,?_,rfl⟩
 .cases lo with
  |none=>simp[Sw,HT.sIx]
  |some i=>
   simp only[Sw,HT.sIx,XU,show(1:Int)>0 by decide,PM];by_cases h:i<0
   .simp only[h,PM]<;>omega
   .simp only[h,PD]<;>omega
 .cases hi with
  |none=>simp[Sw,HT.sIx]
  |some i=>
   simp only[Sw,HT.sIx,XU,show(1:Int)>0 by decide,PM];by_cases h:i<0
   .simp only[h,PM]<;>omega
   .simp only[h,PD]<;>omega
theorem rp(its:List Ov)(lo hi:Option Int):X6 its.toArray lo hi Oi=((its.drop (HT.sIx its.length 0 lo)).take (HT.sIx its.length its.length hi-HT.sIx its.length 0 lo)).toArray:=by
 obtain⟨c,d,f⟩:=sN lo hi its.toArray.size;unfold X6;rw[c,d,f];simp only[sliceRange_one,pick_run,OR]<;>rfl
def ZG(K:OU):V->Option Int->Option Int->Hp->VK->Prop:=λx lo hi H Q=>∃a xs,x= .ref a/\fy K H a xs/\∀p,H p=Oi->Q (.ref p) (upd H p (.lst (jc xs lo hi)))
theorem u5:SlR X (ZG X.K):=by
 intro d s l H x v m n lo hi sl Q I g hs pl i h;obtain⟨a,xs,rfl,j,q⟩:=h;cases g;obtain⟨its,r,f,k⟩:=I.list j;have c:=r.length;refine⟨"list",_,slot_list_getitem.lookup,f.isList.typeIs,?_⟩;refine XG f.isList hs pl i .none (by simp) ?_ (by rw[OR]<;>omega)
 rw[rp,<-c];refine⟨.ref s.heap.objs.size,_,I.laid (t':=s.toks) (o:= .lst (jc xs lo hi)) (λb p q=>Ol _ q) (OD _) ?_,rfl,q _ (I.hok.fresh (OD _))⟩;exact⟨OP (m6 xs lo hi) k,_,0,(r.drop (HT.sIx xs.length 0 lo)).take (HT.sIx xs.length xs.length hi-HT.sIx xs.length 0 lo),OI _ rfl⟩
noncomputable def f8:V->Bool
 | .non=>On
 | .bl _=>On
 | .int _=>On
 | .str _=>On
 |_=>Os
noncomputable def O_:V->V->Bool
 | .non,.non=>On
 | .bl a,.bl b=>a==b
 | .bl a,.int b=>(if a then 1 else 0)==b
 | .int a,.bl b=>a==(if b then 1 else 0)
 | .int a,.int b=>a==b
 | .str a,.str b=>a==b
 |_,_=>Os
theorem LS(d:aI y u)(c:aI x v)(g:f8 y=On)(f:f8 x=On):SeqAt.EqAt A s u v (O_ y x):=by
 cases y with
 |non=>
  cases d;cases x with
  |non=>cases c;exact SeqAt.EqAt.same _
  |bl b=>cases c;exact SeqAt.EqAt.none_bool b
  |int b=>obtain⟨t,rfl⟩:=c;exact SeqAt.EqAt.none_int b t
  |str b=>obtain⟨t,rfl⟩:=c;exact SeqAt.EqAt.none_str b t
  |_=>exact OX (show Os=On from f) OE
 |bl a=>
  cases d;cases x with
  |non=>cases c;exact SeqAt.EqAt.bool_none a
  |bl b=>cases c;exact SeqAt.EqAt.bool_bool a b
  |int b=>obtain⟨t,rfl⟩:=c;exact SeqAt.EqAt.bool_int a b t
  |str b=>obtain⟨t,rfl⟩:=c;exact SeqAt.EqAt.bool_str a b t
  |_=>exact OX (show Os=On from f) OE
 |int a=>
  obtain⟨t',rfl⟩:=d;cases x with
  |non=>cases c;exact SeqAt.EqAt.int_none a t'
  |bl b=>cases c;exact SeqAt.EqAt.int_bool a t' b
  |int b=>obtain⟨t,rfl⟩:=c;exact SeqAt.EqAt.int_int a t' b t
  |str b=>obtain⟨t,rfl⟩:=c;exact SeqAt.EqAt.int_str a t' b t
  |_=>exact OX (show Os=On from f) OE
 |str a=>
  obtain⟨t',rfl⟩:=d;cases x with
  |non=>cases c;exact SeqAt.EqAt.str_none a t'
  |bl b=>cases c;exact SeqAt.EqAt.str_bool a t' b
  |int b=>obtain⟨t,rfl⟩:=c;exact SeqAt.EqAt.str_int a t' b t
  |str b=>obtain⟨t,rfl⟩:=c;exact SeqAt.EqAt.str_str a t' b t
  |_=>exact OX (show Os=On from f) OE
 |_=>exact OX (show Os=On from g) OE
def si(x:V)(u:Ov):Bool:=match u with
 | .none=>O_ .non x
 | .bool b=>O_ (.bl b) x
 | .int i _=>O_ (.int i) x
 | .str z _=>O_ (.str z) x
 |_=>Os
theorem zR(r:aI y u)(f:f8 y=On):si x u=O_ y x:=by
 cases y with
 |non=>cases r;rfl
 |bl b=>cases r;rfl
 |int i=>obtain⟨t,rfl⟩:=r;rfl
 |str z=>obtain⟨t,rfl⟩:=r;rfl
 |_=>exact OX (show Os=On from f) OE
theorem jz:∀{xs:List V} {us:List Ov},au xs us->xs.all f8=On->us.any (si x)=xs.any λy=>O_ y x
 |_,_,.nil,_=>rfl
 |y::xs,u::us,.cons r t,f=>by
  rw[Uh,O9]at f;rw[S8,S8,zR r f.1,jz t f.2]
theorem il(c:aI x v)(d:f8 x=On):∀{xs:List V} {us:List Ov},au xs us->xs.all f8=On->∀u∈us,SeqAt.EqAt A s u v (si x u)
 |_,_,.nil,_=>λu hu=>by cases hu
 |y::xs,u::us,.cons r t,f=>λg hu=>by
  rw[Uh,O9]at f;rcases OK.mp hu with rfl|hu
  .rw[zR r f.1];exact LS r c f.1 d
  .exact il c d t f.2 g hu
def Zd(x:V)(xs:List V):Bool:=xs.any λy=>O_ y x
def ZJ(K:OU)(neg:Bool):R2:=λx y H Q=>∃p xs,y= .ref p/\(fy K H p xs\/jn K H p xs)/\f8 x=On/\xs.all f8=On/\Q (.bl (if neg then !Zd x xs else Zd x xs)) H
theorem yR:g_ X (P6 .In) (ZJ X.K Os):=by
 intro d s k H x y v u Q I f i h;obtain⟨p,xs,rfl,hq,g,fs,q⟩:=h;cases i;rcases hq with hq|hq
 .obtain⟨its,r,pl,j⟩:=I.list hq
  refine SeqAt.in_listAt (si x) pl.isList (λw c=>il f g r fs w (by simpa using c)) ⟨.bl _,H,I,rfl,?_⟩;rw[show its.toArray.any (si x)=its.any (si x) by simp,jz r fs];exact q
 .obtain⟨its,r,pl,j⟩:=I.tuple hq
  refine SeqAt.in_tupleAt (si x) pl (λw c=>il f g r fs w (by simpa using c)) ⟨.bl _,H,I,rfl,?_⟩;rw[show its.toArray.any (si x)=its.any (si x) by simp,jz r fs];exact q
theorem kZ:g_ X (P6 .NotIn) (ZJ X.K On):=by
 intro d s k H x y v u Q I f i h;obtain⟨p,xs,rfl,hq,g,fs,q⟩:=h;cases i;rcases hq with hq|hq
 .obtain⟨its,r,pl,j⟩:=I.list hq
  refine SeqAt.notIn_listAt (si x) pl.isList (λw c=>il f g r fs w (by simpa using c)) ⟨.bl _,H,I,rfl,?_⟩;rw[show its.toArray.any (si x)=its.any (si x) by simp,jz r fs];exact q
 .obtain⟨its,r,pl,j⟩:=I.tuple hq
  refine SeqAt.notIn_tupleAt (si x) pl (λw c=>il f g r fs w (by simpa using c)) ⟨.bl _,H,I,rfl,?_⟩;rw[show its.toArray.any (si x)=its.any (si x) by simp,jz r fs];exact q
theorem lM:cM X (.builtin "len") (λxs H Q=>∃p ys,xs=[.ref p]/\(fy X.K H p ys\/jn X.K H p ys)/\Q (.int ys.length) H):=by
 intro f s j H xs us Q I r h;obtain⟨p,ys,rfl,hq,q⟩:=h;obtain⟨u,rfl,g⟩:=iD r;cases g;have hn:=lf;rcases hq with hq|hq
 .obtain⟨its,d,pl,i⟩:=I.list hq
  have c:=d.length;exact Calls.call_len_list pl.isList (by simp only[OR]<;>omega) ⟨.int ys.length,H,I.tok _,⟨s.toks+1,by rw[OR,c]⟩,q⟩
 .obtain⟨its,d,pl,i⟩:=I.tuple hq
  have c:=d.length;exact len_tuple pl (by simp only[OR]<;>omega) ⟨.int ys.length,H,I.tok _,⟨s.toks+1,by rw[OR,c]⟩,q⟩
theorem dX:cM X (.type "list") (λxs H Q=>∃p ys,xs=[.ref p]/\(fy X.K H p ys\/jn X.K H p ys)/\∀l,H l=Oi->Q (.ref l) (upd H l (.lst ys))):=by
 intro f s v H xs us Q I r h;obtain⟨p,ys,rfl,hq,q⟩:=h;obtain⟨u,rfl,y⟩:=iD r;cases y
 have g:∀(its:List Ov),au ys its->ys.length<=OS->∀(h':P4) (c:Nat),(∀b t,s.heap.get? b=on t->h'.get? b=on t)->
   h'.get? s.heap.objs.size=on {cls:= .type "list",dict:=Oi,data:= .seq its.toArray c,slots:=#[]}->EP X f v Q (.ref s.heap.objs.size) {s with heap:=h'}:=λits d i h' c kp e=>
  ⟨.ref s.heap.objs.size,_,I.laid (t':=s.toks) kp (OD _) (show bD X.prog X.w _ h' _ (.lst ys)from⟨i,its,c,d,e⟩),rfl,q _ (I.hok.fresh (OD _))⟩
 rcases hq with hq|hq
 .obtain⟨its,d,pl,i⟩:=I.list hq
  have j:=d.length;obtain⟨o,k,m,n,hd⟩:=pl.isList;exact call_list_seq p (.inl rfl) k m hd (λh' c kp e=>g its d i h' c kp e) (by simp only[OR]<;>omega)
 .obtain⟨its,d,pl,i⟩:=I.tuple hq
  have j:=d.length;obtain⟨o,k,m,n,hd⟩:=pl;exact call_list_seq p (.inr rfl) k m hd (λh' c kp e=>g its d i h' c kp e) (by simp only[OR]<;>omega)
theorem cu:cM X (.type "tuple") (λxs H Q=>∃p ys,xs=[.ref p]/\((fy X.K H p ys/\∀l,H l=Oi->Q (.ref l) (upd H l (.tup ys)))\/(jn X.K H p ys/\Q (.ref p) H))):=by
 intro c s g H xs us Q I r h;obtain⟨p,ys,rfl,h⟩:=h;obtain⟨u,rfl,m⟩:=iD r;cases m;rcases h with⟨d,q⟩|⟨d,q⟩
 .obtain⟨its,f,pl,i⟩:=I.list d
  have j:=f.length;refine call_tuple_list pl.isList (λh' kp=>?_) (by simp only[OR]<;>omega)
  have k:dk X c g H {s with heap:=h'}:=I.kept (t':=s.toks) kp;have n:dk X c g (upd H h'.objs.size (.tup ys)) {s with heap:=h'.push {cls:= .type "tuple",data:= .seq its.toArray}}:=
   k.laid (t':=s.toks) (λb o e=>Ol _ e) (OD _) (show bD X.prog X.w _ _ _ (.tup ys)from⟨i,its,f,X9 _ _⟩)
  exact⟨.ref h'.objs.size,_,n,rfl,q _ (k.hok.fresh (OD _))⟩
 .obtain⟨its,f,pl,i⟩:=I.tuple d
  exact call_tuple_same pl ⟨.ref p,H,I,rfl,q⟩
def tyV(K:OU)(T:String)(x:V)(H:Hp):Prop:=match x with
 | .str _=>T="str"
 | .int _=>T="int"
 | .ref p=>(T="list"/\∃xs,fy K H p xs)\/(T="tuple"/\∃o,K.lookup p=on o/\o.cls= .type "tuple"/\o.dict=Oi)
 |_=>False
theorem Kc{s:OB}(I:dk X a_ σ H s)(r:aI x v)(ty:tyV X.K T x H):
  s.TypeIs v T/\∀a,v= .ref a->∃d,s.heap.get? a=on d/\d.dict=Oi:=by
 cases x with
 |str z=>
  obtain⟨t,rfl⟩:=r;cases(show T="str"from ty);exact⟨typeIs_str s z t,λ_ e=>nomatch e⟩
 |int i=>
  obtain⟨t,rfl⟩:=r;cases(show T="int"from ty);exact⟨typeIs_int s i t,λ_ e=>nomatch e⟩
 |ref p=>
  cases r;rcases ty with⟨rfl,xs,g⟩|⟨rfl,o,f,h,hd⟩
  .obtain⟨its,_,pl,_⟩:=I.list g
   refine⟨pl.isList.typeIs,λa e=>?_⟩;cases e;obtain⟨o,n,e,c,hd,_⟩:=pl;exact⟨o,e,hd⟩
  .refine⟨⟨o,I.kIn p o f,h⟩,λa e=>?_⟩
   cases e;exact⟨o,I.kIn _ o f,hd⟩
 |_=>exact Rf ty
def tBM(K:OU)(T:String)(r:V->List V->Hp->VK->Prop)(to:TE)(t:TA):TE:=λc H Q=>to c H λx d=>tyV K T x d/\t c d λxs f=>r x xs f Q
variable{o:Expr}{es:List Expr}{to:TE}{t:TA}{name:Pj}{apos cpos:TD}{T id:String}{r:V->List V->Hp->VK->Prop}
theorem jQ(n:PlainAttrs T)(slot:Slot T name id)(j:typeOf (.builtin id)=QR (.type "method_descriptor"))(hm:MtR X id r)(p:PE X o to)(ha:PA X (e::es) t)
  (f:SJ o name X.env (PZ o X.env)=PZ o X.env:=by rfl)
  (i:((QX cpos (OJ (e::es) X.env)).all (λx=>!x.1)&&(RI cpos (QD [] X.env)).all (λx=>x.1.isSome)
   &&decide ((e::es).length+([]:List Vo).length+(if([]:List Vo).isEmpty then 0 else 1)<30))=On:=by rfl)
  (g:(apos.endLine==cpos.line)=On:=by rfl) (hs:OJ (e::es) X.env=(Os,PZ e X.env)::OJ es X.env:=by rfl) (d:(QX cpos (OJ es X.env)).any (·.1)=Os:=by rfl):
  PE X (.Call (.Attribute o name apos) (e::es) [] cpos) (tBM X.K T r to t):=by
 intro c s k H Q I h;refine Yp f i g rfl (e_ (p c s k H _ I h) λv q ⟨x,u,l,r1,ty,q1⟩=>?_);obtain⟨w,y⟩:=Kc l r1 ty;refine⟨T,id,n,slot,j,w,y,?_⟩;have m:=ha cpos c q k u _ l q1;rw[hs]at m⊢;refine Uw (by show(Os||(QX cpos (OJ es X.env)).any (·.1))=Os;rw[d]<;>rfl) (WO ?_)
 exact e_ m λus A ⟨vs,B,C,F,q2⟩=>hm c A k B x vs v us Q C r1 F q2
def MtM(X:Cx)(id:String)(r:V->List V->Hp->VK->Prop):Prop:=
 ∀(c:List (Oq×O7)) (s:OB) (d:St) (H:Hp) (x:V) (xs:List V) (v:Ov) (us:List Ov) (Q:VK),dk X c d H s->aI x v->au xs us->r x xs H Q->
  OH (O4 X.prog X.w) X.A (VF (.builtin id) (v::us)) (EP X c d Q) X.xe s
theorem au.one:∀{x:V} {us:List Ov},au [x] us->∃u,us=[u]/\aI x u
 |_,_,.cons r .nil=>⟨_,rfl,r⟩
theorem au.reverse{xs:List V}{us:List Ov}(h:au xs us):au xs.reverse us.reverse:=by
 induction h with
 |nil=>exact .nil
 |cons r t ih=>rw[Ua,Ua];exact au.append ih (.cons r .nil)
theorem au.rep(h:au xs us):∀k:Nat,au (OY k xs).flatten (OY k us).flatten
 |0=> .nil
 |k+1=>by
  rw[Qs,Qs,Rq,Rq];exact au.append h (au.rep h k)
theorem qX(its:List Ov):∀(k:Nat) (acc:List Ov),
  XR (λc d=>c++d) acc.toArray (OY k its.toArray)=(acc++(OY k its).flatten).toArray
 |0,acc=>by simp
 |k+1,acc=>by
  have e:acc.toArray++its.toArray=(acc++its).toArray:=by simp
  have f:(acc++its)++(OY k its).flatten=acc++(OY (k+1) its).flatten:=by
   rw[Qs,Rq,PY]
  rw[<-f,<-qX its k (acc++its),<-e,Qs,List.foldl_cons]
end
section
variable{X:Cx}{a_:List (Oq×O7)}{σ:St}{H:Hp}{s:OB}{l b:Oq}{xs ys zs:List V}
theorem dk.lset{its its':List Ov}(I:dk X a_ σ H s)(a:H l=on (.lst xs))
  (e:s.heap.get? l=on {cls:= .type "list",data:= .seq its.toArray n}) (c:f its.toArray=its'.toArray) (d:au ys its') (g:ys.length<=OS):
  dk X a_ σ (upd H l (.lst ys)) {s with heap:=s.heap.update l (P5 f),toks:=t'}:=by
 have q:=PySem.IsL.update e f;rw[c]at q;refine I.write (x:=l) (e:=l) (by rw[a];exact trivial) (.inl rfl) (λj u h i=>(WG s.heap (P5 f) (Ne.symm h)).trans i) ⟨_,q⟩ ?_;exact⟨g,its',_,d,q⟩
theorem dk.lnew{its:List Ov}(I:dk X a_ σ H s)(a:au ys its)(c:ys.length<=OS):
  dk X a_ σ (upd H s.heap.objs.size (.lst ys)) {s with heap:=s.heap.push {cls:= .type "list",data:= .seq its.toArray},toks:=t'}:=
 I.laid (λ_ _ q=>Ol _ q) (OD _) ⟨c,its,0,a,OI _ rfl⟩
theorem dk.fresh(I:dk X a_ σ H s):H s.heap.objs.size=Oi:=I.hok.fresh (OD _)
theorem dk.lstM(I:dk X a_ σ H s)(a:H l=on (.lst xs)):xs.length<=OS/\∃(its:List Ov) (n:Nat),au xs its/\xs.length=its.length/\s.heap.get? l=on {cls:= .type "list",data:= .seq its.toArray n}:=by
 obtain⟨z,its,n,r,e⟩:=I.hok l _ a;exact⟨z,its,n,r,r.length,e⟩
theorem CA(h:n<=OS):Tj n=Os:=by
 unfold Tj;exact Pn (by omega)
def vf:V->List V->Hp->VK->Prop:=λx vs H Q=>∃l xs y,x= .ref l/\vs=[y]/\H l=on (.lst xs)/\xs.length<OS/\Q .non (upd H l (.lst (xs++[y])))
theorem dT:MtM X "list.append" vf:=by
 intro a_ s σ H x vs v us Q I c d h;obtain⟨l,xs,y,rfl,rfl,a,g,q⟩:=h;cases c;obtain⟨u,rfl,f⟩:=d.one;obtain⟨z,its,n,r,i,e⟩:=I.lstM a;refine W2 F.slot_list_append ⟨_,e,rfl⟩ F.entry_list_append (X7 _ _) (XZ l its.toArray n u (by rw[OR];omega)) ⟨e,?_⟩;refine⟨.non,_,I.lset (its':=its++[u]) a e (by simp) (r.append (.cons f .nil)) ?_,rfl,q⟩;rw[ON,PH];omega
noncomputable def ZL:R2:=λx y H Q=>∃l b xs zs,x= .ref l/\y= .ref b/\H l=on (.lst xs)/\H b=on (.lst zs)/\xs.length+zs.length<=OS/\∀p,H p=Oi->Q (.ref p) (upd H p (.lst (xs++zs)))
theorem Ld:g_ X (Rp .Add) ZL:=by
 intro a_ s σ H x y v u Q I c d h;obtain⟨l,b,xs,zs,rfl,rfl,f,hB,m,q⟩:=h;cases c;cases d;obtain⟨z,its,n,r,o,e⟩:=I.lstM f;obtain⟨p,a,t,g,i,j⟩:=I.lstM hB;refine Xw e j ?_ (by rw[OR,OR];omega);have k:its.toArray++a.toArray=(its++a).toArray:=by simp
 rw[k];exact⟨.ref _,_,I.lnew (t':=s.toks) (r.append g) (by rw[ON];omega),rfl,q _ I.fresh⟩
noncomputable def ZH:R2:=λx y H Q=>∃l k xs,x= .ref l/\y= .int k/\H l=on (.lst xs)/\-(2^63)<=k/\k<2^63/\xs.length*k.toNat<=OS/\
 ∀p,H p=Oi->Q (.ref p) (upd H p (.lst (OY k.toNat xs).flatten))
theorem JE{α:Type}(xs:List α)(k:Nat):(OY k xs).flatten.length=k*xs.length:=by
 induction k with
 |zero=>simp
 |succ k ih=>rw[Qs,Rq,ON,ih,Nat.succ_mul,Vt]
theorem K8:g_ X (Rp .Mult) ZH:=by
 intro a_ s σ H x y v u Q I w A h;obtain⟨l,k,xs,rfl,rfl,B,C,J,p,q⟩:=h;cases w;obtain⟨t,rfl⟩:=A;obtain⟨z,its,n,r,L,e⟩:=I.lstM B;have d:its.toArray.size*k.toNat<=OS:=by rw[OR,<-L];exact p
 have f:¬its.toArray.size*k.toNat>(2^63-1)/8:=by
  have:(OS:Nat)<=(2^63-1)/8:=by decide
  omega
 have g:¬(!Builtin.List.listFitsIndex k)=On:=by
  rw[fitsIndex_both C J];exact OE
 have c:¬Tj (its.toArray.size*k.toNat)=On:=by
  rw[CA d];exact OE
 have i:XR (λj o=>j++o) #[] (OY (if its.toArray.isEmpty=On then 0 else k.toNat) its.toArray)=(OY k.toNat its).flatten.toArray:=by
  have N:∀m:Nat,XR (λj o=>j++o) #[] (OY m its.toArray)=(OY m its).flatten.toArray:=λm=>by
   have:=qX its m [];rw[Q3]at this;exact this
  rw[N];cases its with
  |nil=>simp
  |cons a O=>rw[Ot (by simp)]
 refine wpAny_binaryOp_repeat_ref (T:="list") (U:="int") (by decide) ⟨_,e,rfl⟩ (λs'=>typeIs_int s' k t) noFill_list_mul F.fills_int_mul F.slot_int_rmul repeat_list F.slot_int_index.lookup
  (W2 F.slot_int_rmul (typeIs_int s k t) F.entry_int_rmul (F.args_int_rmul_2 _ _) (int___rmul___int_list k t l its.toArray n)
   ⟨e,rfl,⟨_,e,rfl⟩,W2 F.slot_list_mul ⟨_,e,rfl⟩ F.entry_list_mul (F.args_list_mul_2 _ _) (AutoListH.list___mul___list_int_3 l its.toArray n k t g f c) ⟨e,?_⟩⟩)
 rw[i];exact⟨.ref _,_,I.lnew (t':=s.toks) (r.rep k.toNat) (by rw[JE,RH];exact p),rfl,q _ I.fresh⟩
variable{prog:Pc}{w:Pk}{A:PU}{E:Ov->OB->Prop}
end
end L2
namespace Att
open PySem PySem.W PySem.Calls PyProof.Rows
theorem pk:∀(ns:List Int) (vs:List Ov),WellAll P h vs (ns.map WData.int)->WH vs ns:=by
 intro ns
 induction ns with
 |nil=>
  intro vs w;rw[RE]at w;cases w;exact .nil
 |cons n ns ih=>
  intro vs w;rw[OG]at w;cases w with
  |cons a b=>
   cases a;exact .cons _ _ (ih _ b)
theorem yk{l:OpenLaw}(hn:l.most=on n){h:P4}
  (b:l.row.toRowW.claim.pre args=On) (g:WellAll P h vals args):
  ∃a vs ns,vals=[OM a]/\args=[WData.list (ns.map WData.int)]/\h.get? a=on {cls:= .type "list",data:= .seq vs.toArray}/\WH vs ns/\ns.length<=n:=by
 have hsh:WShape.hasAll [] args [.list .int]=On:=(pre_splitW b).1;have i:l.pre.holds [] {args:=args}=On:=(pre_splitW b).2;obtain⟨d,r,rfl,j,k⟩:=hasAllW_cons hsh;obtain rfl:=hasAllW_nil k;obtain⟨xs,rfl,m⟩:=hasW_list j;obtain⟨ns,rfl⟩:=items_int m;have c:ns.length<=n:=by
  unfold OpenLaw.pre at i;have e:(WTm.not (.lt (.lit (.int (n:Int))) (.len (.arg 0)))).holds [] {args:=[.list (ns.map .int)]}=On:=by
   have e:=(holds_andW i).1;rw[hn]at e;exact e
  have f:=condW_of e (w_not (w_lt w_lit (w_len_list (w_arg rfl))));rw[Oh]at f;refine Nat.le_of_not_lt λq=>?_;have o:(n:Int)<((ns.length:Nat):Int):=by omega
  first
   |(rw[OL o]at f;exact OX f (by decide))
   |(simp at f;omega)
 cases g with
 |cons p t=>
  cases t;cases p with
  |list ho hall=>exact⟨_,_,ns,rfl,rfl,ho,pk ns _ hall,c⟩
theorem yJ(l:OpenLaw)(args:List WData):l.row.toRowW.claim.post args (.bool On) args=On:=
 postW_of (r:=l.row.toRowW) (X:=(On==On))
  (show WShape.has [] (.bool On) .bool=On by first|rfl|decide|simp[WShape.has,WShape.arms,WShape.armsAll])
  (show(WTm.eq .res (.lit (.bool On))).value [] {args:=args,res:=on (.bool On),after:=args}=on (.bool (On==On))from w_eq_bool (w_res rfl) w_lit) rfl
theorem attach_call{l:OpenLaw}{d:DefRec}
  (hn:l.most=on n) (k:d.params.defaults=[])
  (VF:∀(w:Pk) (s₀ b:OB) (mg m:Pj->Option Ov) (g:Oq) (o:O7) (p cd c:Ov) (a:Oq) (vs:List Ov) (ns:List Int),
   Ground q loose [] XP w s₀ mg m b.heap->YP w b.heap->
   b.heap.get? g=on o->o.data= .func (docDef d.name d.params d.body d.scope p cd c)->b.heap.CodeRec cd d.name->mg d.name=on (.ref g)->
   b.heap.get? a=on {cls:= .type "list",data:= .seq vs.toArray}->WH vs ns->ns.length<=n->b.gens=#[]->
   SM (O4 l.prog w) VY (.call (.ref g) ⟨[.ref a],[]⟩) (λr s'=>r= .ok (.ret (.bool On))/\OldK b.heap s'.heap/\s'.os=b.os/\T5 s'.gens) b):
  WalkO q loose XP YP l.row.toRowW d [] (λf vs=>XB f vs):=by
 intro w s₀ b mg m G Y g o p cd c B C F hd t y u H args vals as h A I v J;obtain rfl:B= .none:=Dflts.none y k;obtain rfl:C= .none:=Dflts.noKw y;obtain⟨a,vs,ns,rfl,rfl,i,e,j⟩:=yk hn h v;refine enter_call (Ud (VF w s₀ b mg m g o p cd c a vs ns G Y F (fd_plain hd) t u i e j H) λr s' L=>?_);obtain⟨rfl,N,O,P⟩:=L;exact⟨.inl ⟨.bool On,.bool On,[],rfl,λ_=>rfl,.bool On,yJ l _,λ_=>⟨UE,λ_ hm=>(nomatch hm)⟩⟩,N,O,P⟩
section
variable{prog:Pc}{w:Pk}{A:PU}{E:Ov->OB->Prop}{s:OB}{K:OU}
end
end Att
namespace L2
open PySem PySem.Spec PyProof.Rows
theorem qA:∀{vs:List Ov} {ns:List Int},WH vs ns->au (ns.map V.int) vs
 |_,_,.nil=> .nil
 |_,_,.cons n t h=> .cons ⟨t,rfl⟩ (qA h)
def GD(H:Hp):Prop:=∀b,H b=Oi\/∃o xs,H b=on (.frz o (.lst xs))
theorem CU{K:OU}{c:OB}{vs:List Ov}{ns:List Int}
  (R:K.In c.heap) (p:c.heap.Ns QV mg) (g:c.heap.Ns W0 mb) (I:∀x:Pj,x≠"__name__"->mb x=SC x) (t:c.heap.NoLimit) (hg:c.gens=#[])
  (ha:c.heap.get? a=on {cls:= .type "list",data:= .seq vs.toArray}) (T:WH vs ns) (U:ns.length<=OS) (hr:en k VY)
  (F:∀base:P4,K.In base->base.Ns QV mg->fw P w K mg base CX k fa fd [x] sp) (l:∀(s:OB) (u:Ov),Vm s fd ⟨[u],[]⟩ [(x,u)])
  (J:∀H:Hp,GD H->fy K H a (ns.map V.int)->sp [.ref a] H (λv _=>v= .bl On) λ_ _ _=>False)
  (L:∀H e s',CX [] H c (λ_ _ _=>False) e s'->False):
  SM (O4 P w) VY (.call (.ref fa) ⟨[.ref a],[]⟩) (λr s'=>r= .ok (.ret (.bool On))/\OldK c.heap s'.heap/\s'.os=c.os/\T5 s'.gens) c:=by
 have W:=qA T;have y:=T.length
 --from an abstract heap in which nothing but the script may be tracked
 have j:∀H:Hp,GD H->fy K H a (ns.map V.int)->lu P w H c.heap->(∀b,H b≠Oi->b=a)->(H a≠Oi->K.lookup a=Oi)->
   SM (O4 P w) VY (.call (.ref fa) ⟨[.ref a],[]⟩) (λr s'=>r= .ok (.ret (.bool On))/\OldK c.heap s'.heap/\s'.os=c.os/\T5 s'.gens) c:=by
  intro H X hS hok Y hK;have f:∀{b:Oq} {o:O7},c.heap.get? b=on o->H b=Oi->(j6 c.heap H).get? b=on o:=λe n=>DF e n;have N:∀{b:Oq} {o:O7} {es:Array QZ} {ep:Nat},c.heap.get? b=on o->o.data= .dict es ep->H b=Oi:=λ{b o es ep} e d=>by
   cases q:H b with
   |none=>rfl
   |some u=>
    have O:b=a:=Y b (by rw[q];simp);subst O;rw[ha]at e;cases e;have d':Data.seq vs.toArray _=Data.dict es ep:=d;cases d'
  have i:∀{b:Oq} {m:Pj->Option Ov},c.heap.Ns b m->(j6 c.heap H).Ns b m:=λ{b m} ⟨o,es,ep,e,d,r⟩=>⟨o,es,ep,f e (N e d),d,r⟩;have A:K.In (j6 c.heap H):=λb o e=>f (R b o e) (by
   cases q:H b with
   |none=>rfl
   |some u=>
    have O:b=a:=Y b (by rw[q];simp);subst O;rw[hK (by rw[q];simp)]at e;cases e)
  have hM:Mod K mg (j6 c.heap H):=⟨A,i p,⟨mb,i g,I⟩,let ⟨mc,h1,h2⟩:=t;⟨mc,i h1,h2⟩⟩
  have e0:up P w K mg (j6 c.heap H) VY [] c H:=⟨rfl,hM,λb o e=>Jw e,Nat.le_of_eq (zK _ _),trivial,λb g=>OX (show b∈([]:List Oq)from g) (by simp),hok,.of_eq hg⟩;refine Ud ((F _ A (i p)).run VY [] c H ⟨[.ref a],[]⟩ [.ref a] [.ref a] _ _ hr e0 (l c (.ref a)) (.cons rfl .nil) (J H X hS)) λr s' h=>?_;cases r with
  |error e=>exact(L H e s' h).elim
  |ok fl=>
   cases fl with
   |next=>exact Rf h
   |brk=>exact Rf h
   |cont=>exact Rf h
   |ret u=>
    obtain⟨v,H',os,bare,un,B,r',q⟩:=h;have q':v= .bl On:=q;subst q';obtain rfl:u=U9 On:=r';refine⟨rfl,OldK.of_keep λb o e=>?_,os,bare⟩;cases q:H b with
    |none=>exact un.keep b o e q (by intro z;exact OX (show b∈([]:List Oq)from z) (by simp)) (by simp)
    |some u=>
     rcases X b with z|⟨ob,xs,z⟩
     .rw[q]at z;cases z
     .have z2:=un.frzs b ob _ z
      obtain⟨Z,_⟩:=hok b _ z;obtain⟨e2,_⟩:=B b _ z2;rw[e]at Z;cases Z;exact e2
 cases Q:K.lookup a with
 |some o=>
  --the script is one of the module's own objects
  have e:=R a o Q;rw[ha]at e;cases e;refine j (λ_=>Oi) (λ_=> .inl rfl) (.inr ⟨_,vs.toArray,_,Q,rfl,rfl,rfl,by rw[OR,y];exact U,by simpa using W⟩) (λb u z=>by have C:(Oi:Option HO)=on u:=z;cases C) (λb z=>OX rfl z) λz=>OX rfl z
 |none=>
  refine j (λb=>if b=a then on (.frz {cls:= .type "list",data:= .seq vs.toArray} (.lst (ns.map V.int)))else Oi) (λb=>?_) (.inl (.inr ⟨{cls:= .type "list",data:= .seq vs.toArray},OA rfl⟩)) (λb u z=>?_) (λb z=>?_) λ_=>Q
  .by_cases g:b=a
   .exact .inr ⟨_,_,OA g⟩
   .exact .inl (Ot g)
  .by_cases g:b=a
   .have C:=(OA g).symm.trans z
    cases C;subst g;exact⟨ha,by rw[Oh];exact U,vs,_,W,ha⟩
   .have C:=(Ot g).symm.trans z
    cases C
  .by_cases g:b=a
   .exact g
   .exact OX (Ot g) z
theorem walk_of{l:PySem.W.OpenLaw}{n k:Nat}{q:Pc}{loose:List Pj}{XP:(Pj->Option Ov)->P4->Prop}{YP:Pk->P4->Prop}{d:DefRec}{K:Wg->OU}{CX:Pk->L3}{sp:Pk->Sp}{x:Pj}
  (hn:l.most=on n) (r:n<=OS) (t:d.params.defaults=[]) (J:en k VY)
  (L:∀(w:Pk) (h:P4),YP w h->(K w.params).In h)
  (F:∀(w:Pk) (mg:Pj->Option Ov) (p:Oq) (h:P4),(K w.params).In h->h.Ns QV mg->mg d.name=on (.ref p)->
   ∃B:O5,(∀(s:OB) (u:Ov),Vm s B ⟨[u],[]⟩ [(x,u)])/\
    ∀base:P4,(K w.params).In base->base.Ns QV mg->fw l.prog w (K w.params) mg base (CX w) k p B [x] (sp w))
  (y:∀(w:Pk) (H:Hp) (a:Oq) (ns:List Int),ns.length<=n->GD H->fy (K w.params) H a (ns.map V.int)->sp w [.ref a] H (λv _=>v= .bl On) λ_ _ _=>False)
  (A:∀(w:Pk) (H:Hp) (s:OB) (e:Ov) (s':OB),CX w [] H s (λ_ _ _=>False) e s'->False):
  PySem.W.WalkO q loose XP YP l.row.toRowW d [] (λf vs=>XB f vs):=by
 refine Att.attach_call hn t λw s₀ j mg X p o Z cd N a vs ns G Y ho hd O C m i c P=>?_;have I:=L w _ Y;obtain⟨B,Q,hF⟩:=F w mg p _ I G.T.g C;exact CU I G.T.g G.T.b G.T.builtins G.T.nolimit P m i (OP c r) J hF Q (λH R U=>y w H a ns c R U) λH e s'=>A w H j e s'
noncomputable def aA(s:Qe)(j:Nat):Qe:=match s with
 | .ClassDef _ _ _ body _ _ _ _ _ _ _=>body.getD j (.Pass ⟨0,0,0,0⟩)
 |_=> .Pass ⟨0,0,0,0⟩
noncomputable def gZ(s:Qe):Arguments:=match s with
 | .FunctionDef _ a _ _ _ _ _ _ _ _=>a
 |_=>{posonlyargs:=[],args:=[],vararg:=Oi,kwonlyargs:=[],kw_defaults:=[],kwarg:=Oi,defaults:=[]}
noncomputable def bX(s:Qe):List Qe:=match s with
 | .FunctionDef _ _ b _ _ _ _ _ _ _=>b
 |_=>[]
noncomputable def af(s:Qe):Scope:=match s with
 | .FunctionDef _ _ _ _ _ _ sc _ _ _=>sc
 |_=>{kind:= .function,names:=[],isGenerator:=Os,isCoroutine:=Os}
abbrev E0:St->XK:=λ_ _ _ _=>False
structure Fun (K:OU) (x qual:Pj) (st:Qe) (f:Oq) (fd:O5):Prop where
 ex:∃(oc:Ov) (od:Option Oq) (kV doc pm:Ov) (an:Option Oq) (cdv ct:Ov) (osl:Array (Option Ov)),
  fd=SI x qual (gZ st) (bX st) (af st) .none kV doc pm an cdv ct/\K.lookup f=on ⟨oc,od,.func fd,osl⟩/\Tl K cdv qual=On
 kp:Uo K (.ref f)=On
section
variable{P:Pc}{w:Pk}{K:OU}{mg:Pj->Option Ov}{base:P4}
theorem rS{A:PU}(a:en k A):A.units+1<T4:=Ql (XT (by decide:1<=64) _) a.units
theorem qI(h:n<=1000):n<OS:=Ql h (by decide)
variable{X:Cx}
theorem pv(i:Nat)(b:X.N[i]?=on x:=by rfl)(c:YW X.env.scope x:=by first|exact QY rfl|exact Sg (QY rfl)|exact Sg (Sg rfl))(hd:(x==("__debug__":Pj))=Os:=by decide)
  (a:(x==("__classdict__":Pj))=Os:=by decide):PE X (.Name x pos) (jI i):=K0 b c hd a
theorem ZY{A B:Prop}(h:A):if On=On then A else B:=by
 rw[OA rfl];exact h
theorem ZZ{c A B:Prop} [Decidable c](a:c->A)(b:¬c->B):if c then A else B:=by
 by_cases h:c
 .rw[OA h]
  exact a h
 .rw[Ot h]
  exact b h
def bG(H a:Hp):Prop:=∀b o,H b=on o->a b=on o
theorem bG.refl(H:Hp):bG H H:=λ_ _ h=>h
theorem bG.trans(a:bG H H1)(b:bG H1 H2):bG H H2:=λc o h=>b c o (a c o h)
theorem bG.free(e:bG H H')(h:H' l=Option.none):H l=Option.none:=by
 cases q:H l with
 |none=>rfl
 |some o=>
  rw[e l o q]at h;cases h
theorem cV:∀(names:List (Pj×Su)) (n:Nat) (acc:List (Pj×Oq)),Qv n names acc=Qv n names []++acc
 |[],_,_=>rfl
 |(x,k)::r,n,acc=>by
  unfold Qv;split
  .rw[cV r (n+1) ((x,n)::acc),cV r (n+1) [(x,n)],PY]
   rfl
  .exact cV r n acc
theorem gD:∀{names:List (Pj×Su)} {n:Nat} {x:Pj} {c:Oq},(x,c)∈Qv n names []->(x,VQ)∈names
 |[],_,_,_,h=>by cases h
 |(y,k)::r,n,x,c,h=>by
  unfold Qv at h;split at h
  .rename_i a
   rw[cV]at h;rcases Qb.mp h with h|h
   .exact Op _ (gD h)
   .obtain⟨rfl,_⟩:x=y/\c=n:=by simpa using h
    obtain rfl:k= .cell:=by simpa using a
    exact Ox
  .exact Op _ (gD h)
noncomputable def cN(cells:List (Pj×Oq)):List (Pj×Su)->List (Pj×Oq)->List (Pj×Oq)
 |[],acc=>acc
 |(x,k)::r,acc=>if k== .free then cN cells r ((x,(cells.lookup x).getD 0)::acc)else cN cells r acc
theorem l_{cells:List (Pj×Oq)}:∀{names:List (Pj×Su)} {acc:List (Pj×Oq)} {x:Pj} {c:Oq},(x,c)∈cN cells names acc->(x,c)∈acc\/((x,Rk)∈names/\c=(cells.lookup x).getD 0)
 |[],_,_,_,h=> .inl h
 |(y,k)::r,acc,x,c,h=>by
  unfold cN at h;split at h
  .rename_i a
   obtain rfl:k= .free:=by simpa using a
   rcases l_ h with h|⟨h,e⟩
   .rcases OK.mp h with h|h
    .cases h
     exact .inr ⟨Ox,rfl⟩
    .exact .inl h
   .exact .inr ⟨Op _ h,e⟩
  .rcases l_ h with h|⟨h,e⟩
   .exact .inl h
   .exact .inr ⟨Op _ h,e⟩
theorem nW:∀{names:List (Pj×Su)} {acc:List (Pj×Oq)} {p:Pj×Oq},p∈acc->p∈cN cells names acc
 |[],_,_,h=>h
 |(y,k)::r,acc,p,h=>by
  unfold cN;split
  .exact nW (Op _ h)
  .exact nW h
theorem nV{cells:List (Pj×Oq)}:∀{names:List (Pj×Su)} {acc:List (Pj×Oq)} {x:Pj},(x,Rk)∈names->(x,(cells.lookup x).getD 0)∈cN cells names acc
 |[],_,_,h=>by cases h
 |(y,k)::r,acc,x,h=>by
  unfold cN;rcases OK.mp h with h|h
  .cases h
   rw[OA (by decide)];exact nW Ox
  .split
   .exact nV h
   .exact nV h
theorem kx{α:Type}:∀{l:List (Pj×α)} {x:Pj} {c:α},(x,c)∈l->∃d,l.lookup x=on d
 |[],_,_,h=>by cases h
 |(y,d)::r,x,c,h=>by
  rw[Uu];cases a:x==y with
  |true=>exact⟨d,rfl⟩
  |false=>
   rcases OK.mp h with h|h
   .cases h
    simp at a
   .exact kx h
theorem cI{α:Type}:∀{l:List (Pj×α)} {x:Pj} {c:α},(l.map (·.1)).Nodup->(x,c)∈l->l.lookup x=on c
 |[],_,_,_,h=>by cases h
 |(y,d)::r,x,c,nd,h=>by
  rw[OG]at nd;obtain⟨a,b⟩:=Pt.mp nd;rw[Uu];rcases OK.mp h with h|h
  .cases h
   simp
  .have:x≠y:=λe=>a (e▸List.mem_map_of_mem (f:=(·.1)) h)
   rw[beq_eq_false_iff_ne.mpr this];exact cI b h
theorem qv{env:VJ}(f:Pj×Su->List (Pj×Oq)->Sem (ForInStep (List (Pj×Oq))))
  (g:∀name kind cs,f (name,kind) cs=if kind== .free then(do let a <-cellOf env name;QR (.yield ((name,a)::cs)))else QR (.yield cs)):
  ∀(names:List (Pj×Su)) (acc:List (Pj×Oq)),(∀y∈names,y.2= .free->∃c,env.cells.lookup y.1=on c)->forIn names acc f=QR (cN env.cells names acc)
 |[],_,_=>by rw[R6];rfl
 |(x,k)::r,acc,h=>by
  rw[RP,g];unfold cN;have i:∀y∈r,y.2= .free->∃c,env.cells.lookup y.1=on c:=λy j=>h y (Op _ j);by_cases b:(k==Rk)=On
  .rw[OA b,OA b]
   obtain⟨c,l⟩:=h (x,k) Ox (by simpa using b);have d:env.cells.lookup x=on c:=l;have e:cellOf env x=QR c:=by unfold cellOf;rw[d]
   rw[e,d];simp only[pure_bind];exact qv f g r _ i
  .rw[Ot b,Ot b]
   simp only[pure_bind];exact qv f g r _ i
theorem xC{scope:Scope}{env:VJ}(h:∀y∈scope.names,y.2= .free->∃c,env.cells.lookup y.1=on c):closureFor scope env=QR (cN env.cells scope.names []):=by
 simp only[closureFor];rw[qv (env:=env) _ (λname kind cs=>by cases a:kind==Rk<;>simp[a]) scope.names [] h]
 rfl
theorem DO{M:Model}{E:Ov->OB->Prop}{s:OB}{scope:Scope}
  (f:∀h':P4,h'.Ns s.heap.objs.size (λ_=>Oi)->(∀b o,s.heap.get? b=on o->h'.get? b=on o)->
   (∀n c,(n,c)∈Qv (s.heap.objs.size+1) scope.names []->h'.IsCell c Oi/\s.heap.objs.size+1<=c)->
   ((Qv (s.heap.objs.size+1) scope.names []).Pairwise λx y=>x.2≠y.2)->
   Q (newEnv scope s.heap.objs.size globals (Qv (s.heap.objs.size+1) scope.names cl) qual Oi .none (on env) W0) {s with heap:=h'}):
  OH M A (W8 scope globals cl [] qual Oi .none (on env)) Q E s:=by
 simp only[W8,Option.isSome_some,PM];refine My (wpAny_alloc ?_);refine My (wpAny_layCells _ (λname kind cells=>by cases a:kind==VQ<;>simp[a]) _ _ _ _ ?_)
 have ok:=cellsFrom_ok scope.names (s.heap.push {cls:= .type "dict",data:= .dict #[]}) (s.heap.objs.size+1) [] ⟨λ_ _ hm=>(nomatch hm),UE⟩ (by rw[Qk];exact OD _);rw[Qk]at ok;rw[show({s with heap:=s.heap.push {cls:= .type "dict",data:= .dict #[]}}:OB).heap.objs.size=s.heap.objs.size+1 from Qk ..];have d:=f (pushCells (s.heap.push {cls:= .type "dict",data:= .dict #[]}) scope.names) ((Heap.Ns.new s.heap (.type "dict")).keeps (pushCells_keeps _ _)) (λb o e=>pushCells_keeps _ _ b o (Ol _ e)) ok.empty ok.apart;exact My (Oj (Oj d))
noncomputable abbrev az(X:Cx)(a:List Pj)(scope:Scope)(cl:List (Pj×Oq))(C:Oq)(b:List Oq)(s:OB)(H:Hp):Cx:=
 {X with N:=a,s₀:=s,H₀:=H,env:=compEnvC scope cl C X.env,outer:=X.stack,stack:=X.stack,ex:=b,fn:=λx=>scope.names.lookup x !=on .free,pn:=[],xe:=λ_ _=>False}
theorem j_{scope:Scope}{y:Pj×Su}(h:y∈(relabel scope env).names):y∈scope.names\/(y.2= .cell/\(y.1,Rk)∈scope.names):=by
 obtain⟨⟨n,k⟩,hm,e⟩:=OC.mp h
 dsimp only at e
 split at e
 .rename_i a
  cases e;simp only[O9,Sv]at a;obtain⟨⟨a,_⟩,_⟩:=a;subst a;exact .inr ⟨rfl,hm⟩
 .cases e
  exact .inl hm
theorem DC{X:Cx}{R:St}{s:OB}{Nc dr:List Pj}{dc:List Nat}{scope:Scope}{h':P4}(I:dk X a_ R H s)
  (hk:scope.kind= .function) (g:(scope.names.map (·.1)).Nodup) (f:∀y∈scope.names,y.2= .free->X.env.kindOf y.1=on .cell\/X.env.kindOf y.1=on .free)
  (T:Nc=dr++dc.map (λj=>X.N.getD j Ss)) (U:∀j∈dc,j<X.N.length/\scope.names.lookup (X.N.getD j Ss)=on .free)
  (F:∀b∈fp,eJ X a_ H b) (W:∀b∈fp,∃o,s.heap.get? b=on o) (ns:h'.Ns s.heap.objs.size λ_=>Oi) (keep:∀b o,s.heap.get? b=on o->h'.get? b=on o)
  (O:∀n c,(n,c)∈Qv (s.heap.objs.size+1) scope.names []->h'.IsCell c Oi/\s.heap.objs.size+1<=c) (ca:(Qv (s.heap.objs.size+1) scope.names []).Pairwise λx y=>x.2≠y.2):
  dk (az X Nc scope (Qv (s.heap.objs.size+1) scope.names (cN X.env.cells scope.names [])) s.heap.objs.size fp s H) [] (OY dr.length Oi++dc.map (λj=>R.getD j Oi)) H {s with heap:=h'}:=by
 --the cells
 have old:∀{x:Pj} {c:Oq},(x,c)∈cN X.env.cells scope.names []->X.env.cells.lookup x=on c/\(x,Rk)∈scope.names:=λ{x c} h=>by
  rcases l_ h with h|⟨hm,e⟩
  .cases h
  .obtain⟨d,hd⟩:=I.ok.has x (f _ hm rfl)
   rw[hd]at e;exact⟨by rw[hd,e];rfl,hm⟩
 have a:∀{x:Pj} {c:Oq},(Qv (s.heap.objs.size+1) scope.names (cN X.env.cells scope.names [])).lookup x=on c->
   (x,c)∈Qv (s.heap.objs.size+1) scope.names []\/(X.env.cells.lookup x=on c/\(x,Rk)∈scope.names):=λ{x c} h=>by
  have h:=Qf h;rw[cV]at h;rcases Qb.mp h with h|h
  .exact .inl h
  .exact .inr (old h)
 have freeC:∀{x:Pj},(x,Rk)∈scope.names->∃c,X.env.cells.lookup x=on c/\(Qv (s.heap.objs.size+1) scope.names (cN X.env.cells scope.names [])).lookup x=on c:=λ{x} hm=>by
  obtain⟨d,hd⟩:=I.ok.has x (f _ hm rfl);have e:=nV (cells:=X.env.cells) (acc:=[]) hm;obtain⟨c,Q⟩:=kx (l:=Qv (s.heap.objs.size+1) scope.names (cN X.env.cells scope.names [])) (x:=x) (c:=(X.env.cells.lookup x).getD 0) (by rw[cV];exact Ps _ e);rcases a Q with z|⟨z,_⟩
  .have B:=cI g (gD z)
   rw[cI g hm]at B;cases B
  .exact⟨c,z,Q⟩
 have k:∀{x:Pj} {c:Oq},X.env.cells.lookup x=on c->c<s.heap.objs.size:=λ{x c} h=>let ⟨v,q⟩:=I.cell x c h;q.lt
 have nofr:H s.heap.objs.size=Oi:=I.hok.fresh (OD _);have Y:∀b∈h8 X.stack,b∈X.env.locals::X.fs:=I.stkSub;refine⟨⟨I.ok.mod,hk,I.ok.glob,I.ok.blt,OD _,λx y c h1 h2=>?_,λx hx=>?_,λx c hf h=>?_,I.ok.hd,I.ok.frames,.inl rfl,λb J=>⟨?_,λx c h e=>?_⟩,I.bs,OP I.ok.bsz I.sz,λb o e J=>?_,λb J hf=>?_,I.stack,I.stkFree⟩,
  rfl,I.bare,Un.kept keep,⟨_,ns,λi x v e1 A e3=>?_⟩,λx c h=>?_,nofr,λx c h=>?_,λp hp=>OX hp (by simp),I.hok.kept keep,?_⟩
 .rcases a h1 with B|⟨B,_⟩<;>rcases a h2 with Z|⟨Z,_⟩
  .exact name_of_addr ca B Z
  .exact OX (O0 (k Z) (OP (Ui _) (O _ _ B).2)) (PF _)
  .exact OX (O0 (k B) (OP (Ui _) (O _ _ Z).2)) (PF _)
  .exact I.ok.inj _ _ _ B Z
 .--has
  have hx:(relabel scope X.env).names.lookup x=on .cell\/(relabel scope X.env).names.lookup x=on .free:=hx;have hm:(x,VQ)∈scope.names\/(x,Rk)∈scope.names:=by
   rcases hx with hx|hx
   .rcases j_ (Qf hx)with z|⟨_,z⟩
    .exact .inl z
    .exact .inr z
   .rcases j_ (Qf hx)with z|⟨_,z⟩
    .exact .inr z
    .exact .inr z
  rcases hm with hm|hm
  .have q:=W3 scope.names (s.heap.objs.size+1) (cN X.env.cells scope.names []) (x:=x) (.inl (cI g hm))
   exact V9.mp q
  .obtain⟨c,_,Q⟩:=freeC hm
   exact⟨c,Q⟩
 .--cab
  rcases a h with z|⟨_,z⟩
  .exact OP (Ui _) (O _ _ z).2
  .have z':(scope.names.lookup x !=on .free)=On:=hf
   rw[cI g z]at z';exact OX z' (by decide)
 .obtain⟨o,e⟩:=W b J
  exact Pr (OZ e)
 .rcases a h with z|⟨z,_⟩
  .obtain⟨o,e'⟩:=W b J
   subst e;exact OX (O0 (OZ e') (OP (Ui _) (O _ _ z).2)) (PF _)
  .exact(F b J).2.2.2.2.1 x c z e
 .obtain⟨_,_,_,h4,_⟩:=F b J
  rcases h4 with z|z
  .exact I.ok.noex b o e z
  .exact OX (O0 (OZ (I.ok.bs b o e).1) z) (PF _)
 .obtain⟨_,h2,h3,_⟩:=F b J
  rcases OK.mp (Y b hf)with z|z
  .exact h2 z
  .exact h3 z
 .--the names' values
  have hi:¬i<dr.length:=λhi=>by
   rw[Sm (by simpa using hi),Q1]at A;split at A<;>cases A
  have L:(dr++dc.map (λj=>X.N.getD j Ss))[i]?=on x:=by rw[<-T];exact e1
  rw[QG (by omega)]at L;rw[QG (by simpa using hi)]at A;rw[Qw]at A;cases q:dc[i-dr.length]? with
  |none=>rw[Ou,q]at A;cases A
  |some j=>
   rw[Ou,q]at L A;have C:X.N.getD j Ss=x:=O8 L;have e2':R.getD j Oi=on v:=O8 A;obtain⟨hj,t⟩:=U j (OQ q);rw[C]at t;obtain⟨c,Q,hc'⟩:=freeC (Qf t);have hNj:X.N[j]?=on x:=by
    rw[<-C,Om,Oo hj];rfl
   have hσj:R[j]?=on (on v):=by
    have hl:j<R.length:=by rw[I.len];exact hj
    rw[Om,Oo hl]at e2';rw[Oo hl];exact Px on e2'
   have hkx:=f _ (Qf t) rfl;obtain⟨m,hn,hl⟩:=I.loc;obtain⟨u,r,l⟩:=hl j x v hNj hσj (hkx.elim (λz=> .inr (.inl z)) λz=> .inr (.inr z));refine⟨u,r,.inr ⟨?_,c,hc',?_⟩⟩
   .rcases e3 with z|z|z
    .exfalso
     rcases j_ (Qf z)with y|⟨y,_⟩
     .rw[cI g y]at t;cases t
     .cases y
    .exact .inl z
    .exact .inr z
   .rcases l with⟨l,_⟩|⟨_,c',e,z⟩
    .exfalso
     rcases hkx with y|y
     .have y':X.env.kindOf x=on .cell:=y
      rw[l]at y';cases y'
     .have y':X.env.kindOf x=on .free:=y
      rw[l]at y';cases y'
    .rw[Q]at e
     cases e;exact z.keeps keep
 .rcases a h with z|⟨z,_⟩
  .exact⟨Oi,(O _ _ z).1⟩
  .obtain⟨v,q⟩:=I.cell x c z
   exact⟨v,q.keeps keep⟩
 .rcases a h with z|⟨z,_⟩
  .exact I.hok.fresh (OP (Ui _) (O _ _ z).2)
  .exact I.freeC x c z
 .show _=Nc.length
  rw[T,ON,ON,Qw,Oh,Oh]
abbrev TB:=St->Hp->(St->Hp->Prop)->Prop
inductive YD where
 |L (e:Expr)|S (e:Expr)|D (k v:Expr)
instance:Coe Expr YD:=⟨.L⟩
noncomputable def q_(c:YD)(gens:List Qp)(scope:Scope)(pos:TD):Expr:=match c with
 | .L e=> .ListComp e gens scope pos
 | .S e=> .SetComp e gens scope pos
 | .D k v=> .DictComp k v gens scope pos
noncomputable def Zh(c:YD)(acc:Ov)(env:VJ):Sem Unit:=match c with
 | .L e=>do let _ <-VF (.builtin "list.append") [acc,<-PZ e env]
 | .S e=>do let v <-PZ e env;Si e.pos;let _ <-VF (.builtin "set.add") [acc,v]
 | .D k v=>do
   let kv <-PZ k env
   let vv <-SN [kv] (PZ v env)
   match acc with
   | .ref d=>do
    Si {k.pos with endLine:=v.pos.endLine,endCol:=v.pos.endCol}
    SN [kv,vv] (dictSet d kv vv)
   |_=>unsupported "internal:dictcomp"
noncomputable def gu(c:YD)(gens:List Qp)(scope:Scope)(pos:TD)(d:Nat)(acc:Ov)(env:VJ)(k:Sem Um):Sem Um:=
 match gens[d+1]? with
 |some g'=>do
  let x <-PZ g'.iter env
  Si g'.iter.pos
  let x <-if g'.is_async !=0 then foldedIterable g'.iter x else Pz g'.iter env x
  let _ <-runOwn (.compStart (q_ c gens scope pos) (d+1) (<-SN [x] (if g'.is_async !=0 then asyncIter x else UW x)) acc env) env
  k
 |none=>do
  Zh c acc env
  k
theorem uF{a b:Expr}(e:gens[d]?=on ⟨a,b,ifs,0⟩):
  compTurn (q_ c gens scope pos) d it acc env=(do
   Si b.pos
   match <-Sa it with
   |none=>QR (.done .next)
   |some v=>
    T0 a it v
    TY a env v
    let mut ok:=On
    for y in ifs do
     if ok then ok <-isTrue y env (PZ y env)
    if ok then gu c gens scope pos d acc env (Vz (.compLoop (q_ c gens scope pos) d it acc env))
    else Vz (.compLoop (q_ c gens scope pos) d it acc env)):=by
 cases c<;>(
  unfold compTurn gu q_ Zh
  dsimp only
  rw[e]
  dsimp only
  cases gens[d+1]?<;>rfl)
variable{prog:Pc}{A:PU}{R:Result->OB->Prop}{s:OB}
theorem CN(F:gens[d]?=on ⟨cp,iter,ifs,0⟩)(I:Nat->OB->Prop)
  (q:∀n s,I n s->OH (O4 prog w) A (Sa it) (λr a=>match r with
   |none=>R (.ok .next) a
   |some v=>OH (O4 prog w) A (T0 cp it v) (λ_ b=>OH (O4 prog w) A (TY cp env v) (λ_ j=>
    OH (O4 prog w) A (forIn ifs On λy r=>if r=On then do let ok <-isTrue y env (PZ y env);QR (Ug ok)else QR (Ug r)) (λok g=>
     if ok=On then ∀(k:Sem Um) (B:Um->OB->Prop) (C:Ov->OB->Prop),(∀i m,m<n->I m i->OH (O4 prog w) A k B C i)->OH (O4 prog w) A (gu c gens scope pos d acc env k) B C g
     else ∃m,m<n/\I m g) (λ_ _=>False) j) (λ_ _=>False) b) (λ_ _=>False) a) (λ_ _=>False) s)
  (n:Nat) (h:I n s):
  SM (O4 prog w) A (.compLoop (q_ c gens scope pos) d it acc env) R s:=by
 refine codeAny_loop rfl I (λn s hI=>?_) n h
 suffices z:OH (O4 prog w) A ((compTurn (q_ c gens scope pos) d it acc env).onRaise (λx=>do noteFrame x env;theTreesLotGoes x)) (λu s'=>match u with
   |Fin.done f=>R (Q0 f) s'
   |Fin.again c'=>c'=Code.compLoop (q_ c gens scope pos) d it acc env/\∃m,m<n/\I m s') (λe s'=>R (Except.error e) s') s by cases c<;>exact z
 refine wpAny_noted ?_;rw[uF F];refine My (Q2 (My (PN (q n s hI) (λr a l=>?_) λ_ _ h'=>h'.elim)));cases r with
 |none=>exact Oj l
 |some v=>
  refine My (PN l (λ_ b p=>?_) λ_ _ h'=>h'.elim);refine My (PN p (λ_ j t=>My (PN t (λok g o=>?_) λ_ _ h'=>h'.elim)) λ_ _ h'=>h'.elim);cases ok with
  |false=>exact Oj ⟨rfl,o⟩
  |true=>exact o _ _ _ λi m hm hI=>Oj ⟨rfl,m,hm,hI⟩
theorem yd(j:gens[d]?=on ⟨cp,iter,ifs,0⟩)
  (i:SM (O4 prog w) A (.compLoop (q_ c gens scope pos) d it acc env) R s)
  (h:OH (O4 prog w) A (UW it) (λa s'=>SM (O4 prog w) A (.compLoop (q_ c gens scope pos) d a acc env) R s') (λ_ _=>False) s):
  SM (O4 prog w) A (.compStart (q_ c gens scope pos) d it acc env) R s:=by
 refine codeAny_of_tree ?_
 suffices z:OH (O4 prog w) A ((compStart (q_ c gens scope pos) d it acc env).onRaise (λx=>do noteFrame x env;Si theWindowsPlace)) (λg s'=>match g with
   |Fin.done f=>R (Q0 f) s'
   |Fin.again c'=>c'.quiet=On/\SM (O4 prog w) A c' R s') (λe s'=>R (Except.error e) s') s by cases c<;>exact z
 refine wpAny_notedAt ?_;unfold compStart;have b:(clausesOf (q_ c gens scope pos))[d]?=on ⟨cp,iter,ifs,0⟩:=by cases c<;>exact j
 generalize (clausesOf (q_ c gens scope pos))[d]?=og at b⊢;subst b;show OH _ _ (ask>>=_) _ _ s;refine My (Tu (wpAny_ite ?_));split
 .first
   |exact My (Oj (Oj (WE rfl i)))
   |exact Oj (WE rfl i)
 .first
   |exact My (R0 (My (Q2 (My (PN h (λa s' h'=>Oj (WE rfl h')) λ_ _ x=>x.elim)))))
   |(refine My (R0 ?_);show OH _ _ (Si iter.pos>>=_) _ _ s;exact My (Q2 (My (PN h (λa s' h'=>Oj (WE rfl h')) λ_ _ x=>x.elim))))
def dm(X:Cx)(b:List Expr)(t:TT):Prop:=
 ∀(a:List (Oq×O7)) (s:OB) (d:St) (H:Hp) (Q:Bool->Hp->Prop),dk X a d H s->t d H Q->
  OH (O4 X.prog X.w) X.A (forIn b On λc r=>if r=On then do let ok <-isTrue c X.env (PZ c X.env);QR (Ug ok)else QR (Ug r)) (TP X a d Q) X.xe s
noncomputable def Ki:TT:=λ_ H Q=>Q On H
theorem tJ{X:Cx}:dm X [] Ki:=λ_ _ _ H _ I h=>Oj ⟨H,I,h⟩
theorem BO{X:Cx}(d:PT X c t):dm X [c] t:=λa s e H Q I h=>by
 simp only[RP,R6,PM];exact My (My (PN (d a s e H Q I h) (λb s' f=>Oj (Oj f)) λ_ _ x=>x))
def PB(X:Cx)(c:YD)(gens:List Qp)(scope:Scope)(pos:TD)(d:Nat)(D:Oq)(t:TB):Prop:=
 ∀(a:List (Oq×O7)) (s:OB) (e:St) (H:Hp) (Q:St->Hp->Prop),dk X a e H s->t e H Q->
  ∀(k:Sem Um) (f:Um->OB->Prop) (g:Ov->OB->Prop),(∀s' b h,dk X a b h s'->Q b h->OH (O4 X.prog X.w) X.A k f g s')->OH (O4 X.prog X.w) X.A (gu c gens scope pos d (.ref D) X.env k) f g s
def cL(J:It)(g:TG)(tt:TT)(j:TB):TB:=λc H Q=>∃W:Nat->Nat->St->Hp->Prop,(∃m,W 0 m c H)/\∀i m c H,W i m c H->
 (J.stop i H/\Q c H)\/(J.go i H/\∃N:St->Hp->Prop,(∀d e,N d e->∃f,f<m/\W (i+1) f d e)/\∀x e,J.yld i H x e->g x c e λa k=>tt a k λb h=>if b=On then j a h N else N a h)
def xH(D:Oq)(c:TE):TB:=λa H Q=>c a H λv b=>∃xs,b D=on (.lst xs)/\xs.length<OS/\Q a (upd b D (.lst (xs++[v])))
def xG(b:TI)(c:It->TB):TB:=λa H Q=>b a H λJ d=>c J a d Q
variable{c:YD}{elt cp iter:Expr}{ifs:List Expr}{gens:List Qp}{scope:Scope}{pos:TD}{d:Nat}{D:Oq}
theorem q8(hg:gens[d]?=on ⟨cp,iter,ifs,0⟩)(hc:X.calm=On)(F:X.xe=λ_ _=>False)(hgt:PG X cp g)(hts:dm X ifs tt)(j:PB X c gens scope pos d D tb)
  {s:OB}
  (I:dk X a_ σ H s) (T:oa X.prog X.w X.K cp J fp it tn) (st:tn 0 s.heap) (hf:∀b∈fp,eJ X a_ H b) (h:cL J g tt tb σ H Q):
  SM (O4 X.prog X.w) X.A (.compStart (q_ c gens scope pos) d (.ref it) (.ref D) X.env) (λr s'=>r= .ok .next/\∃a f,dk X a_ a f s'/\Q a f) s:=by
 obtain⟨W,⟨m0,w0⟩,L⟩:=h;have l:∀{f:Hp},(∀b∈fp,f b=Oi)->∀b∈fp,eJ X a_ f b:=λhn b j=>⟨hn b j,(hf b j).2⟩;have t:SM (O4 X.prog X.w) X.A (.compLoop (q_ c gens scope pos) d (.ref it) (.ref D) X.env) (λr s'=>r= .ok .next/\∃a f,dk X a_ a f s'/\Q a f) s:=by
  refine CN hg (λn s'=>∃i a f,dk X a_ a f s'/\tn i s'.heap/\(∀b∈fp,f b=Oi)/\W i n a f) ?_ m0 ⟨0,σ,H,I,st,λb j=>(hf b j).1,w0⟩;rintro n s3 ⟨i,p,Z,I3,O,U,w3⟩;rcases L i n p Z w3 with⟨stop,qn⟩|⟨go,N,hN,step⟩
  .refine e_ (T.done X rfl rfl rfl hc i a_ s3 p Z _ I3 (l U) O stop) λr s4 ⟨hr,I4⟩=>?_
   subst hr;exact⟨rfl,p,Z,I4,qn⟩
  .refine e_ (T.item X rfl rfl rfl hc i a_ s3 p Z _ I3 (l U) O go) λr s4 ⟨u,hr,h4⟩=>?_
   subst hr;refine e_ h4 λ_ s5 ⟨x,H5,I5,r5,y5,v,fr5⟩=>?_;have I5':=I5.pinned (l fr5) (T.obj _ _ v);have Vz:∀{q:St} {y:Hp} {B:OB},dk X (a_++kY fp s5.heap) q y B->N q y->∃m,m<n/\∃i a f,dk X a_ a f B/\tn i B.heap/\(∀b∈fp,f b=Oi)/\W i m a f:=λ{q y B} C n7=>by
    obtain⟨m',hm,w7⟩:=hN q y n7;refine⟨m',hm,i+1,q,y,C.unpinned,T.keep _ _ _ v λb j o e=>(C.pin (b,o) (Ps _ (Ps _ (gN j e)))).1,λb j=>?_,w7⟩;obtain⟨o,e,d⟩:=T.obj _ _ v b j;exact(C.pin (b,o) (Ps _ (Ps _ (gN j e)))).2.1
   have h6:=hgt _ s5 p H5 x u _ I5' r5 (step x H5 y5);rw[F]at h6;refine e_ h6 λ_ s6 ⟨Y,H6,I6,q6⟩=>?_;have h7:=hts _ s6 Y H6 _ I6 q6;rw[F]at h7;refine e_ h7 λb B ⟨y,C,q7⟩=>?_;cases b with
   |true=>
    rw[OA rfl]at q7⊢;intro k Q' E' hk;refine j _ B Y y N C q7 k Q' E' λs8 σ8 H8 I8 n8=>?_;obtain⟨m,hm,z⟩:=Vz I8 n8;exact hk s8 m hm z
   |false=>
    rw[Ot OE]at q7⊢;exact Vz C q7
 exact yd hg t (T.self X.A 0 s _ _ st t)
theorem aD(m:gens[d+1]?=Oi)(o:PE X elt te)(b:X.xe=λ_ _=>False):PB X elt gens scope pos d D (xH D te):=by
 intro a s g H Q I h k y B p;unfold gu;rw[m];show OH _ _ ((do let _ <-VF (.builtin "list.append") [.ref D,<-PZ elt X.env])>>=λ_=>k) _ _ _
 have i:=o a s g H _ I h;rw[b]at i;refine My (My (PN i (λu C ⟨v,J,j,r,xs,l,L,q⟩=>?_) λ_ _ f=>f.elim));obtain⟨z,its,n,t,N,e⟩:=j.lstM l;refine My (W2 F.slot_list_append ⟨_,e,rfl⟩ F.entry_list_append (X7 _ _) (XZ D its.toArray n u (by rw[OR];omega)) ⟨e,?_⟩);refine Oj (p _ g _ (j.lset (its':=its++[u]) l e (by simp) (t.append (.cons r .nil)) ?_) q);rw[ON,PH];omega
theorem qd(o:gens[d+1]?=on ⟨target',iter',ifs',0⟩)(p:X.calm=On)(a:X.xe=λ_ _=>False)(t:PI X target' iter' wi)
  (j:PG X target' g) (l:dm X ifs' tt) (u:PB X c gens scope pos (d+1) D tb) (hs:∀x,Pz iter' X.env x=QR x:=by intro _;rfl):PB X c gens scope pos d D (xG wi λJ=>cL J g tt tb):=by
 intro b s y H Q I h k Y Z B;unfold gu;rw[o];have i:=t b s y H _ I h;rw[a]at i;refine My (PN i (λv s1 i=>My (Q2 ?_)) λ_ _ f=>f.elim);show OH _ _ (Pz iter' X.env v>>=_) _ _ _;refine My (RW (hs v) ?_);show OH _ _ (SN [v] (UW v)>>=_) _ _ _;refine My (P3 (PN i (λC s2 F=>?_) λ_ _ f=>f.elim));obtain⟨it,fp,tn,J,H2,e,L,T,m,f2,q⟩:=F;subst e;refine My (wpAny_runOwn (Ud (q8 o p a j l u L T m f2 q) λr s' ⟨N,z⟩=>?_));subst N;obtain⟨n,O,U,W⟩:=z;exact B s' n O U W
noncomputable def jy(dr:List Pj)(dc:List Nat)(a:St):St:=OY dr.length Oi++dc.map (λj=>a.getD j Oi)
def Zq(X:Cx)(mk:Sem Ov)(g:Oq->HO):Prop:=∀(a:List (Oq×O7)) (s:OB) (f:St) (H:Hp) (E:Ov->OB->Prop) (Q:Ov->OB->Prop),dk X a f H s->
 (∀e:OB,dk X a f (upd H s.heap.objs.size (g s.heap.objs.size)) e->(∀b o,s.heap.get? b=on o->e.heap.get? b=on o)->Q (.ref s.heap.objs.size) e)->OH (O4 X.prog X.w) X.A mk Q E s
theorem tW{X:Cx}:Zq X (newList []) λ_=> .lst []:=λa s f H E Q I h=>Ph (h _ (I.lnew (t':=s.toks) .nil (PV _)) λb o e=>Ol _ e)
def oy(dr:List Pj)(dc:List Nat)(e:TI)(f:Oq->It->TB):TE:=λa H Q=>e a H λJ b=>∀D,b D=Oi->f D J (jy dr dc a) (upd b D (.lst [])) λ_ g=>Q (.ref D) g
structure dt (X:Cx) (scope:Scope) (Nc dr:List Pj) (dc:List Nat):Prop where
 kind:scope.kind= .function
 nd:(scope.names.map (·.1)).Nodup
 free:∀y∈scope.names,y.2= .free->X.env.kindOf y.1=on .cell\/X.env.kindOf y.1=on .free
 names:Nc=dr++dc.map (λj=>X.N.getD j Ss)
 cap:∀j∈dc,j<X.N.length/\scope.names.lookup (X.N.getD j Ss)=on .free
variable{rest:List Qp}{Nc dr:List Pj}{dc:List Nat}{g:TG}{tt:TT}{tb:Oq->TB}{wi:TI}
def M0(X:Cx)(a:List (Oq×O7))(H:Hp)(C:Oq):Prop:=H C=Oi/\C≠X.env.locals/\X.s₀.heap.objs.size<=C/\(∀x c,X.env.cells.lookup x=on c->c≠C)/\∀p∈X.pn++a,p.1≠C
theorem gq{c:YD}{mk:Sem Ov}{B:Oq->HO}(O:Zq X mk B){f:List (Oq×O7)}{F:St}{H:Hp}{s:OB}{it:Oq}{h:List Oq}{Q:Nat->P4->Prop}{J:It}{E:Ov->OB->Prop}{QQ:Oq->Hp->Prop}{RR:Ov->Oq->Result->OB->Prop}
  (hc:X.calm=On) (S:dt X scope Nc dr dc)
  (L:∀(cl:List (Pj×Oq)) (C:Oq) (h:List Oq) (s:OB) (H:Hp),PG (az X Nc scope cl C h s H) cp g/\dm (az X Nc scope cl C h s H) ifs tt/\∀D,PB (az X Nc scope cl C h s H) c (⟨cp,iter,ifs,0⟩::rest) scope pos 0 D (tb D))
  (I:dk X f F H s) (T:oa X.prog X.w X.K cp J h it Q) (st:Q 0 s.heap) (U:∀b∈h,eJ X f H b)
  (q:∀D,H D=Oi->cL J g tt (tb D) (jy dr dc F) (upd H D (B D)) λ_ k=>QQ D k)
  (W:∀(D C:Oq) (s':OB) (k:Hp) (m:Pj->Option Ov),dk X f F k s'->s'.heap.Ns C m->M0 X f k C->QQ D k->RR (.ref D) C (.ok .next) s'):
  OH (O4 X.prog X.w) X.A mk (λacc t=>OH (O4 X.prog X.w) X.A (W8 scope X.env.globals (cN X.env.cells scope.names []) [] X.env.qual Oi .none (on X.env)) (λj u=>
   SM (O4 X.prog X.w) X.A (.compStart (q_ c (⟨cp,iter,ifs,0⟩::rest) scope pos) 0 (.ref it) acc {j with scope:=relabel scope X.env}) (RR acc j.locals) u) E t) E s:=by
 refine O f s F H _ _ I λi l y=>?_;have hD:H s.heap.objs.size=Oi:=I.fresh;have q3:=q s.heap.objs.size hD;have Y:∀b∈h,∃o,i.heap.get? b=on o:=λb L=>let ⟨o,e,_⟩:=T.obj _ _ st b L;⟨o,y b o e⟩
 have Z:∀b∈h,eJ X f (upd H s.heap.objs.size (B s.heap.objs.size)) b:=λb a=>⟨by
  rw[b_]
  .exact(U b a).1
  .obtain⟨o,e,_⟩:=T.obj _ _ st b a
   exact Pr (OZ e),(U b a).2⟩
 generalize hH3:upd H s.heap.objs.size (B s.heap.objs.size)=H3 at l q3 Z;generalize s.heap.objs.size=D at hD hH3 q3⊢;refine DO λh' ns keep ce ca=>?_;have N:=DC l S.kind S.nd S.free S.names S.cap Z Y ns keep ce ca;obtain⟨b1,b2,b3⟩:=L (Qv (i.heap.objs.size+1) scope.names (cN X.env.cells scope.names [])) i.heap.objs.size h i H3;have st4:Q 0 h':=T.keep _ _ _ st λb L o e=>keep b o (y b o e);have f4:∀b∈h,eJ (az X Nc scope (Qv (i.heap.objs.size+1) scope.names (cN X.env.cells scope.names [])) i.heap.objs.size h i H3) [] H3 b:=λb a=>
  ⟨(Z b a).1,(N.ok.exf b a).1,N.ok.exfs b a,.inl a,(N.ok.exf b a).2,λp hp=>OX hp (by simp)⟩
 refine Ud (q8 (X:=az X Nc scope (Qv (i.heap.objs.size+1) scope.names (cN X.env.cells scope.names [])) i.heap.objs.size h i H3) (gens:=⟨cp,iter,ifs,0⟩::rest) (d:=0) rfl hc rfl b1 b2 (b3 D) N T st4 f4 q3) λr s' ⟨hr,σ',k,n,q'⟩=>?_;subst hr;obtain⟨m,hm,_⟩:=n.loc;have C1:X.env.locals<i.heap.objs.size:=l.lt;refine W D _ s' k m (l.call' (ch:=h) n.os n.base n.hok n.bare λb a=>?_) hm ⟨n.free,Rb C1,l.sz,λx c e z=>?_,λp hp z=>?_⟩ q'
 .obtain⟨_,h2,h3,h4,h5,h6⟩:=U b a
  exact⟨h4,h2,h5,h6⟩
 .obtain⟨v,e'⟩:=l.cell x c e
  exact OX (z▸e'.lt) (PF _)
 .have:=OZ (l.pin p hp).1
  rw[z]at this;exact OX this (PF _)
theorem dk.letgo{s:OB}(I:dk X a_ σ H s)(o:M0 X a_ H C)(hs:Pa C s.heap h'):dk X a_ σ H {s with heap:=h'}:=
 I.turned (t':=s.toks) (λb f a e=>(hs.2 b a).trans e) o.1 (Ne.symm (Ne.symm o.2.1)) (.inr o.2.2.1) o.2.2.2.1 o.2.2.2.2
theorem dt.clo(S:dt X scope Nc dr dc)(ok:X.Ok):closureFor scope X.env=QR (cN X.env.cells scope.names []):=xC λy a b=>ok.has y.1 (S.free y a b)
theorem dt.loc(S:dt X scope Nc dr dc):∀x∈scope.names,x.2= .local->scope.names.lookup x.1=on .local:=λx a b=>cI S.nd (by rw[<-b];exact a)
theorem mn(j:X.calm=On)(S:dt X scope Nc dr dc)(k:PI X cp iter wi)
  (l:∀(cl:List (Pj×Oq)) (C:Oq) (b:List Oq) (s:OB) (H:Hp),PG (az X Nc scope cl C b s H) cp g/\dm (az X Nc scope cl C b s H) ifs tt/\∀D,PB (az X Nc scope cl C b s H) elt (⟨cp,iter,ifs,0⟩::rest) scope pos 0 D (tb D))
  (hs:∀x,Pz iter X.env x=QR x:=by intro _;rfl):PE X (.ListComp elt (⟨cp,iter,ifs,0⟩::rest) scope pos) (oy dr dc wi λD J=>cL J g tt (tb D)):=by
 intro a s n H Q I h;rw[eval_ListComp];refine Rz (use:=Oi) rfl hs (S.clo I.ok) S.kind S.loc (PN (k a s n H _ I h) (λv N o=>PN o (λp O r=>?_) λ_ _ x=>x) λ_ _ x=>x);obtain⟨it,b,U,J,W,e,t,T,f,f2,q⟩:=r;subst e;refine gq (c:= .L elt) tW (RR:=λacc C=>W4 (O4 X.prog X.w) X.A X.xe Oi _ acc C) j S l t T f f2 q λD C s' u m y ns B F=>?_;exact⟨m,ns,λh' i=>⟨.ref D,u,y.letgo B i,rfl,F⟩⟩
theorem vj{b f:TD}(y:X.N.Nodup)(l:X.N[i]?=on x)(B:A_ X.env.scope x)(F:X.calm=On)(S:dt X scope Nc dr dc)(O:PI X cp iter wi)
  (U:∀(cl:List (Pj×Oq)) (C:Oq) (k:List Oq) (s:OB) (H:Hp),PG (az X Nc scope cl C k s H) cp g/\dm (az X Nc scope cl C k s H) ifs tt/\∀D,PB (az X Nc scope cl C k s H) elt (⟨cp,iter,ifs,0⟩::rest) scope pos 0 D (tb D))
  (n:Ts (.ListComp elt (⟨cp,iter,ifs,0⟩::rest) scope pos) (on (.Name x b)) f.line X.env=QR On:=by rfl)
  (hs:∀x,Pz iter X.env x=QR x:=by intro _;rfl) (W:X.fn x=On\/X.env.scope.names.lookup x=on .local:=by first|exact .inl rfl|exact .inr rfl|assumption):
  PS X (.Assign [.Name x b] (.ListComp elt (⟨cp,iter,ifs,0⟩::rest) scope pos) f) (ff (oy dr dc wi λD J=>cL J g tt (tb D)) (dC i)):=by
 intro j s Y H D I h;rw[exec_Assign_Name_used _ _ _ _ n];refine My (Q2 (My ?_));show OH _ X.A (do let _ <-comprehension (.ListComp elt (⟨cp,iter,ifs,0⟩::rest) scope pos) scope X.env _ (newList []) Os (PZ iter X.env) (on (TY (.Name x b) X.env))) _ _ s
 refine My (PN (Rz (use:=on (TY (.Name x b) X.env)) (Q:=λ_ s'=>SP X j D .next s') rfl hs (S.clo I.ok) S.kind S.loc
  (PN (O j s Y H _ I h) (λv s1 Z=>PN Z (λitv s2 h2=>?_) λ_ _ e=>e) λ_ _ e=>e)) (λ_ s' hq=>Oj (Oj hq)) λ_ _ e=>e)
 obtain⟨it,k,tn,J,H2,e,o,T,p,f2,q⟩:=h2;subst e;refine gq (c:= .L elt) tW (RR:=λacc C=>W4 (O4 X.prog X.w) X.A X.xe (on (TY (.Name x b) X.env)) _ acc C) F S U o T p f2 q λA C s' H' m I' ns r q'=>?_;show OH _ X.A (TY (.Name x b) X.env (.ref A)) _ _ s';refine V2 (kH I' y l B (v:= .ref A) rfl (λs2 o ⟨a,sb,ha⟩=>?_) W);have t:C≠a:=by
  rcases ha with rfl|ha
  .exact r.2.1
  .exact λz=>r.2.2.2.1 x a ha z.symm
 exact⟨m,ns.sameBut sb t,λh' u=>⟨_,H',o.letgo r u,q'⟩⟩
end
end L2
namespace L2
open PySem PySem.Spec
open Sem (wp)
open Builtin Builtin.ObjectAttr
structure YA (h:P4) (C:Oq) (bm:List Ov):Prop where
 at_:∃(nm q:Pj) (N:Oq) (bs:List Ov) (hdct:Bool) (sn:List Pj) (sub:List Ov) (ab:Bool) (col:Option Bool) (dd:Option Oq) (k0 k1 k2 k3 k5:Option Ov),
  h.get? C=on (excClassObj nm q C N bs bm hdct sn sub ab col dd k0 k1 k2 k3 k5 "ValueError.__new__")
 val:bm.contains (.type "ValueError")=On
 bas:bm.contains (.type "BaseException")=On
 att:bm.contains (.type "AttributeError")=Os
 nam:bm.contains (.type "NameError")=Os
section
variable{prog:Pc}{w:Pk}{A:PU}{E:Ov->OB->Prop}{h:P4}{g:Array GenState}{d:Drawn}{t:Nat}{os:UT}{C:Oq}{bm rest:List Ov}
noncomputable def vZ:List Ov->Bool
 |[.type a,.type b,.type c,.type d]=>a=="ValueError"&&b=="Exception"&&c=="BaseException"&&d=="object"
 | .ref _::r=>vZ r
 |_=>Os
variable{s:OB}{e:Oq}{K:OU}{cd:ClassData}{name:Pj}{v:Ov}
end
end L2
namespace L2
open PySem PySem.Spec PyProof.Rows
theorem bD.there{h:P4}(x:bD P w H h a o):∃b,h.get? a=on b:=by
 cases o with
 |lst xs=>obtain⟨_,_,_,_,e⟩:=x;exact⟨_,e⟩
 |tup xs=>obtain⟨_,_,_,_,e,_⟩:=x;exact⟨_,e⟩
 |ins C dx fs=>obtain⟨_,_,_,e,_⟩:=x;exact⟨_,e⟩
 |own y=>exact x
 |xd fs=>obtain⟨_,⟨_,_,_,e,_⟩,_⟩:=x;exact⟨_,e⟩
 |rng lo hi=>obtain⟨_,_,_,e⟩:=x;exact⟨_,e⟩
 |frz b u=>obtain⟨e,_⟩:=x;exact⟨_,e⟩
 |tbl ps=>exact⟨_,(show h.get? a=on _ from x)⟩
 |met f y=>exact⟨_,(show h.get? a=on _ from x)⟩
 |ext φ=>obtain⟨_,e,_⟩:=x;exact e
structure T_ (P:Pc) (w:Pk) (outer:List VJ) (H:Hp) (s:OB) (E:XK) (x C:Oq) (H':Hp) (s':OB):Prop where
 os:s'.os=s.os
 bare:T5 s'.gens
 un:Un (h8 outer) [] H H' s.heap s'.heap
 hok:lu P w H' s'.heap
 tr:∃(oe:O7) (vs:Array Ov) (T:Oq) (oT:O7) (ts:Array Ov) (a0:Ov),s'.heap.get? x=on oe/\(oe.cls= .ref C/\vs[0]?=on a0)/\oe.data= .fields vs/\vs[1]?=on (.ref T)/\T≠x/\s'.heap.get? T=on oT/\oT.data= .fields ts/\ts[3]?=on .none/\H' T=Oi/\s.heap.get? T=Oi
 xn:H' x=Oi
 xs:s.heap.get? x=Oi
 wish:E (.ref C) Oi H'
def hO(P:Pc)(w:Pk):L3:=λouter H s E e s'=>∃x C a,e= .ref x/\T_ P w outer H s E x C a s'
theorem zr{X:Cx}{s s':OB}{E:XK}(I:dk X a_ σ H s)(g:X.stack=X.env::X.outer)(i:X.env.frame=on X.env.locals)(R:X.ex=[])
  (os:s'.os=X.s₀.os) (bare:T5 s'.gens) (d:Un (h8 X.stack) [] X.H₀ H' X.s₀.heap s'.heap) (hok:lu X.prog X.w H' s'.heap) (y:∀b∈h8 X.stack,H' b=Oi)
  (c:∀b∈ext,X.s₀.heap.get? b=Oi/\H' b=Oi) (O:x∈ext) (wish:E (.ref C) Oi H')
  (L:Heap.LeftW (Yl s'.heap (ext++h8 X.stack)) (X.env::X.outer) x (.ref C) a0 s'.heap h'):T_ X.prog X.w X.outer X.H₀ X.s₀ E x C H' {s' with heap:=h'}:=by
 obtain⟨U,L2,W,Y⟩:=L;have j:∀b∈h8 X.outer,b∈h8 X.stack:=λb hb=>by
  rw[g];unfold h8;rw[Qr,i];exact Op _ hb
 have h:∀b∈h8 X.stack,b=X.env.locals\/b∈h8 X.outer:=λb hb=>by
  rw[g]at hb;unfold h8 at hb;rw[Qr,i]at hb;exact OK.mp hb
 have A:∀b o,X.s₀.heap.get? b=on o->b≠X.env.locals:=λb o e=>Pr (O0 (OZ e) I.ok.above);have stay:∀b o,s'.heap.get? b=on o->b∉ext->b∉h8 X.stack->h'.get? b=on o:=λb o e B Z=>
  U b o (hideAll_get _ e λhm=>(Qb.mp hm).elim B Z)
 have k:∀b o,X.s₀.heap.get? b=on o->b∉ext:=λb o e hb=>by rw[(c b hb).1]at e;cases e
 have f:∀b∈h8 X.stack,∃o,h'.get? b=on o/\∀vs,o.data≠ .fields vs:=λb hb=>(L2.mem (by rw[<-g];exact hb)).2;obtain⟨oe,vs,T,oT,P,he,hc,hd,B,l,F,Q,m,h3⟩:=W;have p:H' T=Oi/\X.s₀.heap.get? T=Oi:=by
  by_cases hm:T∈ext++h8 X.stack
  .rcases Qb.mp hm with hm|hm
   .exact⟨(c T hm).2,(c T hm).1⟩
   .obtain⟨o,e,nf⟩:=f T hm
    rw[Q]at e;cases e;exact OX m (nf P)
  .have hs:s'.heap.get? T=Oi:=by
    cases q:s'.heap.get? T with
    |none=>rfl
    |some o=>rw[hideAll_get _ q hm]at l;cases l
   constructor
   .cases q:H' T with
    |none=>rfl
    |some o=>obtain⟨ob,e⟩:=(hok T o q).there;rw[hs]at e;cases e
   .cases q:X.s₀.heap.get? T with
    |none=>rfl
    |some o=>obtain⟨ob,e⟩:=d.there T o q (by simp);rw[hs]at e;cases e
 refine⟨os,bare,⟨λb o e n hb _=>?_,λb o e n hb _=>?_,λb o e n hb=>d.free b o e n hb,λb o e _=>?_,d.tups,d.frzs,d.tbls⟩,λa o e=>?_,⟨oe,vs,T,oT,P,a0,he,hc,hd,B,F,Q,m,h3,p.1,p.2⟩,(c x O).2,(c x O).1,wish⟩
 .have nf:b∉h8 X.stack:=λz=>(h b z).elim (A b o e) hb
  exact stay b o (d.keep b o e n nf (by simp)) (k b o e) nf
 .obtain⟨sl,r⟩:=d.slot b o e n (j b hb) (by simp)
  obtain⟨_,J,v,nf⟩:=I.ok.funs.mem hb;rw[e]at v;cases v;obtain⟨N,e3⟩:=Y b _ r nf;exact⟨N,e3⟩
 .obtain⟨J,r⟩:=d.there b o e (by simp)
  by_cases hb:b∈h8 X.stack
  .obtain⟨o2,v,_⟩:=f b hb
   exact⟨o2,v⟩
  .exact⟨J,stay b J r (k b o e) hb⟩
 .refine(hok a o e).stay (λb u hb r=>?_) (λ_ q=>q) λ_ _ q=>q
  have t:H' b≠Oi:=by
   rcases hb with rfl|hb
   .rw[e];simp
   .rw[hb];simp
  exact stay b u r (λz=>t (c b z).2) λz=>t (y b z)
theorem zO{h base:P4}(d:h.FunFrames base l)(c:∀b∈h8 l,b∈as):h.FunFrames (Yl h as) l:=
 PySem.W.funFrames_hide d λenv e a ha=>c a (by unfold h8;exact TM.mpr ⟨env,e,ha⟩)
theorem Jq{X:Cx}{E F:XK}(a:X.stack=X.env::X.outer)(d:X.env.frame=on X.env.locals)(f:X.ex=[])(R:∀cls J H,F cls J H->E cls J H)
  (I:dk X a_ σ H s) (h:hO X.prog X.w X.stack H s F e s'):
  OH (O4 X.prog X.w) X.A (leaving X.env e) (λ_ j=>hO X.prog X.w X.outer X.H₀ X.s₀ E e j) E1 s':=by
 obtain⟨x,C,N,rfl,os,bare,un,hok,⟨U,vs,T,W,Y,a0,Z,hc,hd,h1,k,hT,m,h3,n,p⟩,xn,xs,wish⟩:=h;have nofs:∀b∈X.fs,b∈h8 X.stack:=λb hb=>by
  rw[a];unfold h8;rw[Qr,d];exact Op _ hb
 have O:Un (h8 X.stack) [] X.H₀ H X.s₀.heap s.heap:=by
  have b:=I.base;rw[f]at b;exact b.mono nofs λ_ z=>z
 have U0:=O.trans un;have g:∀b,s.heap.get? b=Oi->X.s₀.heap.get? b=Oi:=λb e=>by
  cases q:X.s₀.heap.get? b with
  |none=>rfl
  |some o=>obtain⟨o',P⟩:=O.there b o q (by simp);rw[e]at P;cases P
 have c:=I.stack;have i:s'.heap.FunFrames X.base X.stack:=by
  have all:∀(l:List VJ),(∀b∈h8 l,b∈h8 X.stack)->s.heap.FunFrames X.base l->s'.heap.FunFrames X.base l:=by
   intro l
   induction l with
   |nil=>intro _ _;trivial
   |cons env r ih=>
    intro hs hl;obtain⟨hk,⟨L,o,t,hn,u,v⟩,hr⟩:=hl;have Q:L∈h8 X.stack:=hs L (by unfold h8;rw[Qr,t];exact Ox);obtain⟨sl,e⟩:=un.slot L o u (I.stkFree L Q) Q (by simp);exact⟨hk,⟨L,_,t,hn,e,v⟩,ih (λb hb=>hs b (by unfold h8;rw[Qr,t];exact Op _ hb)) hr⟩
  exact all X.stack (λ_ hb=>hb) c
 have y:∀b∈h8 X.stack,N b=Oi:=λb hb=>by
  obtain⟨_,o,u,_⟩:=c.mem hb;exact un.free b o u (I.stkFree b hb) (by simp)
 have B:∀b∈h8 X.stack,b∈[x,T]++h8 X.stack:=λb hb=>Ps _ hb;have hF:s'.heap.FunFrames (Yl s'.heap ([x,T]++h8 X.stack)) (X.env::X.outer):=by
  have z:=zO i B;rw[a]at z⊢;exact z
 refine wpAny_leaving_nextW (base:=Yl s'.heap ([x,T]++h8 X.stack)) (by rw[<-a];exact I.ok.frames) hF d ⟨U,vs,T,W,Y,Z,hc,hd,h1,Ym _ (by simp),k,hT,m,h3⟩ (λb o q=>WY _ q) (Ym _ (by simp)) λh' L=>?_;refine⟨x,C,N,rfl,zr I a d f (os.trans I.os) bare U0 hok y (λb hb=>?_) (by simp) (R _ _ _ wish) L⟩;rcases OK.mp hb with rfl|hb
 .exact⟨g _ xs,xn⟩
 .obtain rfl:b=T:=by simpa using hb
  exact⟨g _ p,n⟩
section
variable{X:Cx}{a_:List (Oq×O7)}{σ:St}{H H':Hp}{s s':OB}{E:XK}{x C:Oq}
structure XC (K:OU) (C:Oq):Prop where
 sh:∃bm,∀h:P4,K.In h->YA h C bm
 sa:SU K (.ref C) "__setattr__"=on (on (.builtin "object.__setattr__"))
 cd:∃cd,PySem.W.clsIn K C=on cd/\cd.hasDict=On/\vZ cd.mro=On
structure XMk (K:OU) (C f:Oq):Prop where
 xc:XC K C
 init:SU K (.ref C) "__init__"=on (on (.ref f))
 fn:isFn K (.ref f)=On
 kp:Uo K (.ref C)=On
end
section
variable{X:Cx}{CX:L3}{k:Nat}{f C:Oq}{fd:O5}{ps:List Pj}{sp:Sp}{dvs:List V}{ds:List Ov}{E:St->XK}{x m:Pj}{p pos apos:TD}{e o:Expr}{es:List Expr}{ta:TE}{t:TA}
structure Y0 (K:OU) (D:Oq) (m:Pj) (f:Oq):Prop where
 ga:specialIn K (.ref D) "__getattribute__"=on (on (.builtin "type.__getattribute__"))
 rd:PySem.W.readsIn K D (.type "type")=On
 fnd:PySem.W.findCls K (.ref D) (.type "type") m=on (.val (.ref f))
 kp:Uo K (.ref f)=On
end
section
variable{P:Pc}{w:Pk}{K:OU}{mg:Pj->Option Ov}{base:P4}{N:List Pj}{qual:Pj}{scope:Scope}{f:Oq}{cd:Ov}{A:PU}{outer:List VJ}{s:OB}{H:Hp}{E:XK}
theorem f7:cK (hO P w) (eF (hO P w) P w K mg base N qual scope f cd A outer s H E) (λ_=>E):=λa b c d e s' I h=>Jq (X:=eF (hO P w) P w K mg base N qual scope f cd A outer s H E) rfl rfl rfl (λ_ _ _ z=>z) I h
theorem rK:cK (hO P w) X E0:=λ_ _ _ _ _ _ _ h=>by
 obtain⟨_,_,_,_,F⟩:=h;exact F.wish.elim
theorem bT:PassesOwn (O4 P w) (A.deeper (SS qual scope s.heap.objs.size f cd)) (SS qual scope s.heap.objs.size f cd) (eF (hO P w) P w K mg base N qual scope f cd A outer s H E).xe:=PassesOwn.leaving
structure d5 (K:OU) (x qual:Pj) (st:Qe) (f:Oq) (fd:O5):Prop where
 ex:∃(oc:Ov) (od:Option Oq) (dV kV doc pm:Ov) (an:Option Oq) (cdv ct:Ov) (osl:Array (Option Ov)),
  fd=SI x qual (gZ st) (bX st) (af st) dV kV doc pm an cdv ct/\K.lookup f=on ⟨oc,od,.func fd,osl⟩/\Tl K cdv qual=On
 kp:Uo K (.ref f)=On
theorem JO{K:OU}{x qual:Pj}{st:Qe}{f:Oq}(l:K.lookup f=on ⟨oc,od,.func (SI x qual (gZ st) (bX st) (af st) dV kV doc pm an cdv ct),osl⟩)
  (c:Tl K cdv qual=On) (k:Uo K (.ref f)=On):d5 K x qual st f (SI x qual (gZ st) (bX st) (af st) dV kV doc pm an cdv ct):=⟨⟨oc,od,dV,kV,doc,pm,an,cdv,ct,osl,rfl,l,c⟩,k⟩
theorem d5.okE{x qual:Pj}{st:Qe}{f:Oq}{N ps:List Pj}(F:d5 K x qual st f fd)(S:c_ N ps (af st))(len:∀vs H Q E,sp vs H Q E->vs.length=ps.length)
  (b:∀(a:Ov) (A:PU) (outer:List VJ) (s:OB) (H:Hp) (vs:List V) (Q:VK) (E:XK),en k (A.deeper (SS qual (af st) s.heap.objs.size f a))->sp vs H Q E->
   ∃t,PSs (eF (hO P w) P w K mg base N qual (af st) f a A outer s H E) (bX st) t/\t {nx:=λ_ e=>Q .non e,rt:=Q} (eS N vs) H):fw P w K mg base (hO P w) (k+1) f fd ps sp:=by
 obtain⟨l,m,n,o,g,p,q,a,ct,h,rfl,i,c⟩:=F.ex;exact Iq i c S len λA outer s H vs Q E j d=>b a A outer s H vs Q E j d
theorem d5.ok{x qual:Pj}{st:Qe}{f:Oq}{N ps:List Pj}(F:d5 K x qual st f fd)(S:c_ N ps (af st))(len:∀vs H Q E,sp vs H Q E->vs.length=ps.length)
  (b:∀(a:Ov) (A:PU) (outer:List VJ) (s:OB) (H:Hp) (vs:List V) (Q:VK) (E:XK),en k (A.deeper (SS qual (af st) s.heap.objs.size f a))->sp vs H Q E->
   ∃t,PSs (eF (hO P w) P w K mg base N qual (af st) f a A outer s H E).nox (bX st) t/\t {nx:=λ_ e=>Q .non e,rt:=Q} (eS N vs) H):fw P w K mg base (hO P w) (k+1) f fd ps sp:=by
 obtain⟨m,n,o,p,g,r,u,a,ct,i,rfl,j,c⟩:=F.ex;refine Iq j c S len λA outer s H vs Q E l d=>?_;obtain⟨t,h,q⟩:=b a A outer s H vs Q E l d;exact⟨t,h.nox,q⟩
abbrev TJ:=St->Hp->Nat->(Nat->Hp->Prop)->Prop
variable{X:Cx}{es:List Expr}{t:TJ}{pos:TD}
theorem re(i:X.calm=On):cM X (.builtin "sum") (λxs H Q=>∃(a:Oq) (ns:List Int),xs=[.ref a]/\fy X.K H a (ns.map V.int)/\Q (.int ns.sum) H):=by
 intro b s o H xs us Q I r h;obtain⟨a,ns,rfl,j,q⟩:=h;cases r with
 |cons r1 k=>
  cases r1;cases k;obtain⟨its,l,p,u⟩:=I.list j;have c:=pz l;obtain⟨xs,ex⟩:=c.allInts.items;have d:=p.isList;rw[ex]at d;refine sum_intListG (I.ok.hd i) d λh' v t' m=>?_;have e:preSum (numAt xs) xs.size=ns.sum:=by
   have g:=c.numsOf;have n:its=(W6 xs).toList:=by rw[<-ex]
   rw[n,nums_intItems]at g;rw[preSum_eq,Q8 (by simp),g]
  rw[e];exact⟨.int ns.sum,H,I.kept m,⟨_,rfl⟩,q⟩
def sj(i j:Int):Prop:=0<j/\j.natAbs.log2<9000
theorem BX:g_ X (Rp .FloorDiv) (rI sj λi j=> .int (i/j)):=oD λi j _ _ _ _ _ a q=>by
 have b:(0:Int)<j:=a.1;refine floordiv_int (by omega) ?_ (.inl (VW a.2));rw[TV _ (by omega)];exact q
def YT(C:Int->Int->Prop)(f:Int->Int->Int):Zm:=λx y H Q=>∃i j,x= .int i/\y= .int j/\C i j/\Q (.int (f i j)) H
theorem JK:Zn X .FloorDiv (YT sj λi j=>i/j):=by
 intro a s d H x y v u Q I r1 b h;obtain⟨i,j,rfl,rfl,c,q⟩:=h;obtain⟨t,rfl⟩:=r1;obtain⟨t',rfl⟩:=b;have e:(0:Int)<j:=c.1;refine ifloordiv_int (by omega) ?_ (.inl (VW c.2));rw[TV _ (by omega)];exact⟨.int _,H,I.tok _,⟨_,rfl⟩,q⟩
theorem xV:∀{cs:List String} {us:List Ov},au (cs.map V.ty) us->us=cs.map Ru
 |[],_,r=>by cases r;rfl
 |c::cs,_,r=>by
  cases r with
  |cons r1 a=>
   cases r1;rw[xV a];rfl
theorem xD{K:OU}{xs:List V}{H:Hp}(Pv:Nat->St->Hp->Prop)(u:Pv 0 c H)(k:∀i c H,i<=xs.length->Pv i c H->fy K H a xs)
  (h:∀i x c H,xs[i]?=on x->Pv i c H->g x c H λd v=>tt d v λb r=>if b=On then tb d r (Pv (i+1))else Pv (i+1) d r) (l:∀c H,Pv xs.length c H->Q c H):cL (YZ K a) g tt tb c H Q:=by
 refine⟨λi m c H=>i<=xs.length/\m+i=xs.length/\Pv i c H,⟨xs.length,PV _,by omega,u⟩,λi m c H ⟨n,hm,j⟩=>?_⟩;by_cases o:i<xs.length
 .refine .inr ⟨⟨xs,xs[i],k i c H n j,Oo o⟩,Pv (i+1),λy p q=>⟨m-1,by omega,by omega,by omega,q⟩,λx p ⟨e,B⟩=>?_⟩
  subst e;exact h i x c p (B xs (k i c p n j)) j
 .obtain rfl:i=xs.length:=by omega
  exact .inl ⟨⟨xs,k _ c H n j,OD _⟩,l c H j⟩
theorem dt.plain{X:Cx}{scope:Scope}(k:scope.kind= .function)(nd:(scope.names.map (·.1)).Nodup)(f:∀y∈scope.names,y.2≠ .free):dt X scope dr dr []:=
 ⟨k,nd,λy a e=>OX e (f y a),by simp,λj b=>OX b (by simp)⟩
def sf(i j:Int):Prop:=i.natAbs<2^1000/\j.natAbs<2^1000
theorem iW{k:Int}(h:k.natAbs<2^1000):V3 k<=2^20:=by
 unfold V3;split
 .exact PV _
 .rename_i a
  have b:k.natAbs≠0:=by
   intro z;have:k=0:=Int.natAbs_eq_zero.mp z;subst this;simp at a
  have:=(Nat.log2_lt b).mpr h;have e:(2:Nat)^20=1048576:=by decide
  omega
theorem mr{X:Cx}:g_ X (Rp .Mult) (rI sf λi j=> .int (i*j)):=oD λ_ _ _ _ _ _ _ a q=>mul_int q (Xg (iW a.1) (iW a.2))
theorem bG.upd{H:Hp}(h:H a=Oi):bG H (upd H a o):=λb u e=>by rw[b_ (aw e h)];exact e
abbrev fh:=Int×List Int
noncomputable def hI(k:List Int):Int:=reduceHash (S7 (k.map hashInt))
def hB:Bool->fh->Int
 |true,k=>reduceHash (S7 [hashInt k.1,hI k.2])
 |false,k=>hI k.2
def xK(a:Oq)(b:Bool)(ep:Nat)(xs:List (fh×Oq×V))(h:P4):Prop:=
 ∃o es,∃ys:List (fh×Oq×Ov),h.get? a=on o/\o.ExactDict/\o.data= .dict es ep/\es.toList=ys.map (λy=>⟨hB b y.1,.ref y.2.1,y.2.2⟩)/\(ys.map (·.1)).Nodup/\(a==Tt)=Os/\ys.length<=OS/\
  TW (λ(x:fh×Oq×V) (y:fh×Oq×Ov)=>x.1=y.1/\x.2.1=y.2.1/\aI x.2.2 y.2.2) xs ys
noncomputable def bY(a:Oq)(b:Bool)(ep:Nat)(xs:List (fh×Oq×V)):HO:= .ext (xK a b ep xs)
theorem qq{P:Pc}{w:Pk}{b:Bool}{H:Hp}(S:xK a b ep xs h):bD P w H h a (bY a b ep xs):=by
 refine⟨S,?_,λc d z k=>?_⟩
 .obtain⟨o,_,_,e,_⟩:=S
  exact⟨o,e⟩
 .obtain⟨o,es,ys,e,r⟩:=z
  exact⟨o,es,ys,k _ e,r⟩
end
end L2
namespace L2.Pu
open PySem PySem.Spec PyProof.Rows
theorem lk{α d e:Sort _}{P Q R:α->d->e->Prop}{C:Prop}(h:∃a b c,P a b c/\Q a b c/\R a b c)(k:∀a b c,P a b c->Q a b c->R a b c->C):C:=by
 obtain⟨a,b,c,x,y,z⟩:=h;exact k a b c x y z
theorem o0{α c:Sort _}{P Q R:α->c->Prop}{C:Prop}(h:∃a b,P a b/\Q a b/\R a b)(k:∀a b,P a b->Q a b->R a b->C):C:=by
 obtain⟨a,b,x,y,z⟩:=h;exact k a b x y z
inductive D where
 |non|bl (b:Bool)|int (i:Int)|str (x:Pj)|ty (n:String)|txt
 |lst (xs:List D)|tup (xs:List D)|scr (xs:List Int)|obj (C:Oq) (ns:List Pj) (xs:List D)|bag|adr (a:Oq)|dct (b:Bool) (ks:List fh) (vs:List D)
structure Bg where
 cells:List Int
 i:Int
 j:Int
structure Fx where
 A:Oq->Prop
 bg:Option (Oq×Oq)
def KL(K:OU)(a:Oq)(xs:List V):Prop:=
 ∃(o:O7) (its:Array Ov) (n:Nat),K.lookup a=on o/\o.cls= .type "list"/\o.dict=Oi/\o.data= .seq its n/\its.size<=OS/\au xs its.toList
def KT(K:OU)(a:Oq)(xs:List V):Prop:=
 ∃(o:O7) (its:Array Ov) (n:Nat),K.lookup a=on o/\o.cls= .type "tuple"/\o.data= .seq its n/\its.size<=OS/\au xs its.toList
def TQ(K:OU)(F:Fx)(H:Hp)(c:Oq)(xs:List V):Prop:=(¬F.A c/\Rd H c (.tup xs))\/KT K c xs
def eG(K:OU)(F:Fx)(H:Hp):Bool->fh->Oq->Prop
 |true,k,c=>∃e,TQ K F H c [.int k.1,.ref e]/\TQ K F H e (k.2.map V.int)
 |false,k,c=>k.1=0/\TQ K F H c (k.2.map V.int)
mutual
noncomputable def c4(K:OU)(F:Fx)(H:Hp):D->V->Prop
 | .non,v=>v= .non
 | .bl b,v=>v= .bl b
 | .int i,v=>v= .int i
 | .str x,v=>v= .str x
 | .ty n,v=>v= .ty n
 | .txt,v=>∃z,v= .str z
 | .lst ds,v=>∃a xs,v= .ref a/\(¬F.A a/\Rd H a (.lst xs))/\bb K F H ds xs
 | .scr ns,v=>∃a,v= .ref a/\((¬F.A a/\Rd H a (.lst (ns.map V.int)))\/KL K a (ns.map V.int))
 | .tup ds,v=>∃a xs,v= .ref a/\((¬F.A a/\Rd H a (.tup xs))\/KT K a xs)/\bb K F H ds xs
 | .obj C ns ds,v=>∃a c xs,v= .ref a/\¬F.A a/\H a=on (.ins C c (ns.zip xs))/\ns.length=xs.length/\bb K F H ds xs
 | .bag,v=>∃b l,F.bg=on (b,l)/\v= .ref b
 | .adr a,v=>v= .ref a
 | .dct b ks vs,v=>∃a ep xs,v= .ref a/\(¬F.A a/\H a=on (bY a b ep xs))/\ks=xs.map (·.1)/\(∀x∈xs,eG K F H b x.1 x.2.1)/\bb K F H vs (xs.map (·.2.2))
noncomputable def bb(K:OU)(F:Fx)(H:Hp):List D->List V->Prop
 |[],xs=>xs=[]
 |d::ds,xs=>∃x r,xs=x::r/\c4 K F H d x/\bb K F H ds r
end
structure Tr (F:Fx) (H:Hp) (F2:Fx) (H2:Hp):Prop where
 av:∀a,¬F.A a->H a≠Oi->¬F2.A a
 kp:∀a o,¬F.A a->H a=on o->H2 a=on o
 bg:F2.bg=F.bg
theorem Tr.refl(F:Fx)(H:Hp):Tr F H F H:=⟨λ_ h _=>h,λ_ _ _ h=>h,rfl⟩
theorem Tr.trans(a:Tr F H F1 H1)(b:Tr F1 H1 F2 H2):Tr F H F2 H2:=
 ⟨λx c d=>b.av x (a.av x c d) (by
   cases q:H x with
   |none=>exact OX q d
   |some o=>rw[a.kp x o c q];simp),
  λx o c d=>b.kp x o (a.av x c (by rw[d];simp)) (a.kp x o c d),b.bg.trans a.bg⟩
theorem Rd.tr{F b:Fx}(t:Tr F H b H2)(h:¬F.A a)(r:Rd H a u):¬b.A a/\Rd H2 a u:=by
 rcases r with r|⟨o,r⟩
 .exact⟨t.av a h (by rw[r];simp),.inl (t.kp a _ h r)⟩
 .exact⟨t.av a h (by rw[r];simp),.inr ⟨o,t.kp a _ h r⟩⟩
theorem TQ.tr{K:OU}(t:Tr F H F2 H2)(h:TQ K F H c xs):TQ K F2 H2 c xs:=h.imp (λh=>Rd.tr t h.1 h.2) id
theorem eG.tr{K:OU}{b:Bool}(t:Tr F H F2 H2)(h:eG K F H b k c):eG K F2 H2 b k c:=by
 cases b with
 |true=>
  obtain⟨e,a,d⟩:=h;exact⟨e,a.tr t,d.tr t⟩
 |false=>exact⟨h.1,h.2.tr t⟩
mutual
theorem c4.tr{K:OU}(t:Tr F H F2 H2):∀(d:D) (v:V),c4 K F H d v->c4 K F2 H2 d v
 | .non,v,h=>h
 | .bl b,v,h=>h
 | .int i,v,h=>h
 | .str x,v,h=>h
 | .ty n,v,h=>h
 | .txt,v,h=>h
 | .lst ds,v,h=>by
  unfold c4 at h⊢;obtain⟨a,xs,e,c,f⟩:=h;exact⟨a,xs,e,Rd.tr t c.1 c.2,bb.tr t ds xs f⟩
 | .scr ns,v,h=>by
  unfold c4 at h⊢;obtain⟨a,e,c⟩:=h;exact⟨a,e,c.imp (λ⟨p,q⟩=>Rd.tr t p q) id⟩
 | .tup ds,v,h=>by
  unfold c4 at h⊢;obtain⟨a,xs,e,c,f⟩:=h;exact⟨a,xs,e,c.imp (λ⟨p,q⟩=>Rd.tr t p q) id,bb.tr t ds xs f⟩
 | .obj C ns ds,v,h=>by
  unfold c4 at h⊢;obtain⟨a,k,xs,e,c,f,g,j⟩:=h;exact⟨a,k,xs,e,t.av a c (by rw[f];simp),t.kp a _ c f,g,bb.tr t ds xs j⟩
 | .bag,v,h=>by
  unfold c4 at h⊢;rw[t.bg];exact h
 | .adr a,v,h=>by
  unfold c4 at h⊢;exact h
 | .dct b ks vs,v,h=>by
  unfold c4 at h⊢;obtain⟨a,ep,xs,e,c,f,g,j⟩:=h;exact⟨a,ep,xs,e,⟨t.av a c.1 (by rw[c.2];simp),t.kp a _ c.1 c.2⟩,f,λx l=>(g x l).tr t,bb.tr t vs _ j⟩
theorem bb.tr{K:OU}(t:Tr F H F2 H2):∀(ds:List D) (xs:List V),bb K F H ds xs->bb K F2 H2 ds xs
 |[],xs,h=>h
 |d::ds,xs,h=>by
  unfold bb at h⊢;obtain⟨x,r,e,a,b⟩:=h;exact⟨x,r,e,c4.tr t d x a,bb.tr t ds r b⟩
end
section
variable{K:OU}{F:Fx}{H:Hp}
theorem bb.nil:bb K F H [] []:=rfl
theorem bb.cons(h:c4 K F H d x)(t:bb K F H ds xs):bb K F H (d::ds) (x::xs):=⟨x,xs,rfl,h,t⟩
theorem bb.length:∀{ds:List D} {xs:List V},bb K F H ds xs->ds.length=xs.length
 |[],xs,h=>by have e:xs=[]:=h;subst e;rfl
 |d::ds,xs,h=>by
  obtain⟨x,r,e,_,a⟩:=h;subst e;rw[OO,OO,bb.length a]
theorem bb.get:∀{ds:List D} {xs:List V} {i:Nat} {d:D},bb K F H ds xs->ds[i]?=on d->∃x,xs[i]?=on x/\c4 K F H d x
 |[],_,_,_,_,e=>by simp at e
 |c::ds,xs,0,d,h,e=>by
  obtain⟨x,r,q,a,b⟩:=h;subst q;simp at e;subst e;exact⟨x,rfl,a⟩
 |c::ds,xs,i+1,d,h,e=>by
  obtain⟨x,r,q,a,b⟩:=h;subst q;obtain⟨y,f,g⟩:=bb.get (i:=i) (d:=d) b (by simpa using e);exact⟨y,by simpa using f,g⟩
theorem bb.getV:∀{ds:List D} {xs:List V} {i:Nat} {x:V},bb K F H ds xs->xs[i]?=on x->∃d,ds[i]?=on d/\c4 K F H d x
 |[],xs,_,_,h,e=>by have q:xs=[]:=h;subst q;simp at e
 |c::ds,xs,0,d,h,e=>by
  obtain⟨x,r,q,a,b⟩:=h;subst q;simp at e;subst e;exact⟨c,rfl,a⟩
 |c::ds,xs,i+1,d,h,e=>by
  obtain⟨x,r,q,a,b⟩:=h;subst q;obtain⟨y,f,g⟩:=bb.getV (i:=i) (x:=d) b (by simpa using e);exact⟨y,by simpa using f,g⟩
theorem bb.append:∀{ds es:List D} {xs ys:List V},bb K F H ds xs->bb K F H es ys->bb K F H (ds++es) (xs++ys)
 |[],_,xs,_,h,h'=>by have q:xs=[]:=h;subst q;exact h'
 |c::ds,es,xs,ys,h,h'=>by
  obtain⟨x,r,q,a,b⟩:=h;subst q;exact⟨x,r++ys,rfl,a,bb.append b h'⟩
theorem bb.take:∀{ds:List D} {xs:List V} (n:Nat),bb K F H ds xs->bb K F H (ds.take n) (xs.take n)
 |[],xs,n,h=>by have q:xs=[]:=h;subst q;simp;rfl
 |c::ds,xs,0,h=>by simp;rfl
 |c::ds,xs,n+1,h=>by
  obtain⟨x,r,q,a,b⟩:=h;subst q;exact⟨x,r.take n,rfl,a,bb.take n b⟩
theorem bb.drop:∀{ds:List D} {xs:List V} (n:Nat),bb K F H ds xs->bb K F H (ds.drop n) (xs.drop n)
 |[],xs,n,h=>by have q:xs=[]:=h;subst q;simp;rfl
 |c::ds,xs,0,h=>h
 |c::ds,xs,n+1,h=>by
  obtain⟨x,r,q,b,a⟩:=h;subst q;exact bb.drop n a
theorem bb.set:∀{ds:List D} {xs:List V} (i:Nat) {d:D} {x:V},bb K F H ds xs->c4 K F H d x->bb K F H (ds.set i d) (xs.set i x)
 |[],xs,i,_,_,h,_=>by have q:xs=[]:=h;subst q;simp;rfl
 |c::ds,xs,0,d,x,h,hd=>by
  obtain⟨y,r,q,b,a⟩:=h;subst q;exact⟨x,r,rfl,hd,a⟩
 |c::ds,xs,i+1,d,x,h,hd=>by
  obtain⟨y,r,q,b,a⟩:=h;subst q;exact⟨y,r.set i x,rfl,b,bb.set i a hd⟩
theorem c4.sqL(h:c4 K F H (.lst ds) v):∃a xs,v= .ref a/\fy K H a xs/\bb K F H ds xs:=by
 unfold c4 at h;obtain⟨a,xs,e,b,c⟩:=h;exact⟨a,xs,e,.inl b.2,c⟩
theorem c4.rdL(h:c4 K F H (.lst ds) v):∃a xs,v= .ref a/\Rd H a (.lst xs)/\bb K F H ds xs:=by
 unfold c4 at h;obtain⟨a,xs,e,b,c⟩:=h;exact⟨a,xs,e,b.2,c⟩
theorem c4.scr{ns:List Int}(h:c4 K F H (.scr ns) v):∃a,v= .ref a/\fy K H a (ns.map V.int):=by
 unfold c4 at h;obtain⟨a,e,b⟩:=h;exact⟨a,e,b.imp (λp=>p.2) id⟩
theorem c4.sqT(h:c4 K F H (.tup ds) v):∃a xs,v= .ref a/\jn K H a xs/\bb K F H ds xs:=by
 unfold c4 at h;obtain⟨a,xs,e,b,c⟩:=h;exact⟨a,xs,e,b.imp (λp=>p.2) id,c⟩
theorem c4.int(h:c4 K F H (.int i) v):v= .int i:=h
theorem c4.bl{i:Bool}(h:c4 K F H (.bl i) v):v= .bl i:=h
theorem c4.str(h:c4 K F H (.str i) v):v= .str i:=h
theorem c4.non(h:c4 K F H .non v):v= .non:=h
theorem c4.ty(h:c4 K F H (.ty n) v):v= .ty n:=h
theorem bb.ints:∀(ns:List Int) {xs:List V},bb K F H (ns.map D.int) xs->xs=ns.map V.int
 |[],xs,h=>h
 |n::ns,xs,h=>by
  obtain⟨x,r,e,a,b⟩:=h;rw[e,bb.ints ns b];have q:x= .int n:=a;rw[q];rfl
theorem bb.ofInts:∀(ns:List Int),bb K F H (ns.map D.int) (ns.map V.int)
 |[]=>rfl
 |n::ns=>⟨.int n,ns.map V.int,rfl,rfl,bb.ofInts ns⟩
structure Fr (F:Fx) (H:Hp) (β:Bg):Prop where
 occ:∀a,F.A a->H a≠Oi
 bgA:∀b l,F.bg=on (b,l)->F.A b/\F.A l/\b≠l
 bag:∀b l,F.bg=on (b,l)->H b=on (.lst [.ref l,.int β.i,.int β.j])/\H l=on (.lst (β.cells.map V.int))
structure To (F:Fx) (H H':Hp) (β':Bg):Prop where
 kp:∀a o,H a=on o->(∀b l,F.bg=on (b,l)->a≠b/\a≠l)->H' a=on o
 fr:Fr F H' β'
theorem To.refl{F:Fx}{H:Hp}(fr:Fr F H β):To F H H β:=⟨λ_ _ h _=>h,fr⟩
theorem To.trans{F:Fx}{H c d:Hp}(a:To F H c β1)(b:To F c d β2):To F H d β2:=⟨λx o h n=>b.kp x o (a.kp x o h n) n,b.fr⟩
theorem Fr.same{F:Fx}{H c:Hp}(fr:Fr F H β)(s:bG H c):To F H c β:=
 ⟨λa o h _=>s a o h,⟨λa h q=>(by
  cases e:H a with
  |none=>exact fr.occ a h e
  |some o=>exact OX ((s a o e).symm.trans q) (by simp)),fr.bgA,λb l e=>⟨s _ _ (fr.bag b l e).1,s _ _ (fr.bag b l e).2⟩⟩⟩
theorem Fr.upd{F:Fx}{H:Hp}(fr:Fr F H β)(o:HO)(h:H p=Oi):To F H (upd H p o) β:=fr.same (bG.upd h)
theorem Fr.fresh{F:Fx}{H:Hp}(fr:Fr F H β)(h:H p=Oi):¬F.A p:=λq=>fr.occ p q h
theorem To.tr{F:Fx}{H c:Hp}(fr:Fr F H β)(t:To F H c β'):Tr F H F c:=
 ⟨λ_ h _=>h,λa o h e=>t.kp a o e λb l q=>⟨λz=>h (z▸(fr.bgA b l q).1),λz=>h (z▸(fr.bgA b l q).2.1)⟩,rfl⟩
abbrev Dn:=List (Option D)
structure j2 (K:OU) (F:Fx) (H:Hp) (δ:Dn) (σ:St):Prop where
 len:δ.length=σ.length
 tell:∀(i:Nat) (d:D),δ[i]?=on (on d)->∃v,σ[i]?=on (on v)/\c4 K F H d v
theorem j2.tr{K:OU}{F a:Fx}{H b:Hp}(t:Tr F H a b)(h:j2 K F H δ σ):j2 K a b δ σ:=⟨h.len,λi d e=>let ⟨v,h1,h2⟩:=h.tell i d e;⟨v,h1,c4.tr t d v h2⟩⟩
theorem j2.set{K:OU}{F:Fx}{H:Hp}{δ:Dn}{a:St}(h:j2 K F H δ a)(hd:c4 K F H d v):j2 K F H (δ.set i (on d)) (a.set i (on v)):=by
 refine⟨by rw[Pl,Pl,h.len],λj c e=>?_⟩;rw[Pp]at e;rw[Pp];by_cases q:i=j
 .subst q
  rw[OA rfl]at e⊢;split at e
  .rename_i b
   cases e;rw[OA (by rw[<-h.len];exact b)];exact⟨v,rfl,hd⟩
  .cases e
 .rw[Ot q]at e⊢
  exact h.tell j c e
def Sub(δ δ1:Dn):Prop:=∀(i:Nat) (d:D),δ[i]?=on (on d)->δ1[i]?=on (on d)
theorem j2.sub{K:OU}{F:Fx}{H:Hp}{δ δ1:Dn}(h:j2 K F H δ1 σ)(s:Sub δ δ1)(l:δ.length=δ1.length):j2 K F H δ σ:=⟨l.trans h.len,λi d e=>h.tell i d (s i d e)⟩
abbrev M(α:Type):=Bg->Option (Except Oq α×Bg)
noncomputable def M.ret{α:Type}(a:α):M α:=λβ=>on (.ok a,β)
noncomputable def M.bind{α b:Type}(m:M α)(k:α->M b):M b:=λβ=>match m β with
 |none=>Oi
 |some (.error C,β1)=>on (.error C,β1)
 |some (.ok a,β1)=>k a β1
noncomputable def M.ofO{α:Type}(o:Option α):M α:=λβ=>match o with
 |some a=>on (.ok a,β)
 |none=>Oi
noncomputable def M.fail{α:Type}:M α:=λ_=>Oi
theorem M.bind_some{α b:Type}(a:α)(k:α->M b):M.bind (M.ofO (on a)) k=k a:=rfl
theorem M.bind_ok{α b:Type}{m:M α}{k:α->M b}{β β1:Bg}{a:α}(h:m β=on (.ok a,β1)):M.bind m k β=k a β1:=by unfold M.bind;rw[h]
theorem M.bind_err{α a:Type}{m:M α}{k:α->M a}{β β1:Bg}{C:Oq}(h:m β=on (.error C,β1)):M.bind m k β=on (.error C,β1):=by unfold M.bind;rw[h]
def run{α c:Type}(R:Hp->α->c->Prop)(F:Fx)(E:St->XK)(e:St)(m:M α)(H:Hp)(Q:c->Hp->Prop)(β:Bg):Prop:=
 ∃r a,m β=on (r,a)/\match r with
  | .ok d=>∀v b,To F H b a->R b d v->Q v b
  | .error C=>∀b,To F H b a->E e (.ref C) Oi b
theorem run.mono{α c:Type}{R:Hp->α->c->Prop}{F:Fx}{E:St->XK}{g:St}{m:M α}{H:Hp}{Q i:c->Hp->Prop}{β:Bg}(h:run R F E g m H Q β)(f:∀v a,Q v a->i v a):run R F E g m H i β:=by
 obtain⟨r,b,e,h⟩:=h;refine⟨r,b,e,?_⟩;cases r with
 |ok d=>exact λv a t q=>f v a (h v a t q)
 |error C=>exact h
theorem run.bind{α l i j:Type}{R:Hp->α->l->Prop}{R2:Hp->i->j->Prop}{F:Fx}{E:St->XK}{b:St}{m:M α}{k:α->M i}{H:Hp}{Q:j->Hp->Prop}{β:Bg}(h:run R2 F E b (M.bind m k) H Q β):
  run R F E b m H (λv a=>∃d β1,To F H a β1/\R a d v/\run R2 F E b (k d) a Q β1) β:=by
 obtain⟨r,c,e,h⟩:=h;cases q:m β with
 |none=>unfold M.bind at e;rw[q]at e;cases e
 |some z=>
  obtain⟨r1,β1⟩:=z;refine⟨r1,β1,q,?_⟩;cases r1 with
  |error C=>
   rw[M.bind_err q]at e;cases e;exact h
  |ok d=>
   rw[M.bind_ok q]at e;intro v a t hd;refine⟨d,β1,t,hd,r,c,e,?_⟩;cases r with
   |ok d2=>exact λn f g o=>h n f (t.trans g) o
   |error C=>exact λf g=>h f (t.trans g)
theorem run.ret{α b:Type}{R:Hp->α->b->Prop}{F:Fx}{E:St->XK}{c:St}{a:α}{v:b}{H:Hp}{Q:b->Hp->Prop}{β:Bg}(fr:Fr F H β)(h:run R F E c (M.ret a) H Q β)(r:R H a v):Q v H:=by
 obtain⟨_,_,e,h⟩:=h;cases e;exact h v H (To.refl fr) r
theorem run.ofO{α c:Type}{R:Hp->α->c->Prop}{F:Fx}{E:St->XK}{d:St}{o:Option α}{H:Hp}{Q:c->Hp->Prop}{β:Bg}(h:run R F E d (M.ofO o) H Q β):∃a,o=on a/\∀v b,To F H b β->R b a v->Q v b:=by
 obtain⟨_,_,e,h⟩:=h;cases o with
 |none=>cases e
 |some a=>cases e;exact⟨a,rfl,h⟩
abbrev FD:=Dn->M D
abbrev FL:=Dn->M (List D)
def tV(K:OU)(f:FD)(E:St->XK):TE:=λa H Q=>∃F δ β,Fr F H β/\j2 K F H δ a/\run (c4 K F) F E a (f δ) H Q β
def j1(K:OU)(f:FL)(E:St->XK):TA:=λa H Q=>∃F δ β,Fr F H β/\j2 K F H δ a/\run (bb K F) F E a (f δ) H Q β
def hE(K:OU)(f:Dn->M Bool)(E:St->XK):TT:=λc H Q=>∃F δ β,Fr F H β/\j2 K F H δ c/\run (λ_ (a b:Bool)=>b=a) F E c (f δ) H Q β
theorem _root_.L2.PE.imp(h:PE X e t)(f:∀a H Q,t' a H Q->t a H Q):PE X e t':=λb s a H Q I q=>h b s a H Q I (f a H Q q)
theorem _root_.L2.PT.imp(h:PT X e t)(f:∀a H Q,t' a H Q->t a H Q):PT X e t':=λb s a H Q I q=>h b s a H Q I (f a H Q q)
theorem _root_.L2.PW.imp(h:PW X e t)(f:∀a H Q,t' a H Q->t a H Q):PW X e t':=λc b s a H Q I q=>h c b s a H Q I (f a H Q q)
theorem _root_.L2.PA.imp(h:PA X e t)(f:∀a H Q,t' a H Q->t a H Q):PA X e t':=λpos b s a H Q I q=>h pos b s a H Q I (f a H Q q)
def ah(i:Nat):FD:=λδ=>M.ofO (δ.getD i Oi)
def fC(d:D):FD:=λ_=>M.ret d
def f1(op:D->Option D)(f:FD):FD:=λδ=>M.bind (f δ) λa=>M.ofO (op a)
def f2(op:D->D->Option D)(f g:FD):FD:=λδ=>M.bind (f δ) λa=>M.bind (g δ) λb=>M.ofO (op a b)
noncomputable def aF:FL:=λ_=>M.ret []
def ag(f:FD)(g:FL):FL:=λδ=>M.bind (f δ) λa=>M.bind (g δ) λas=>M.ret (a::as)
def aP(op:List D->Option D)(g:FL):FD:=λδ=>M.bind (g δ) λas=>M.ofO (op as)
def eV(m:List D->M D)(g:FL):FD:=λδ=>M.bind (g δ) λas=>m as
variable{X:Cx}{E:St->XK}{e a b:Expr}{es:List Expr}{pos:TD}
theorem M9(i:Nat)(h:PE X (.Name x pos) (jI i)):PE X (.Name x pos) (tV X.K (ah i) E):=h.imp λl H Q c=>by
 obtain⟨F,δ,β,fr,f,r⟩:=c;obtain⟨d,e,r⟩:=run.ofO r;have g:δ[i]?=on (on d):=by
  rw[Om]at e;cases q:δ[i]? with
  |none=>rw[q]at e;cases e
  |some z=>rw[q]at e;simp at e;rw[e]
 obtain⟨v,j,k⟩:=f.tell i d g;exact⟨v,j,r v H (To.refl fr) k⟩
theorem rx(h:PE X e (tC v))(hd:∀F H,c4 X.K F H d v):PE X e (tV X.K (fC d) E):=h.imp λf H Q c=>by obtain⟨F,δ,β,fr,g,r⟩:=c;exact run.ret fr r (hd F H)
theorem ao{i j pos}:PE X (.Constant (.int i) j pos) (tV X.K (fC (.int i)) E):=rx bL λ_ _=>rfl
theorem m8{i j pos}:PE X (.Constant (.bool i) j pos) (tV X.K (fC (.bl i)) E):=rx Nz λ_ _=>rfl
theorem wk{j pos}:PE X (.Constant .none j pos) (tV X.K (fC .non) E):=rx K4 λ_ _=>rfl
theorem e9:PA X [] (j1 X.K aF E):=ii.imp λd H Q c=>by obtain⟨F,δ,β,fr,f,r⟩:=c;exact run.ret fr r bb.nil
theorem lY(ha:PE X e (tV X.K f E))(k:PA X es (j1 X.K g E))(hs:OJ (e::es) X.env=(Os,PZ e X.env)::OJ es X.env:=by rfl):PA X (e::es) (j1 X.K (ag f g) E):=
 (d9 ha k hs).imp λm H Q c=>lk c λF δ β fr i r=>⟨F,δ,β,fr,i,(run.bind (R:=c4 X.K F) r).mono λv n ⟨d,β1,t,hd,r1⟩=>
  ⟨F,δ,β1,t.fr,i.tr (t.tr fr),(run.bind (R:=bb X.K F) r1).mono λvs o c=>o0 c λds β2 j h l=>run.ret j.fr l (bb.cons (c4.tr (j.tr t.fr) _ _ hd) h)⟩⟩
def aX(K:OU)(r:R2)(op:D->D->Option D):Prop:=∀(F:Fx) (H:Hp) (β:Bg) (Q:VK) (d1 d2 d:D) (f g:V),Fr F H β->c4 K F H d1 f->c4 K F H d2 g->op d1 d2=on d->
 (∀v c,To F H c β->c4 K F c d v->Q v c)->r f g H Q
def IA(K:OU)(r:V->Hp->VK->Prop)(op:D->Option D):Prop:=∀(F:Fx) (H:Hp) (β:Bg) (Q:VK) (d1 d:D) (f:V),Fr F H β->c4 K F H d1 f->op d1=on d->
 (∀v c,To F H c β->c4 K F c d v->Q v c)->r f H Q
def dD(K:OU)(r:List V->Hp->VK->Prop)(op:List D->Option D):Prop:=∀(F:Fx) (H:Hp) (β:Bg) (Q:VK) (ds:List D) (d:D) (vs:List V),Fr F H β->bb K F H ds vs->op ds=on d->
 (∀v c,To F H c β->c4 K F c d v->Q v c)->r vs H Q
theorem ox{K:OU}(l:aX K r op){H:Hp}(h:tV K (f2 op f g) E σ H Q):Wi r (tV K f E) (tV K g E) σ H Q:=by
 obtain⟨F,δ,β,fr,j,h⟩:=h;refine⟨F,δ,β,fr,j,(run.bind (R:=c4 K F) h).mono λv u c=>o0 c λd β1 t hd r1=>⟨F,δ,β1,t.fr,j.tr (t.tr fr),(run.bind (R:=c4 K F) r1).mono λn o c=>o0 c λd2 β2 m i p=>?_⟩⟩;obtain⟨d3,q,k⟩:=run.ofO p;exact l F o β2 Q d d2 d3 v n m.fr (c4.tr (m.tr t.fr) _ _ hd) i q k
theorem bc(c:g_ X (Rp op) r)(l:aX X.K r o)(ha:PE X a (tV X.K f E))(d:PE X b (tV X.K g E)):PE X (.BinOp a op b pos) (tV X.K (f2 o f g) E):=
 (dA c ha d).imp λ_ _ _=>ox l
theorem l5(c:g_ X (P6 op) r)(l:aX X.K r o)(ha:PE X a (tV X.K f E))(d:PE X b (tV X.K g E))(hm:Tx op b=Os:=by first|exact tQ _|rfl):PE X (.Compare a [op] [b] pos) (tV X.K (f2 o f g) E):=
 (Jp c ha d hm).imp λ_ _ _=>ox l
theorem AO(g:Zk X (unaryOp op) r)(l:IA X.K r o)(ha:PE X a (tV X.K f E)):PE X (.UnaryOp op a pos) (tV X.K (f1 o f) E):=
 (Ny g ha).imp λm H Q c=>lk c λF δ β fr i h=>⟨F,δ,β,fr,i,(run.bind (R:=c4 X.K F) h).mono λv j c=>o0 c λd β1 t hd r1=>let ⟨d3,e3,k⟩:=run.ofO r1;l F j β1 Q d d3 v t.fr hd e3 k⟩
theorem bA(c:K_ X r)(l:aX X.K r o)(ha:PE X a (tV X.K f E))(d:PE X b (tV X.K g E))(hs:we b:=by exact λ_ _=>rfl):PE X (.Subscript a b pos) (tV X.K (f2 o f g) E):=
 (ft c ha d hs).imp λ_ _ _=>ox l
theorem ya{K:OU}(l:dD K r op){H:Hp}(h:tV K (aP op g) E σ H Q):ZB r (j1 K g E) σ H Q:=by
 obtain⟨F,δ,β,fr,c,h⟩:=h;refine⟨F,δ,β,fr,c,(run.bind (R:=bb K F) h).mono λv f i=>o0 i λd β1 t hd r1=>?_⟩;obtain⟨d3,j,k⟩:=run.ofO r1;exact l F f β1 Q d d3 v t.fr hd j k
theorem bE{f:String}(h:cM X (.builtin f) r)(l:dD X.K r op)(i:Gl X x)(hm:X.mg x=Oi)(j:SC x=on (.builtin f))(ha:PA X (e::es) (j1 X.K g E))(hn:x≠"__name__":=by decide)(c:(x==("__debug__":Pj))=Os:=by decide)
  (k:OJ (e::es) X.env=(Os,PZ e X.env)::OJ es X.env:=by rfl) (d:(QX pos (OJ es X.env)).any (·.1)=Os:=by rfl):PE X (.Call (.Name x p) (e::es) [] pos) (tV X.K (aP op g) E):=
 (jP h i hm j ha hn c k d).imp λ_ _ _=>ya l
theorem cj(f:cM X (.type T) r)(l:dD X.K r op)(h:Gl X x)(hm:X.mg x=Oi)(i:SC x=on (.type T))(ha:PA X (e::es) (j1 X.K g E))(hn:x≠"__name__":=by decide)(c:(x==("__debug__":Pj))=Os:=by decide)
  (j:OJ (e::es) X.env=(Os,PZ e X.env)::OJ es X.env:=by rfl) (d:(QX pos (OJ es X.env)).any (·.1)=Os:=by rfl):PE X (.Call (.Name x p) (e::es) [] pos) (tV X.K (aP op g) E):=
 (yP f h hm i ha hn c j d).imp λ_ _ _=>ya l
noncomputable def fE(ds:List D):Option D:=if ds.length<=OS then on (.tup ds)else Oi
noncomputable def jV(ds:List D):Option D:=if ds.length<=OS then on (.lst ds)else Oi
theorem c4.newT{K:OU}{F:Fx}{H:Hp}(fr:Fr F H β)(h:H p=Oi)(hd:bb K F H ds xs):c4 K F (upd H p (.tup xs)) (.tup ds) (.ref p):=
 ⟨p,xs,rfl,.inl ⟨fr.fresh h,.inl aj⟩,bb.tr ((fr.upd _ h).tr fr) _ _ hd⟩
theorem c4.newL{K:OU}{F:Fx}{H:Hp}(fr:Fr F H β)(h:H p=Oi)(hd:bb K F H ds xs):c4 K F (upd H p (.lst xs)) (.lst ds) (.ref p):=
 ⟨p,xs,rfl,⟨fr.fresh h,.inl aj⟩,bb.tr ((fr.upd _ h).tr fr) _ _ hd⟩
theorem cc{x1}(h:PA X es (j1 X.K g E)):PE X (.Tuple es x1 pos) (tV X.K (aP fE g) E):=
 (K1 h).imp λj H Q d=>lk d λF δ β fr i r=>⟨F,δ,β,fr,i,(run.bind (R:=bb X.K F) r).mono λvs l d=>by
  obtain⟨ds,β1,t,hd,r1⟩:=d;obtain⟨d3,c,k⟩:=run.ofO r1;unfold fE at c;split at c
  .cases c
   exact⟨by rw[<-hd.length];assumption,λp f=>k _ _ (t.fr.upd _ f) (c4.newT t.fr f hd)⟩
  .cases c⟩
theorem eM(h:PA X es (j1 X.K g E)):PE X (.List es pos) (tV X.K (aP jV g) E):=
 (dR h).imp λj H Q d=>lk d λF δ β fr i r=>⟨F,δ,β,fr,i,(run.bind (R:=bb X.K F) r).mono λvs l d=>by
  obtain⟨ds,β1,t,hd,r1⟩:=d;obtain⟨d3,c,k⟩:=run.ofO r1;unfold jV at c;split at c
  .cases c
   exact⟨by rw[<-hd.length];assumption,λp f=>k _ _ (t.fr.upd _ f) (c4.newL t.fr f hd)⟩
  .cases c⟩
def F3(K:OU)(n:Nat)(m:List D->M D):Sp:=λvs H Q E=>vs.length=n/\∃F ds β,Fr F H β/\bb K F H ds vs/\run (c4 K F) F (λ_=>E) [] (m ds) H Q β
variable{p:TD}{x:Pj}{k n:Nat}{f:Oq}{fd:O5}{ps:List Pj}
theorem run.toE{α c:Type}{R:Hp->α->c->Prop}{F:Fx}{E:St->XK}{d:St}{m:M α}{H:Hp}{Q:c->Hp->Prop}{β:Bg}(h:run R F E d m H Q β):run R F (λ_=>E d) [] m H Q β:=h
theorem xU(G:fw X.prog X.w X.K X.mg X.base (hO X.prog X.w) k f fd ps (F3 X.K n m))(q:en k X.A)(u:Gl X x)(hm:X.mg x=on (.ref f))(v:Uo X.K (.ref f)=On)(y:aC X.K fd ps [])(B:cK (hO X.prog X.w) X E)
  (ha:PA X (e::es) (j1 X.K g E)) (hn:∀δ β r h,g δ β=on (.ok r,h)->r.length=n) (c:(x==("__debug__":Pj))=Os:=by decide) (I:OJ (e::es) X.env=(Os,PZ e X.env)::OJ es X.env:=by rfl) (d:(QX pos (OJ es X.env)).any (·.1)=Os:=by rfl):
  PE X (.Call (.Name x p) (e::es) [] pos) (tV X.K (eV m g) E):=
 (mo G q u hm v y .nil B ha c I d).imp λT H Q J=>lk J λF δ β fr L r=>⟨F,δ,β,fr,L,by
  obtain⟨r0,i,l,o⟩:=run.bind (R:=bb X.K F) r;refine⟨r0,i,l,?_⟩;cases r0 with
  |error C=>exact o
  |ok ds=>
   intro vs N t hd;obtain⟨d',β1,O,j,r1⟩:=o vs N t hd;have P:=hn _ _ _ _ l;refine⟨by rw[Pf,<-hd.length,P],F,d',β1,O.fr,by rw[Pf];exact j,run.toE r1⟩⟩
theorem FZ{r:List D}(h:aF δ β=on (.ok r,β')):r.length=0:=by cases h;rfl
theorem aS{f:FD}{n:Nat}(d:∀δ β r c,g δ β=on (.ok r,c)->r.length=n):∀δ β r c,ag f g δ β=on (.ok r,c)->r.length=n+1:=by
 intro δ β r c h;unfold ag M.bind at h;split at h
 .cases h
 .cases h
 .dsimp only at h
  split at h
  .cases h
  .cases h
  .rename_i as _ i
   cases h;rw[OO,d _ _ _ _ i]
noncomputable def oD(g:Int->Int->Option D):D->D->Option D
 | .int i,.int j=>g i j
 |_,_=>Oi
theorem ij{a b d:D}(h:oD g a b=on d):∃i j,a= .int i/\b= .int j/\g i j=on d:=by
 cases a<;>cases b<;>first|(exact⟨_,_,rfl,rfl,h⟩)|(cases h)
theorem zn{g:Int->Int->Int}:aX K (q9 λi j=> .int (g i j)) (oD λi j=>on (.int (g i j))):=λF H β Q d1 d2 d l m fr c h e k=>by
 obtain⟨i,j,rfl,rfl,e⟩:=ij e;cases e;exact⟨i,j,c,h,k _ H (To.refl fr) rfl⟩
theorem gO{g:Int->Int->Bool}:aX K (q9 λi j=> .bl (g i j)) (oD λi j=>on (.bl (g i j))):=λF H β Q d1 d2 d l m fr c h e k=>by
 obtain⟨i,j,rfl,rfl,e⟩:=ij e;cases e;exact⟨i,j,c,h,k _ H (To.refl fr) rfl⟩
theorem qT{C:Int->Int->Prop}{c:Int->Int->Bool}{g:Int->Int->Int}(l:∀i j,c i j=On->C i j):aX K (rI C λi j=> .int (g i j)) (oD λi j=>if c i j=On then on (.int (g i j))else Oi):=λF H β Q d1 d2 d q r fr m o e k=>by
 obtain⟨i,j,rfl,rfl,h⟩:=ij e;split at h
 .cases h
  exact⟨i,j,m,o,l _ _ (by assumption),k _ H (To.refl fr) rfl⟩
 .cases h
noncomputable def gb(i:Int):Bool:=decide (i.natAbs<2^1000)
def ZC:D->D->Option D:=oD λi j=>on (.int (i-j))
def xx:D->D->Option D:=oD λi j=>if(decide (0<j)&&decide (j.natAbs.log2<9000))=On then on (.int (i/j))else Oi
def YR:D->D->Option D:=oD λi j=>on (.bl (decide (i<j)))
def X_:D->D->Option D:=oD λi j=>on (.bl (decide (i<=j)))
def gtD:D->D->Option D:=oD λi j=>on (.bl (decide (j<i)))
def Z3:D->D->Option D:=oD λi j=>on (.bl (decide (j<=i)))
theorem gQ:aX K (q9 λi j=> .int (i-j)) ZC:=zn
theorem qj:aX K (q9 λi j=> .bl (decide (i<j))) YR:=gO
theorem nP:aX K (q9 λi j=> .bl (decide (i<=j))) X_:=gO
theorem xa:aX K (q9 λi j=> .bl (decide (j<i))) gtD:=gO
theorem ZQ:aX K (q9 λi j=> .bl (decide (j<=i))) Z3:=gO
theorem Lw:aX K (rI sj λi j=> .int (i/j)) xx:=qT λi j h=>by
 simp only[O9,Po]at h;exact h
noncomputable def wJ:R2:=λx y H Q=>∃l b xs c,x= .ref l/\y= .ref b/\Rd H l (.lst xs)/\Rd H b (.lst c)/\xs.length+c.length<=OS/\∀p,H p=Oi->Q (.ref p) (upd H p (.lst (xs++c)))
theorem Jt:g_ X (Rp .Add) wJ:=by
 intro d s t H x y v u Q I i j h;obtain⟨l,b,xs,w,rfl,rfl,m,hB,A,q⟩:=h;cases i;cases j;obtain⟨z,its,n,r,e⟩:=m.ok I.hok;obtain⟨B,c,C,g,o⟩:=hB.ok I.hok;have J:=r.length;have L:=g.length;refine Xw e o ?_ (by simp only[OR];omega);rw[show its.toArray++c.toArray=(its++c).toArray by simp];exact⟨.ref _,_,I.lnew (t':=s.toks) (r.append g) (by rw[ON];omega),rfl,q _ I.fresh⟩
def wK(K:OU):R2:=λx y H Q=>∃a b ys,x= .ref a/\y= .ref b/\jn K H a []/\jn K H b ys/\Q (.ref b) H
theorem Ju:g_ X (Rp .Add) (wK X.K):=by
 intro l s O H x y v u Q I t w h;obtain⟨a,b,ys,rfl,rfl,ha,A,q⟩:=h;cases t;cases w;obtain⟨its,r1,B,_⟩:=I.tuple ha;obtain⟨m,P,C,_⟩:=I.tuple A;cases r1;obtain⟨⟨c1,d1,J,i⟩,o,r,n,hd⟩:=B;obtain⟨⟨c2,d2,L,j⟩,c,d,N,g⟩:=C;simp only at r hd d g;subst r hd d g;exact PySem.concat_meets ⟨_,o,rfl⟩ ⟨_,c,rfl⟩ Wl XE Ul Ub (TX _ _) (tuple_addW0 a b _ _ n N d1 d2 i j (by simp)) ⟨o,c,⟨.ref b,H,I,rfl,q⟩⟩
noncomputable def jd:D->D->Option D
 | .int i,.int j=>on (.int (i+j))
 | .tup [],.tup b=>on (.tup b)
 | .lst a,.lst b=>if a.length+b.length<=OS then on (.lst (a++b))else Oi
 | .tup (c::a),.tup b=>if(c::a).length+b.length<=OS then on (.tup (c::a++b))else Oi
 |_,_=>Oi
theorem bO:aX K (λx y H Q=>(q9 λi j=> .int (i+j)) x y H Q\/wJ x y H Q\/wI K x y H Q\/wK K x y H Q) jd:=λF H β Q d1 d2 d v w fr h l e k=>by
 unfold jd at e;split at e
 .cases e
  exact .inl ⟨_,_,h,l,k _ H (To.refl fr) rfl⟩
 .cases e
  obtain⟨a,xs,rfl,r1,c⟩:=c4.sqT h;obtain⟨b,ys,rfl,m,g⟩:=c4.sqT l;have q:xs=[]:=c;subst q;exact .inr (.inr (.inr ⟨a,b,ys,rfl,rfl,r1,m,k _ H (To.refl fr) l⟩))
 .split at e
  .cases e
   obtain⟨a,xs,rfl,r1,c⟩:=c4.rdL h;obtain⟨b,ys,rfl,m,g⟩:=c4.rdL l;exact .inr (.inl ⟨a,b,xs,ys,rfl,rfl,r1,m,by rw[<-c.length,<-g.length];assumption,λp o=>k _ _ (fr.upd _ o) (c4.newL fr o (c.append g))⟩)
  .cases e
 .split at e
  .cases e
   obtain⟨a,xs,rfl,r1,c⟩:=c4.sqT h;obtain⟨b,ys,rfl,m,g⟩:=c4.sqT l;have r:=c.length;have t:=g.length;refine .inr (.inr (.inl ⟨a,b,xs,ys,rfl,rfl,r1,m,(λz=>by subst z;cases r),by rw[<-r,<-t];assumption,λz=>?_,λ_ p o=>k _ _ (fr.upd _ o) (c4.newT fr o (c.append g))⟩));subst z;have u:=Ut.mp t;subst u;rw[Pf]at k;exact k _ H (To.refl fr) h
  .cases e
 .cases e
theorem aQ:g_ X (Rp .Add) (λx y H Q=>(q9 λi j=> .int (i+j)) x y H Q\/wJ x y H Q\/wI X.K x y H Q\/wK X.K x y H Q):=oX.or (Jt.or (Js.or Ju))
def CF:D->D->Option D:=oD λi j=>if(gb i&&gb j)=On then on (.int (i*j))else Oi
theorem rO:aX K (rI sf λi j=> .int (i*j)) CF:=qT λi j h=>by
 simp only[O9,gb,Po]at h;exact h
noncomputable def Zg:D->D->Option Bool
 | .non,.non=>on On
 | .int i,.int j=>on (decide (i=j))
 | .bl i,.bl j=>on (decide (i=j))
 | .str i,.str j=>on (decide (i=j))
 | .int _,.str _=>on Os
 | .str _,.int _=>on Os
 | .bl _,.str _=>on Os
 | .str _,.bl _=>on Os
 | .non,.int _=>on Os
 | .int _,.non=>on Os
 | .non,.str _=>on Os
 | .str _,.non=>on Os
 |_,_=>Oi
theorem zS{F:Fx}{H:Hp}{a b:D}{c:Bool}(h:Zg a b=on c)(d:c4 K F H a v)(g:c4 K F H b w):BG v w=On/\decide (v=w)=c:=by
 unfold Zg at h;split at h<;>first
  |(cases h;cases d.int;cases g.int;exact⟨rfl,by simp⟩)
  |(cases h;cases d.bl;cases g.bl;exact⟨rfl,by simp⟩)
  |(cases h;cases d.str;cases g.str;exact⟨rfl,by simp⟩)
  |(cases h;cases d.non;cases g.non;exact⟨rfl,by simp⟩)
  |(cases h;cases d.int;cases g.str;exact⟨rfl,rfl⟩)
  |(cases h;cases d.str;cases g.int;exact⟨rfl,rfl⟩)
  |(cases h;cases d.bl;cases g.str;exact⟨rfl,rfl⟩)
  |(cases h;cases d.str;cases g.bl;exact⟨rfl,rfl⟩)
  |(cases h;cases d.non;cases g.int;exact⟨rfl,rfl⟩)
  |(cases h;cases d.int;cases g.non;exact⟨rfl,rfl⟩)
  |(cases h;cases d.non;cases g.str;exact⟨rfl,rfl⟩)
  |(cases h;cases d.str;cases g.non;exact⟨rfl,rfl⟩)
  |cases h
noncomputable def isN:D->Bool
 | .non=>On
 |_=>Os
theorem Lz{F:Fx}{H:Hp}(h:c4 K F H d v):decide (v= .non)=isN d:=by
 cases d with
 |non=>cases h.non;rfl
 |bl b=>cases h.bl;rfl
 |int b=>cases h.int;rfl
 |str b=>cases h.str;rfl
 |ty b=>cases h.ty;rfl
 |txt=>unfold c4 at h;obtain⟨z,rfl⟩:=h;rfl
 |lst ds=>obtain⟨a,xs,rfl,_⟩:=c4.sqL h;rfl
 |tup ds=>obtain⟨a,xs,rfl,_⟩:=c4.sqT h;rfl
 |scr ds=>obtain⟨a,rfl,_⟩:=c4.scr h;rfl
 |obj C ns ds=>
  unfold c4 at h;obtain⟨a,_,_,rfl,_⟩:=h;rfl
 |bag=>
  unfold c4 at h;obtain⟨a,_,_,rfl⟩:=h;rfl
 |adr a=>
  unfold c4 at h;obtain rfl:=h;rfl
 |dct b ks vs=>
  unfold c4 at h;obtain⟨a,_,xs,rfl,_⟩:=h;rfl
noncomputable def xl:D->D->Option D
 |a,.non=>on (.bl (isN a))
 |_,_=>Oi
theorem w9:aX K (λx y H Q=>y= .non/\Q (.bl (decide (x= .non))) H) xl:=λF H β Q d1 d2 d h i fr c g e k=>by
 unfold xl at e;split at e
 .cases e
  exact⟨g,by rw[Lz c];exact k _ H (To.refl fr) rfl⟩
 .cases e
noncomputable def eA:D->Bool
 | .int _=>On| .bl _=>On| .str _=>On| .non=>On|_=>Os
noncomputable def eqF:D->D->Bool
 | .non,.non=>On
 | .bl a,.bl b=>a==b
 | .bl a,.int b=>(if a then 1 else 0)==b
 | .int a,.bl b=>a==(if b then 1 else 0)
 | .int a,.int b=>a==b
 | .str a,.str b=>a==b
 |_,_=>Os
noncomputable def cW:D->Option (List D)
 | .lst a=>on a
 | .tup a=>on a
 |_=>Oi
def Yt(x:D)(ys:List D):Bool:=ys.any λy=>eqF y x
def O2(neg:Bool)(x y:D):Option D:=(cW y).bind λys=>if(eA x&&ys.all eA)=On then on (.bl (if neg then !Yt x ys else Yt x ys))else Oi
theorem qo{F:Fx}{H:Hp}(f:eA d=On)(h:c4 K F H d v):f8 v=On:=by
 cases d<;>first|(cases h.int;rfl)|(cases h.bl;rfl)|(cases h.str;rfl)|(cases h.non;rfl)|cases f
theorem LR{F:Fx}{H:Hp}{a b:D}(g:eA a=On)(h:eA b=On)(c:c4 K F H a v)(d:c4 K F H b w):O_ v w=eqF a b:=by
 cases a<;>first
  |(exfalso;exact OE g)
  |(cases b<;>first
   |(exfalso;exact OE h)
   |(cases c.int;cases d.int;rfl)|(cases c.int;cases d.bl;rfl)|(cases c.int;cases d.str;rfl)|(cases c.int;cases d.non;rfl)
   |(cases c.bl;cases d.int;rfl)|(cases c.bl;cases d.bl;rfl)|(cases c.bl;cases d.str;rfl)|(cases c.bl;cases d.non;rfl)
   |(cases c.str;cases d.int;rfl)|(cases c.str;cases d.bl;rfl)|(cases c.str;cases d.str;rfl)|(cases c.str;cases d.non;rfl)
   |(cases c.non;cases d.int;rfl)|(cases c.non;cases d.bl;rfl)|(cases c.non;cases d.str;rfl)|(cases c.non;cases d.non;rfl))
theorem uq{F:Fx}{H:Hp}{x:D}(c:eA x=On)(g:c4 K F H x v):∀{ds:List D} {vs:List V},ds.all eA=On->bb K F H ds vs->vs.all f8=On/\Zd v vs=Yt x ds
 |[],vs,_,h=>by have q:vs=[]:=h;subst q;exact⟨rfl,rfl⟩
 |d::ds,vs,f,h=>by
  obtain⟨y,r,q,i,l⟩:=h;subst q;rw[Uh,O9]at f;obtain⟨m,j⟩:=uq c g f.2 l;refine⟨by rw[Uh,qo f.1 i,m];rfl,?_⟩;unfold Zd Yt at j⊢;rw[S8,S8,j,LR f.1 c i g]
theorem CW{neg:Bool}:aX K (ZJ K neg) (O2 neg):=λF H β Q d1 d2 d m o fr g l e k=>by
 unfold O2 at e;cases q:cW d2 with
 |none=>rw[q]at e;cases e
 |some ys=>
  rw[q]at e;simp only[Q9]at e;split at e
  .rename_i c
   rw[O9]at c;cases e;cases d2<;>first|(cases q;obtain⟨a,xs,rfl,r1,h⟩:=c4.sqL l;obtain⟨i,j⟩:=uq c.1 g c.2 h;exact⟨a,xs,rfl,.inl r1,qo c.1 g,i,by rw[j];exact k _ H (To.refl fr) rfl⟩)|(cases q;obtain⟨a,xs,rfl,r1,h⟩:=c4.sqT l;obtain⟨i,j⟩:=uq c.1 g c.2 h;exact⟨a,xs,rfl,.inr r1,qo c.1 g,i,by rw[j];exact k _ H (To.refl fr) rfl⟩)|cases q
  .cases e
def la:D->D->Option D
 | .lst xs,.int i=>o1 xs i
 | .tup xs,.int i=>o1 xs i
 |_,_=>Oi
theorem uK{F:Fx}{H:Hp}(h:bb K F H ds vs)(e:o1 ds i=on d):∃v,o1 vs i=on v/\c4 K F H d v:=by
 unfold o1 at e⊢;rw[<-h.length];cases q:ra ds.length i with
 |none=>rw[q]at e;cases e
 |some j=>
  rw[q]at e;exact h.get e
theorem bF:aX K (λx y H Q=>tE K x y H Q\/BL K x y H Q) la:=λF H β Q d1 d2 d j l fr h i e k=>by
 unfold la at e;split at e
 .obtain⟨a,xs,rfl,r1,c⟩:=c4.sqL h
  obtain⟨v,g,hd⟩:=uK c e;exact .inl ⟨a,xs,_,v,rfl,i,r1,g,k _ H (To.refl fr) hd⟩
 .obtain⟨a,xs,rfl,r1,c⟩:=c4.sqT h
  obtain⟨v,g,hd⟩:=uK c e;exact .inr ⟨a,xs,_,v,rfl,i,r1,g,k _ H (To.refl fr) hd⟩
 .cases e
theorem aM:K_ X (λx y H Q=>tE X.K x y H Q\/BL X.K x y H Q):=dh.or Ly
noncomputable def eY:List D->Option D
 |[.lst xs]=>on (.int xs.length)
 |[.tup xs]=>on (.int xs.length)
 |_=>Oi
theorem bb.one{F:Fx}{H:Hp}(h:bb K F H [d] vs):∃v,vs=[v]/\c4 K F H d v:=by
 obtain⟨x,r,e,c,g⟩:=h;have q:r=[]:=g;subst q;exact⟨x,e,c⟩
theorem bb.two{F:Fx}{H:Hp}(h:bb K F H [d,c] vs):∃v w,vs=[v,w]/\c4 K F H d v/\c4 K F H c w:=by
 obtain⟨x,r,e,g,i⟩:=h;obtain⟨y,rfl,j⟩:=bb.one i;exact⟨x,y,e,g,j⟩
theorem NR:dD K (λxs H Q=>∃p ys,xs=[.ref p]/\(fy K H p ys\/jn K H p ys)/\Q (.int ys.length) H) eY:=λF H β Q ds d vs fr h e k=>by
 unfold eY at e;split at e
 .cases e
  obtain⟨v,rfl,g⟩:=bb.one h;obtain⟨a,xs,rfl,r,c⟩:=c4.sqL g;exact⟨a,xs,rfl,.inl r,by rw[<-c.length];exact k _ H (To.refl fr) rfl⟩
 .cases e
  obtain⟨v,rfl,g⟩:=bb.one h;obtain⟨a,xs,rfl,r,c⟩:=c4.sqT g;exact⟨a,xs,rfl,.inr r,by rw[<-c.length];exact k _ H (To.refl fr) rfl⟩
 .cases e
noncomputable def tX:List D->Option D
 |[.int i,.int j]=>on (.int (if j<i then j else i))
 |_=>Oi
noncomputable def wU:List D->Option D
 |[.int i,.int j]=>on (.int (if j>i then j else i))
 |_=>Oi
theorem o9:dD K (λxs H Q=>∃i j,xs=[.int i,.int j]/\Q (.int (if j<i then j else i)) H) tX:=λF H β Q ds d vs fr h e k=>by
 unfold tX at e;split at e
 .cases e
  obtain⟨v,w,rfl,g,g'⟩:=bb.two h;cases g.int;cases g'.int;exact⟨_,_,rfl,k _ H (To.refl fr) rfl⟩
 .cases e
theorem w8:dD K (λxs H Q=>∃i j,xs=[.int i,.int j]/\Q (.int (if j>i then j else i)) H) wU:=λF H β Q ds d vs fr h e k=>by
 unfold wU at e;split at e
 .cases e
  obtain⟨v,w,rfl,g,g'⟩:=bb.two h;cases g.int;cases g'.int;exact⟨_,_,rfl,k _ H (To.refl fr) rfl⟩
 .cases e
noncomputable def dW:List D->Option (List Int)
 |[]=>on []
 | .int i::r=>(dW r).map (i::·)
 |_=>Oi
theorem ko:∀{ds:List D} {ns:List Int},dW ds=on ns->ds=ns.map D.int
 |[],ns,h=>by cases h;rfl
 |d::ds,ns,h=>by
  cases d with
  |int i=>
   unfold dW at h;cases q:dW ds with
   |none=>rw[q]at h;cases h
   |some c=>rw[q]at h;cases h;rw[ko q];rfl
  |_=>cases h
def AZ:List D->Option D
 |[.lst xs]=>(dW xs).map λns=> .int ns.sum
 |_=>Oi
theorem NP:dD K (λxs H Q=>∃(a:Oq) (ns:List Int),xs=[.ref a]/\fy K H a (ns.map V.int)/\Q (.int ns.sum) H) AZ:=λF H β Q ds d vs fr h e k=>by
 unfold AZ at e;split at e
 .rename_i xs
  cases q:dW xs with
  |none=>rw[q]at e;cases e
  |some ns=>
   rw[q]at e;cases e;obtain⟨v,rfl,g⟩:=bb.one h;obtain⟨a,ys,rfl,r,c⟩:=c4.sqL g;rw[ko q]at c;have i:=bb.ints ns c;subst i;exact⟨a,ns,rfl,r,k _ H (To.refl fr) rfl⟩
 .cases e
noncomputable def rN:List D->Option D
 |[.lst xs]=>on (.lst xs)
 |[.tup xs]=>on (.lst xs)
 |_=>Oi
theorem lh:dD K (λxs H Q=>∃p ys,xs=[.ref p]/\(fy K H p ys\/jn K H p ys)/\∀l,H l=Oi->Q (.ref l) (upd H l (.lst ys))) rN:=λF H β Q ds d vs fr h e k=>by
 unfold rN at e;split at e
 .cases e
  obtain⟨v,rfl,g⟩:=bb.one h;obtain⟨a,xs,rfl,r,i⟩:=c4.sqL g;exact⟨a,xs,rfl,.inl r,λl c=>k _ _ (fr.upd _ c) (c4.newL fr c i)⟩
 .cases e
  obtain⟨v,rfl,g⟩:=bb.one h;obtain⟨a,xs,rfl,r,i⟩:=c4.sqT g;exact⟨a,xs,rfl,.inr r,λl c=>k _ _ (fr.upd _ c) (c4.newL fr c i)⟩
 .cases e
noncomputable def sE:List D->Option D
 |[.lst xs]=>on (.tup xs)
 |[.tup xs]=>on (.tup xs)
 |_=>Oi
theorem fY:dD K (λxs H Q=>∃p ys,xs=[.ref p]/\((fy K H p ys/\∀l,H l=Oi->Q (.ref l) (upd H l (.tup ys)))\/(jn K H p ys/\Q (.ref p) H))) sE:=λF H β Q ds d vs fr h e k=>by
 unfold sE at e;split at e
 .cases e
  obtain⟨v,rfl,g⟩:=bb.one h;obtain⟨a,xs,rfl,r,c⟩:=c4.sqL g;exact⟨a,xs,rfl,.inl ⟨r,λl i=>k _ _ (fr.upd _ i) (c4.newT fr i c)⟩⟩
 .cases e
  obtain⟨v,rfl,g⟩:=bb.one h;obtain⟨a,xs,rfl,r,c⟩:=c4.sqT g;exact⟨a,xs,rfl,.inr ⟨r,k _ H (To.refl fr) g⟩⟩
 .cases e
noncomputable def asB:D->Option Bool
 | .bl b=>on b
 |_=>Oi
theorem iA{b:Bool}(h:asB d=on b):d= .bl b:=by cases d<;>first|(cases h;rfl)|cases h
noncomputable def AU:D->Option Bool
 | .non=>on Os
 | .bl b=>on b
 | .int i=>on (i !=0)
 | .lst xs=>on (!xs.isEmpty)
 | .tup xs=>on (!xs.isEmpty)
 |_=>Oi
def fB(f:FD):Dn->M Bool:=λδ=>M.bind (f δ) λd=>M.ofO (asB d)
def uy(f:FD):Dn->M Bool:=λδ=>M.bind (f δ) λd=>M.ofO (AU d)
def mK(f g:Dn->M Bool):Dn->M Bool:=λδ=>M.bind (f δ) λc=>if c=On then g δ else M.ret Os
def lE(f g:Dn->M Bool):Dn->M Bool:=λδ=>M.bind (f δ) λc=>if c=On then M.ret On else g δ
def xz(f:Dn->M Bool):Dn->M Bool:=λδ=>M.bind (f δ) λc=>M.ret (!c)
def xA(f g:FD):FD:=λδ=>M.bind (f δ) λd=>M.bind (M.ofO (asB d)) λc=>if c=On then g δ else M.ret (.bl Os)
def YG(t:Dn->M Bool)(f g:FD):FD:=λδ=>M.bind (t δ) λc=>if c=On then f δ else g δ
def pG(o d:D->D->Option D)(f g h:FD):FD:=λδ=>M.bind (f δ) λa=>M.bind (g δ) λb=>M.bind (M.ofO (o a b)) λz=>M.bind (M.ofO (asB z)) λc=>if c=On then M.bind (h δ) (λw=>M.ofO (d b w))else M.ret (.bl Os)
variable{c:Expr}{rest:List Expr}
theorem M.ofO_bind{α d:Type}{o:Option α}{k:α->M d}{β:Bg}{z:Except Oq d×Bg}(h:M.bind (M.ofO o) k β=on z):∃a,o=on a/\k a β=on z:=by
 cases o with
 |none=>cases h
 |some a=>exact⟨a,rfl,h⟩
theorem run.ofO_bind{α g i:Type}{R:Hp->g->i->Prop}{F:Fx}{j:St}{o:Option α}{k:α->M g}{H:Hp}{Q:i->Hp->Prop}{β:Bg}(h:run R F E j (M.bind (M.ofO o) k) H Q β):∃a,o=on a/\run R F E j (k a) H Q β:=by
 obtain⟨r,d,e,h⟩:=h;obtain⟨a,q,e⟩:=M.ofO_bind e;exact⟨a,q,r,d,e,h⟩
theorem run.bOk{F:Fx}{H:Hp}(fr:Fr F H β)(hd:c4 K F H d v)(h:run (λ_ (a b:Bool)=>b=a) F E σ (M.ofO (asB d)) H Q β):∃k,v= .bl k/\Q k H:=by
 obtain⟨b,e,k⟩:=run.ofO h;rw[iA e]at hd;exact⟨b,hd,k b H (To.refl fr) rfl⟩
theorem nc{f:FD}{H:Hp}(h:hE K (fB f) E σ H Q):tV K f E σ H λx g=>∃k,x= .bl k/\Q k g:=by
 obtain⟨F,δ,β,fr,i,h⟩:=h;exact⟨F,δ,β,fr,i,(run.bind (R:=c4 K F) h).mono λv l j=>o0 j λd β1 t hd r1=>run.bOk t.fr hd r1⟩
theorem bj{f g:FD}(d:g_ X (P6 op) r)(l:aX X.K r o)(ha:PE X a (tV X.K f E))(i:PE X b (tV X.K g E))(hm:Tx op b=Os:=by first|exact tQ _|rfl):PT X (.Compare a [op] [b] pos) (hE X.K (fB (f2 o f g)) E):=
 (vi d ha i hm).imp λj H Q h=>ox l (nc h)
theorem x8{f g h:FD}(l:aX K r o)(Y:aX K r' o'){H:Hp}(B:tV K (pG o o' f g h) E σ H Q):x9 r r' (tV K f E) (tV K g E) (tV K h E) σ H Q:=by
 obtain⟨F,δ,β,fr,I,B⟩:=B;refine⟨F,δ,β,fr,I,(run.bind (R:=c4 K F) B).mono λv H1 j=>o0 j λd β1 t hd r1=>⟨F,δ,β1,t.fr,I.tr (t.tr fr),(run.bind (R:=c4 K F) r1).mono λP Z j=>o0 j λd2 β2 m u r2=>?_⟩⟩;obtain⟨z,T,r3⟩:=run.ofO_bind r2;obtain⟨c,ec,A⟩:=run.ofO_bind r3;rw[iA ec]at T;refine l F Z β2 _ d d2 _ v P m.fr (c4.tr (m.tr t.fr) _ _ hd) u T λvz U i hz=>⟨c,hz,?_⟩;cases c with
 |true=>
  rw[OA rfl]at A;refine⟨F,δ,β2,i.fr,I.tr ((t.tr fr).trans ((m.tr t.fr).trans (i.tr m.fr))),?_⟩;have r5:run (c4 K F) F E σ (M.bind (h δ) λw=>M.ofO (o' d2 w)) U Q β2:=by
   obtain⟨J,y,e,q⟩:=A;refine⟨J,y,e,?_⟩;cases J with
   |ok d=>exact λv L tt=>q v L (i.trans tt)
   |error C=>exact λL tt=>q L (i.trans tt)
  refine(run.bind (R:=c4 K F) r5).mono λw H4 j=>o0 j λdw N W O r6=>?_;obtain⟨d3,e3,k⟩:=run.ofO r6;exact Y F H4 N Q d2 dw d3 P w W.fr (c4.tr ((i.tr m.fr).trans (W.tr i.fr)) _ _ u) O e3 k
 |false=>
  rw[Ot OE]at A;obtain⟨J,y,e,q⟩:=A;cases e;exact q _ U i rfl
theorem uX{f g h:FD}(i:g_ X (P6 op) r)(d:g_ X (P6 op') r')(l:aX X.K r o)(j:aX X.K r' o')(ha:PE X a (tV X.K f E))(m:PE X b (tV X.K g E))(t:PE X c (tV X.K h E))(hm:X5 [op,op'] [b,c]=Os:=by with_unfolding_all rfl):
  PT X (.Compare a [op,op'] [b,c] pos) (hE X.K (fB (pG o o' f g h)) E):=(BN i d ha m t hm).imp λu H Q q=>x8 l j (nc q)
theorem IM{F:Fx}{H:Hp}{k:Bool}(h:AU d=on k)(hd:c4 K F H d v):GA K v H k:=by
 cases d with
 |non=>cases h;cases hd.non;rfl
 |bl b=>cases h;cases hd.bl;rfl
 |int i=>cases h;cases hd.int;rfl
 |lst xs=>
  cases h;obtain⟨a,ys,rfl,r,g⟩:=c4.sqL hd;refine .inl ⟨ys,r,?_⟩;have:=g.length;cases xs<;>cases ys<;>first|rfl|(simp at this)
 |tup xs=>
  cases h;obtain⟨a,ys,rfl,r,g⟩:=c4.sqT hd;refine .inr ⟨ys,r,?_⟩;have:=g.length;cases xs<;>cases ys<;>first|rfl|(simp at this)
 |_=>cases h
theorem l6{f:FD}(ha:PE X a (tV X.K f E))(j:∀g,isTrue a X.env g=(do let v <-g;Si a.pos;SN [v] (truthy v)):=by intro _;rfl):PT X a (hE X.K (uy f) E):=
 (BM ha j).imp λo H Q i=>lk i λF δ β fr l h=>⟨F,δ,β,fr,l,(run.bind (R:=c4 X.K F) h).mono λv m i=>by
  obtain⟨d,β1,t,hd,r1⟩:=i;obtain⟨k,e,q⟩:=run.ofO r1;exact⟨k,IM e hd,q k m (To.refl t.fr) rfl⟩⟩
theorem ow{f:Dn->M Bool}(ha:PT X a (hE X.K f E)):PT X (.UnaryOp .Not a pos) (hE X.K (xz f) E):=
 (KV ha).imp λj H Q g=>lk g λF δ β fr i h=>⟨F,δ,β,fr,i,(run.bind (R:=λ_ (a b:Bool)=>b=a) h).mono λv l g=>by
  obtain⟨d,β1,t,hd,r1⟩:=g;subst hd;exact run.ret t.fr r1 rfl⟩
theorem IT{f g:Dn->M Bool}{H:Hp}(h:hE K (mK f g) E σ H Q):Kl (hE K f E) (hE K g E) σ H Q:=by
 obtain⟨F,δ,β,fr,i,h⟩:=h;refine⟨F,δ,β,fr,i,(run.bind (R:=λ_ (a b:Bool)=>b=a) h).mono λv l j=>o0 j λd β1 t hd r1=>?_⟩;subst hd;cases v with
 |true=>rw[OA rfl]at r1⊢;exact⟨F,δ,β1,t.fr,i.tr (t.tr fr),r1⟩
 |false=>rw[Ot OE]at r1⊢;exact run.ret t.fr r1 rfl
theorem Kf{f g:Dn->M Bool}{H:Hp}(h:hE K (lE f g) E σ H Q):tOr (hE K f E) (hE K g E) σ H Q:=by
 obtain⟨F,δ,β,fr,i,h⟩:=h;refine⟨F,δ,β,fr,i,(run.bind (R:=λ_ (a b:Bool)=>b=a) h).mono λv l j=>o0 j λd β1 t hd r1=>?_⟩;subst hd;cases v with
 |false=>rw[Ot OE]at r1⊢;exact⟨F,δ,β1,t.fr,i.tr (t.tr fr),r1⟩
 |true=>rw[OA rfl]at r1⊢;exact run.ret t.fr r1 rfl
theorem J8{f:Dn->M Bool}(ha:PT X a (hE X.K f E)):PW X (.BoolOp .And [a] pos) (hE X.K f E):=Ji ha
theorem oh{f:Dn->M Bool}(ha:PT X a (hE X.K f E)):PW X (.BoolOp .Or [a] pos) (hE X.K f E):=KR ha
theorem GP{f g:Dn->M Bool}(ha:PT X a (hE X.K f E))(d:PW X (.BoolOp .And (b::rest) pos) (hE X.K g E)):PW X (.BoolOp .And (a::b::rest) pos) (hE X.K (mK f g) E):=(KS ha d).imp λ_ _ _=>IT
theorem sC{f g:Dn->M Bool}(ha:PT X a (hE X.K f E))(d:PW X (.BoolOp .Or (b::rest) pos) (hE X.K g E)):PW X (.BoolOp .Or (a::b::rest) pos) (hE X.K (lE f g) E):=(Nx ha d).imp λ_ _ _=>Kf
theorem jh{e:Expr}{f:Dn->M Bool}(h:PW X e (hE X.K f E)):PT X e (hE X.K f E):=PW.pt h
theorem GQ{op}{f:FD}(h:PE X a (tV X.K f E)):PE X (.BoolOp op [a] pos) (tV X.K f E):=K3 h
theorem run.asB{F:Fx}{k:Bool->M D}{H:Hp}(hd:c4 K F H d v)(h:run (c4 K F) F E σ (M.bind (M.ofO (asB d)) k) H Q β):∃c,v= .bl c/\run (c4 K F) F E σ (k c) H Q β:=by
 obtain⟨c,e,h⟩:=run.ofO_bind h;rw[iA e]at hd;exact⟨c,hd,h⟩
theorem GR{f g:FD}(ha:PE X a (tV X.K f E))(m:PE X (.BoolOp .And (b::rest) pos) (tV X.K g E)):PE X (.BoolOp .And (a::b::rest) pos) (tV X.K (xA f g) E):=
 (K6 ha m).imp λo H Q j=>lk j λF δ β fr l h=>⟨F,δ,β,fr,l,(run.bind (R:=c4 X.K F) h).mono λv q j=>by
  obtain⟨d,β1,t,hd,r1⟩:=j;obtain⟨c,e,i⟩:=run.asB hd r1;refine⟨c,e,?_⟩;cases c with
  |true=>rw[OA rfl]at i⊢;exact⟨F,δ,β1,t.fr,l.tr (t.tr fr),i⟩
  |false=>rw[Ot OE]at i⊢;exact run.ret t.fr i rfl⟩
theorem Zt{f g:FD}(l:PT X c (hE X.K t E))(ha:PE X a (tV X.K f E))(m:PE X b (tV X.K g E)):PE X (.IfExp c a b pos) (tV X.K (YG t f g) E):=
 (BV l ha m).imp λo H Q i=>lk i λF δ β fr j h=>⟨F,δ,β,fr,j,(run.bind (R:=λ_ (a b:Bool)=>b=a) h).mono λv q i=>by
  obtain⟨d,β1,t,hd,r1⟩:=i;subst hd;cases v with
  |true=>rw[OA rfl]at r1⊢;exact⟨F,δ,β1,t.fr,j.tr (t.tr fr),r1⟩
  |false=>rw[Ot OE]at r1⊢;exact⟨F,δ,β1,t.fr,j.tr (t.tr fr),r1⟩⟩
noncomputable def YL:D->Option String
 | .non=>on "NoneType"| .bl _=>on "bool"| .int _=>on "int"| .str _=>on "str"| .lst _=>on "list"| .tup _=>on "tuple"|_=>Oi
noncomputable def xg:String->String->Option Bool
 |"int","str"=>on Os|"int","bool"=>on Os|"int","list"=>on Os|"int","tuple"=>on Os|"int","int"=>on On
 |"bool","str"=>on Os|"bool","bool"=>on On|"bool","list"=>on Os|"bool","tuple"=>on Os
 |"str","str"=>on On|"str","bool"=>on Os|"str","list"=>on Os|"str","tuple"=>on Os
 |"NoneType","str"=>on Os|"NoneType","bool"=>on Os|"NoneType","list"=>on Os|"NoneType","tuple"=>on Os
 |"list","list"=>on On|"list","tuple"=>on Os|"list","str"=>on Os|"list","bool"=>on Os
 |"tuple","list"=>on Os|"tuple","tuple"=>on On|"tuple","str"=>on Os|"tuple","bool"=>on Os
 |_,_=>Oi
noncomputable def xf:String->String->String->Option Bool
 |"int","list","tuple"=>on Os|"bool","list","tuple"=>on Os|"str","list","tuple"=>on Os|"NoneType","list","tuple"=>on Os|"list","list","tuple"=>on On|"tuple","list","tuple"=>on On
 |"int","int","str"=>on On|"bool","int","str"=>on On|"str","int","str"=>on On|"NoneType","int","str"=>on Os|"list","int","str"=>on Os|"tuple","int","str"=>on Os
 |_,_,_=>Oi
theorem JH{a b:String}{c:Bool}(h:xg a b=on c):kitOne K (.type a) (.type b)=on c:=by
 unfold xg at h;split at h<;>first|(cases h;kernel_rfl)|cases h
theorem JG{a b d:String}{c:Bool}(h:xf a b d=on c):Yg K (.type a) ([b,d].map Ru)=on c:=by
 unfold xf at h;split at h<;>first|(cases h;kernel_rfl)|cases h
def TyG(K:OU)(H:Hp)(x:V)(t:Ov):Prop:=n_ K H x t\/(∃a ys,x= .ref a/\fy K H a ys/\t= .type "list")\/(∃a ys,x= .ref a/\jn K H a ys/\t= .type "tuple")
def HI(K:OU):List V->Hp->VK->Prop:=λxs H Q=>∃x c t b,xs=[x,.ty c]/\TyG K H x t/\kitOne K t (.type c)=on b/\Q (.bl b) H
theorem z5:cM X (.builtin "isinstance") (HI X.K):=by
 intro j s u H xs us Q I r h;obtain⟨x,c,t,b,rfl,ty,e,q⟩:=h;cases r with
 |cons r1 d=>
  cases d with
  |cons d m=>
   cases m;cases d;rcases ty with ty|⟨a,ys,rfl,sq,rfl⟩|⟨a,ys,rfl,sq,rfl⟩
   .exact zE I r1 ty e λl=>⟨.bl b,H,I.tok _,rfl,q⟩
   .cases r1
    obtain⟨its,_,pl,_⟩:=I.list sq;obtain⟨o,g,i,_⟩:=pl.isList;exact UB Vs I.kIn ⟨o,g,i⟩ e (λz=>nomatch z) λl=>⟨.bl b,H,I.tok _,rfl,q⟩
   .cases r1
    obtain⟨its,_,pl,_⟩:=I.tuple sq;obtain⟨o,g,i,_⟩:=pl;exact UB W7 I.kIn ⟨o,g,i⟩ e (λz=>nomatch z) λl=>⟨.bl b,H,I.tok _,rfl,q⟩
theorem xX{F:Fx}{H:Hp}(h:YL d=on t)(hd:c4 K F H d v):TyG K H v (.type t):=by
 cases d with
 |non=>cases h;cases hd.non;exact .inl .non
 |bl b=>cases h;cases hd.bl;exact .inl (.bl b)
 |int b=>cases h;cases hd.int;exact .inl (.int b)
 |str b=>cases h;cases hd.str;exact .inl (.str b)
 |lst ds=>cases h;obtain⟨a,xs,rfl,sq,_⟩:=c4.sqL hd;exact .inr (.inl ⟨a,xs,rfl,sq,rfl⟩)
 |tup ds=>cases h;obtain⟨a,xs,rfl,sq,_⟩:=c4.sqT hd;exact .inr (.inr ⟨a,xs,rfl,sq,rfl⟩)
 |_=>cases h
def iq:List D->Option D
 |[x,.ty c]=>(YL x).bind λt=>(xg t c).map D.bl
 |_=>Oi
theorem NS:dD K (HI K) iq:=λF H β Q ds d vs fr h e k=>by
 unfold iq at e;split at e
 .rename_i x c
  cases q:YL x with
  |none=>rw[q]at e;cases e
  |some t=>
   rw[q]at e;simp only[Q9]at e;cases q2:xg t c with
   |none=>rw[q2]at e;cases e
   |some b=>
    rw[q2]at e;cases e;obtain⟨v,w,rfl,g,i⟩:=bb.two h;cases i.ty;exact⟨v,c,_,b,rfl,xX q g,JH q2,k _ H (To.refl fr) rfl⟩
 .cases e
def yD(K:OU):List V->Hp->VK->Prop:=λxs H Q=>∃(x:V) (tp:Oq) (cs:List String) (t:Ov) (b:Bool),xs=[x,.ref tp]/\jn K H tp (cs.map V.ty)/\TyG K H x t/\Yg K t (cs.map Ru)=on b/\Q (.bl b) H
theorem pP:cM X (.builtin "isinstance") (yD X.K):=by
 intro m s P H xs us Q I r h;obtain⟨x,tp,cs,t,b,rfl,A,ty,e,q⟩:=h;cases r with
 |cons r1 B=>
  cases B with
  |cons B R=>
   cases R;cases B;obtain⟨its,T,⟨⟨oc,U,W,Y⟩,g,u,n,j⟩,_⟩:=I.tuple A;rw[xV T]at j
   dsimp only at u j
   subst u j;have d:∀N,EP X m P Q (.bool b) {s with toks:=N}:=λN=>⟨.bl b,H,I.tok _,rfl,q⟩;rcases ty with ty|⟨a,ys,rfl,sq,rfl⟩|⟨a,ys,rfl,sq,rfl⟩
   .cases ty with
    |non=>cases r1;exact UC Xk I.kIn R7 g e (λz=>nomatch z) d
    |bl y=>cases r1;exact UC Xj I.kIn R7 g e (λz=>nomatch z) d
    |int i=>obtain⟨t,rfl⟩:=r1;exact UC Xy I.kIn R7 g e (λz=>nomatch z) d
    |str y=>obtain⟨t,rfl⟩:=r1;exact UC XA I.kIn R7 g e (λz=>nomatch z) d
    |@lst a xs ea=>
     cases r1;obtain⟨_,_,n,_,v⟩:=(show bD X.prog X.w H s.heap a (.lst xs)from I.hok a _ ea);exact UC Vs I.kIn ⟨_,v,rfl⟩ g e (λz=>nomatch z) d
    |@frz a ob xs ea=>
     cases r1;obtain⟨_,_,_,n,_,v⟩:=(show bD X.prog X.w H s.heap a (.frz ob (.lst xs))from I.hok a _ ea);exact UC Vs I.kIn ⟨_,v,rfl⟩ g e (λz=>nomatch z) d
    |@tup a xs ea=>
     cases r1;obtain⟨_,_,_,p⟩:=(show bD X.prog X.w H s.heap a (.tup xs)from I.hok a _ ea);obtain⟨o,v,Z,_⟩:=p;exact UC W7 I.kIn ⟨o,v,Z⟩ g e (λz=>nomatch z) d
    |@ins a C dx fs ea cl ha hn htk hm=>
     cases r1;obtain⟨mA,O,_⟩:=ju I.hok ea;obtain⟨U,J,_⟩:=O.look;exact UC (Xz (cl.get _) cl.hd ha hn htk hm) I.kIn J g e (λz=>nomatch z) d
   .cases r1
    obtain⟨its,_,pl,_⟩:=I.list sq;obtain⟨o,l,L,_⟩:=pl.isList;exact UC Vs I.kIn ⟨o,l,L⟩ g e (λz=>nomatch z) d
   .cases r1
    obtain⟨its,_,pl,_⟩:=I.tuple sq;obtain⟨o,l,L,_⟩:=pl;exact UC W7 I.kIn ⟨o,l,L⟩ g e (λz=>nomatch z) d
def rQ:List D->Option D
 |[x,.tup [.ty a,.ty b]]=>(YL x).bind λt=>(xf t a b).map D.bl
 |_=>Oi
theorem zu:dD K (yD K) rQ:=λF H β Q ds d vs fr h e k=>by
 unfold rQ at e;split at e
 .rename_i x a b
  cases q:YL x with
  |none=>rw[q]at e;cases e
  |some t=>
   rw[q]at e;simp only[Q9]at e;cases q2:xf t a b with
   |none=>rw[q2]at e;cases e
   |some c=>
    rw[q2]at e;cases e;obtain⟨v,w,rfl,g,i⟩:=bb.two h;obtain⟨p,xs,rfl,sq,j⟩:=c4.sqT i;obtain⟨y,z,rfl,l,m⟩:=bb.two j;cases l.ty;cases m.ty;exact⟨v,p,[a,b],_,c,rfl,sq,xX q g,JG q2,k _ H (To.refl fr) rfl⟩
 .cases e
def v_(K:OU)(J:It)(F:Fx)(H:Hp)(ds:List D):Prop:=∀(h:Fx) (g:Hp) (β2:Bg),Tr F H h g->Fr h g β2->∀i,(∀d,ds[i]?=on d->J.go i g/\∀x j,J.yld i g x j->bG g j/\c4 K h j d x)/\(i=ds.length->J.stop i g)
theorem v_.tr{K:OU}{F d:Fx}{H g:Hp}(t:Tr F H d g)(h:v_ K J F H ds):v_ K J d g ds:=λi j β3 l fr=>h i j β3 (t.trans l) fr
def iV(K:OU)(f:FL)(E:St->XK):TI:=λd H R=>∃F δ β,Fr F H β/\j2 K F H δ d/\run (λg (ds:List D) (J:It)=>v_ K J F g ds) F E d (f δ) H R β
theorem _root_.L2.PI.imp{X:Cx}{tg e:Expr}(h:PI X tg e t)(f:∀d H Q,t' d H Q->t d H Q):PI X tg e t':=λg s d H Q I q=>h g s d H Q I (f d H Q q)
variable{tg:Expr}
def LB(K:OU)(g:TE):TI:=λh H R=>g h H λx d=>(∃a,x= .ref a/\(∃xs,fy K d a xs)/\R (YZ K a) d)\/(∃a,x= .ref a/\(∃xs,jn K d a xs)/\R (Itt K a) d)
theorem yL(t:PE X l tl):PI X tg l (LB X.K tl):=by
 intro g s u H R I h;refine e_ (t g s u H _ I h) λv d ⟨x,m,i,r1,q1⟩=>?_;have j:∀b∈[d.heap.objs.size],eJ X g m b:=λb w=>by
  obtain rfl:b=d.heap.objs.size:=by simpa using w
  exact i.fpOk (OD _) (i.hok.fresh (OD _))
 rcases q1 with⟨a,e,⟨xs,r⟩,q⟩|⟨a,e,⟨xs,r⟩,q⟩
 .subst e
  cases r1;obtain⟨its,y,p,A⟩:=i.list r;exact UD p.isList ⟨d.heap.objs.size,[d.heap.objs.size],_,_,m,rfl,i.kept (t':=d.toks) λb o e=>Ol _ e,qB a _,⟨_,OI _ rfl,rfl,rfl⟩,j,q⟩
 .subst e
  cases r1;obtain⟨its,y,p,A⟩:=i.tuple r;exact VH (show d.heap.IsTuple a its.toArray from p) ⟨d.heap.objs.size,[d.heap.objs.size],_,_,m,rfl,i.kept (t':=d.toks) λb o e=>Ol _ e,wn a _,⟨_,OI _ rfl,rfl,rfl⟩,j,q⟩
theorem uk{F:Fx}{H:Hp}{a:Oq}(h:c4 K F H (.lst ds) (.ref a)):v_ K (YZ K a) F H ds:=λu v β2 t fr i=>by
 have o:=c4.tr t _ _ h;obtain⟨w,xs,e,sq,g⟩:=c4.sqL o;cases e;refine⟨λd hd=>?_,λq=>⟨xs,sq,by rw[<-g.length,q];exact OD _⟩⟩;obtain⟨x,r,_⟩:=g.get hd;refine⟨⟨xs,x,sq,r⟩,λy A j=>?_⟩;obtain⟨rfl,j⟩:=j;obtain⟨d',m,l⟩:=g.getV (j xs sq);rw[hd]at m;cases m;exact⟨bG.refl _,l⟩
theorem vL{F:Fx}{H:Hp}{a:Oq}(h:c4 K F H (.tup ds) (.ref a)):v_ K (Itt K a) F H ds:=λu v β2 t fr i=>by
 have o:=c4.tr t _ _ h;obtain⟨w,xs,e,sq,g⟩:=c4.sqT o;cases e;refine⟨λd hd=>?_,λq=>⟨xs,sq,by rw[<-g.length,q];exact OD _⟩⟩;obtain⟨x,r,_⟩:=g.get hd;refine⟨⟨xs,x,sq,r⟩,λy A j=>?_⟩;obtain⟨rfl,j⟩:=j;obtain⟨d',m,l⟩:=g.getV (j xs sq);rw[hd]at m;cases m;exact⟨bG.refl _,l⟩
def dg(f:FD):FL:=λδ=>M.bind (f δ) λd=>M.ofO (cW d)
theorem aR{f:FD}(j:PE X l (tV X.K f E)):PI X tg l (iV X.K (dg f) E):=
 (yL j).imp λq H R g=>lk g λF δ β fr m h=>⟨F,δ,β,fr,m,(run.bind (R:=c4 X.K F) h).mono λv i g=>by
  obtain⟨d,β1,t,hd,r1⟩:=g;obtain⟨ds,e,k⟩:=run.ofO r1;cases d<;>first
   |(cases e;obtain⟨a,xs,rfl,sq,o⟩:=c4.sqL hd;exact .inl ⟨a,rfl,⟨xs,sq⟩,k _ i (To.refl t.fr) (uk hd)⟩)
   |(cases e;obtain⟨a,xs,rfl,sq,o⟩:=c4.sqT hd;exact .inr ⟨a,rfl,⟨xs,sq⟩,k _ i (To.refl t.fr) (vL hd)⟩)
   |cases e⟩
noncomputable def aZ(lo:Int)(n:Nat):List D:=(Oz n).map λ(i:Nat)=> .int (lo+(i:Int))
theorem qU{F:Fx}{H:Hp}{lo:Int}{n:Nat}:v_ K (YY lo n) F H (aZ lo n):=λl m β2 t fr i=>by
 refine⟨λd hd=>?_,λg=>?_⟩
 .unfold aZ at hd
  have g:i<n:=by
   have:=(OF.mp hd).1;simpa using this
  rw[Ou,Py g]at hd;cases hd;exact⟨g,λx o ⟨h,j⟩=>by subst h j;exact⟨bG.refl _,rfl⟩⟩
 .show n<=i
  rw[g];simp[aZ]
def fR:List D->Option (List D)
 |[.int j]=>if(decide (-(2^62)<=j)&&decide (j<2^62))=On then on (aZ 0 j.toNat)else Oi
 |_=>Oi
def nC:List D->Option (List D)
 |[.int i,.int j]=>if(decide (-(2^62)<=i)&&decide (i<2^62)&&decide (-(2^62)<=j)&&decide (j<2^62))=On then on (aZ i (j-i).toNat)else Oi
 |_=>Oi
def cX(op:List D->Option (List D))(g:FL):FL:=λδ=>M.bind (g δ) λas=>M.ofO (op as)
theorem cr{a:Expr}{p pos:TD}(j:Gl X "range")(hm:X.mg "range"=Oi)(ha:PA X [a] (j1 X.K g E))(hs:OJ [a] X.env=[(Os,PZ a X.env)]:=by rfl):PI X tg (.Call (.Name "range" p) [a] [] pos) (iV X.K (cX fR g) E):=
 (yO j hm ha hs).imp λr H R d=>lk d λF δ β fr m h=>⟨F,δ,β,fr,m,(run.bind (R:=bb X.K F) h).mono λvs o d=>by
  obtain⟨ds,β1,t,hd,r1⟩:=d;obtain⟨l,e,k⟩:=run.ofO r1;unfold fR at e;split at e
  .split at e
   .rename_i i
    cases e;simp only[O9,Po]at i;obtain⟨v,rfl,q⟩:=bb.one hd;cases q.int;exact⟨_,rfl,i.1,i.2,k _ o (To.refl t.fr) qU⟩
   .cases e
  .cases e⟩
theorem j5{a b:Expr}{p pos:TD}(m:Gl X "range")(hm:X.mg "range"=Oi)(ha:PA X [a,b] (j1 X.K g E))(hs:OJ [a,b] X.env=[(Os,PZ a X.env),(Os,PZ b X.env)]:=by rfl)(i:OJ [b] X.env=[(Os,PZ b X.env)]:=by rfl):PI X tg (.Call (.Name "range" p) [a,b] [] pos) (iV X.K (cX nC g) E):=
 (yN m hm ha hs i).imp λy H R j=>lk j λF δ β fr o h=>⟨F,δ,β,fr,o,(run.bind (R:=bb X.K F) h).mono λvs q j=>by
  obtain⟨ds,β1,t,hd,r1⟩:=j;obtain⟨l,e,k⟩:=run.ofO r1;unfold nC at e;split at e
  .split at e
   .rename_i d
    cases e;simp only[O9,Po]at d;obtain⟨v,w,rfl,r,u⟩:=bb.two hd;cases r.int;cases u.int;exact⟨_,_,rfl,⟨d.1.1.1,d.1.1.2,d.1.2,d.2⟩,k _ q (To.refl t.fr) qU⟩
   .cases e
  .cases e⟩
abbrev m_:=D->Dn->Option Dn
abbrev iB:=List D->Dn->Option Dn
def ci(K:OU)(g:TG)(tg:m_):Prop:=∀(F:Fx) (H:Hp) (δ δ1:Dn) (i:St) (d:D) (v:V) (Q:St->Hp->Prop),j2 K F H δ i->c4 K F H d v->tg d δ=on δ1->(∀h,j2 K F H δ1 h->Q h H)->g v i H Q
def pV(K:OU)(g:P_)(tg:iB):Prop:=∀(F:Fx) (H:Hp) (δ δ1:Dn) (h:St) (ds:List D) (vs:List V) (Q:St->Hp->Prop),j2 K F H δ h->bb K F H ds vs->tg ds δ=on δ1->(∀d,j2 K F H δ1 d->Q d H)->g vs h H Q
noncomputable def jm(i:Nat):m_:=λd δ=>if(δ.getD i (on .non)).isNone then on (δ.set i (on d))else Oi
noncomputable def jH:iB:=λds δ=>match ds with
 |[]=>on δ
 |_=>Oi
noncomputable def eW(t:m_)(u:iB):iB:=λds δ=>match ds with
 |[]=>Oi
 |d::r=>(t d δ).bind λδ1=>u r δ1
noncomputable def Q_(t:iB):m_:=λd δ=>match d with
 | .tup ds=>t ds δ
 |_=>Oi
theorem sH{δ δ1:Dn}(h:jm i d δ=on δ1):δ[i]?=on Oi/\δ1=δ.set i (on d):=by
 unfold jm at h;split at h
 .rename_i q
  cases h;refine⟨?_,rfl⟩;rw[Om]at q;cases e:δ[i]? with
  |none=>rw[e]at q;cases q
  |some z=>
   rw[e]at q;cases z with
   |none=>rfl
   |some w=>cases q
 .cases h
theorem am:ci K (dC i) (jm i):=λF H δ δ1 h d v Q g hd e k=>by
 obtain⟨_,rfl⟩:=sH e;exact k _ (g.set hd)
theorem cU:pV K gNil jH:=λF H δ δ1 g ds vs Q d hd e k=>by
 cases ds with
 |nil=>cases e;exact⟨hd,k _ d⟩
 |cons _ _=>cases e
theorem aW(m:ci K t tf)(o:pV K u uf):pV K (xp t u) (eW tf uf):=λF H δ δ1 v ds vs Q w hd e k=>by
 cases ds with
 |nil=>cases e
 |cons d r=>
  obtain⟨x,l,rfl,y,A⟩:=hd;have h:(tf d δ).bind (λδ1=>uf r δ1)=on δ1:=e;cases q:tf d δ with
  |none=>rw[q]at h;cases h
  |some g=>
   rw[q]at h;exact⟨x,l,rfl,m F H δ g v d x _ w y q λi j=>o F H g δ1 i r l Q j A h k⟩
theorem dG{n:Nat}(h:pV K t tf)(hn:∀ds δ δ1,tf ds δ=on δ1->ds.length=n):ci K (DI K n t) (Q_ tf):=λF H δ δ1 i d v Q j hd e k=>by
 cases d<;>first
  |(obtain⟨a,xs,rfl,sq,g⟩:=c4.sqT hd;exact⟨a,xs,rfl,sq,by rw[<-g.length];exact hn _ _ _ e,h F H δ δ1 i _ xs Q j g e k⟩)
  |cases e
theorem ck:∀ds δ δ1,jH ds δ=on δ1->ds.length=0:=λds δ δ1 h=>by
 cases ds with
 |nil=>rfl
 |cons _ _=>cases h
theorem aU{n:Nat}(h:∀ds δ δ1,u ds δ=on δ1->ds.length=n):∀ds δ δ1,eW t u ds δ=on δ1->ds.length=n+1:=λds δ δ1 e=>by
 cases ds with
 |nil=>cases e
 |cons d r=>
  have g:(t d δ).bind (λδ1=>u r δ1)=on δ1:=e;cases q:t d δ with
  |none=>rw[q]at g;cases g
  |some i=>rw[q]at g;rw[OO,h _ _ _ g]
def di(tg:m_):Prop:=∀d δ δ1,tg d δ=on δ1->Sub δ δ1/\δ.length=δ1.length
def sd(tg:iB):Prop:=∀d δ δ1,tg d δ=on δ1->Sub δ δ1/\δ.length=δ1.length
theorem ar:di (jm i):=λd δ δ1 e=>by
 obtain⟨q,rfl⟩:=sH e;refine⟨λj c g=>?_,by rw[Pl]⟩;rw[Pp];by_cases z:i=j
 .subst z;rw[q]at g;cases g
 .rw[Ot z];exact g
theorem cQ:sd jH:=λds δ δ1 e=>by
 cases ds with
 |nil=>cases e;exact⟨λ_ _ h=>h,rfl⟩
 |cons _ _=>cases e
theorem aV(j:di t)(l:sd u):sd (eW t u):=λds δ δ1 e=>by
 cases ds with
 |nil=>cases e
 |cons d r=>
  have g:(t d δ).bind (λδ1=>u r δ1)=on δ1:=e;cases q:t d δ with
  |none=>rw[q]at g;cases g
  |some m=>
   rw[q]at g;obtain⟨a1,a2⟩:=j _ _ _ q;obtain⟨b1,b2⟩:=l _ _ _ g;exact⟨λi c h=>b1 i c (a1 i c h),a2.trans b2⟩
theorem dF(h:sd t):di (Q_ t):=λd δ δ1 e=>by
 cases d<;>first|exact h _ _ _ e|cases e
structure na (F:Fx) (D:Oq) (H H':Hp) (β':Bg):Prop where
 kp:∀a o,H a=on o->a≠D->(∀b l,F.bg=on (b,l)->a≠b/\a≠l)->H' a=on o
 fr:Fr F H' β'
theorem na.trans{F:Fx}{D:Oq}{H d g:Hp}(a:na F D H d β1)(b:na F D d g β2):na F D H g β2:=⟨λx o h n m=>b.kp x o (a.kp x o h n m) n m,b.fr⟩
theorem To.toD{F:Fx}{H d:Hp}(t:To F H d β')(D:Oq):na F D H d β':=⟨λa o h _ m=>t.kp a o h m,t.fr⟩
theorem na.tr{F:Fx}{D:Oq}{H d:Hp}(fr:Fr F H β)(g:F.A D)(t:na F D H d β'):Tr F H F d:=
 ⟨λ_ h _=>h,λa o h e=>t.kp a o e (λz=>h (z▸g)) λb l q=>⟨λz=>h (z▸(fr.bgA b l q).1),λz=>h (z▸(fr.bgA b l q).2.1)⟩,rfl⟩
structure AR where
 R:Fx->Hp->Oq->List Pu.D->Prop
 Z:List Pu.D->Prop
 tr:∀{F F2:Fx} {H H':Hp} {D:Oq} {as:List Pu.D},R F H D as->(∀o,H D=on o->H' D=on o)->Tr F H F2 H'->R F2 H' D as
 zp:∀{as os:List Pu.D},Z (as++os)->Z as
noncomputable def RL(K:OU):AR where
 R:=λF H D as=>∃acc,H D=on (.lst acc)/\bb K F H as acc
 Z:=λl=>l.length<=OS
 tr:=λh k t=>by
  obtain⟨acc,d,g⟩:=h;exact⟨acc,k _ d,bb.tr t _ _ g⟩
 zp:=λh=>by rw[ON]at h;omega
def dY(K:OU)(R:AR)(D:Oq)(j:TB)(f:Dn->M (List Pu.D)):Prop:=∀(F:Fx) (H:Hp) (δ:Dn) (β d:Bg) (i:St) (as os:List Pu.D) (Q:St->Hp->Prop),Fr F H β->F.A D->(∀b l,F.bg=on (b,l)->D≠b/\D≠l)->j2 K F H δ i->R.R F H D as->
 f δ β=on (.ok os,d)->R.Z (as++os)->(∀g h,na F D H h d->j2 K F h δ g->R.R F h D (as++os)->Q g h)->j i H Q
abbrev iY(K:OU):=dY K (RL K)
def lq(f:Dn->M Pu.D):Dn->M (List Pu.D):=λδ=>M.bind (f δ) λd=>M.ret [d]
theorem M.bind_inv{α g:Type}{m:M α}{k:α->M g}{β d:Bg}{r:g}(h:M.bind m k β=on (.ok r,d)):∃a β1,m β=on (.ok a,β1)/\k a β1=on (.ok r,d):=by
 unfold M.bind at h;split at h
 .cases h
 .cases h
 .rename_i a β1 e
  exact⟨a,β1,e,h⟩
theorem E0.run{α i:Type}{R:Hp->α->i->Prop}{F:Fx}{j:St}{m:M α}{H:Hp}{Q:i->Hp->Prop}{β d:Bg}{a:α}(e:m β=on (.ok a,d))(h:∀v g,To F H g d->R g a v->Q v g):run R F E0 j m H Q β:=⟨.ok a,d,e,h⟩
theorem aJ{D:Oq}{f:Dn->M Pu.D}:iY K D (xH D (tV K f E0)) (lq f):=λF H δ β g w as os Q fr y i m A e B k=>by
 obtain⟨acc,C,hd⟩:=A;obtain⟨d,β1,I,J⟩:=M.bind_inv e;cases J;refine⟨F,δ,β,fr,m,E0.run I λv r t L=>?_⟩;have j:=t.kp D _ C i;have N:=bb.tr (t.tr fr) _ _ hd;refine⟨acc,j,by rw[<-hd.length];have:=(show(as++[d]).length<=OS from B);simp at this;omega,?_⟩;have u:na F D r (upd r D (.lst (acc++[v]))) g:=by
  refine⟨λa o h n _=>by rw[b_ n];exact h,λa h q=>?_,fr.bgA,λb l q=>?_⟩
  .by_cases z:a=D
   .subst z;rw[aj]at q;cases q
   .rw[b_ z]at q;exact t.fr.occ a h q
  .rw[b_ (i b l q).1.symm,b_ (i b l q).2.symm]
   exact t.fr.bag b l q
 have tt:=u.tr t.fr y;exact k w _ ((t.toD D).trans u) (m.tr ((t.tr fr).trans tt)) ⟨_,aj,bb.append (bb.tr tt _ _ N) ⟨v,[],rfl,c4.tr tt _ _ L,rfl⟩⟩
def nw(tg:m_)(tt:Dn->M Bool)(b:Dn->M (List Pu.D)):List Pu.D->Dn->M (List Pu.D)
 |[],_=>M.ret []
 |d::ds,δ=>match tg d δ with
  |none=>M.fail
  |some δ1=>M.bind (tt δ1) λc=>M.bind (if c=On then b δ1 else M.ret []) λo=>M.bind (nw tg tt b ds δ) λos=>M.ret (o++os)
theorem my{R:AR}{D:Oq}{tg:m_}{b:Dn->M (List Pu.D)}(hg:ci K g tg)(sg:di tg)(hb:dY K R D tb b){F:Fx}{H:Hp}{as os ds:List Pu.D}(fr:Fr F H β)(hA:F.A D)(hn:∀b l,F.bg=on (b,l)->D≠b/\D≠l)(vk:j2 K F H δ σ)(hR:R.R F H D as)
  (it:v_ K J F H ds) (e:nw tg tt b ds δ β=on (.ok os,β')) (hz:R.Z (as++os)) (k:∀j t,na F D H t β'->j2 K F t δ j->R.R F t D (as++os)->Q j t):cL J g (hE K tt E0) tb σ H Q:=by
 refine⟨λi m j t=>m+i=ds.length/\∃β1 r v,na F D H t β1/\j2 K F t δ j/\R.R F t D r/\nw tg tt b (ds.drop i) δ β1=on (.ok v,β')/\r++v=as++os,
  ⟨ds.length,by omega,β,as,os,⟨λ_ _ h _ _=>h,fr⟩,vk,hR,e,rfl⟩,?_⟩
 rintro i m j t ⟨hm,β1,r,v,B,C,I,u,ea⟩;have tr1:=B.tr fr hA;obtain⟨iy,is⟩:=it F t β1 tr1 B.fr i;cases T:ds[i]? with
 |none=>
  have U:ds.length<=i:=T3.mp T;rw[RB U]at u;cases u;refine .inl ⟨is (by omega),k j t B C ?_⟩;rw[<-ea,Pf];exact I
 |some d=>
  have U:i<ds.length:=(OF.mp T).1;obtain⟨go,yl⟩:=iy d T;have ed:ds.drop i=d::ds.drop (i+1):=by
   rw[P9 U];congr 1;exact O8 ((Oo U).symm.trans T)
  rw[ed]at u;unfold nw at u;cases q:tg d δ with
  |none=>rw[q]at u;cases u
  |some δ1=>
   rw[q]at u;obtain⟨c,β2,e2,e3⟩:=M.bind_inv u;obtain⟨o,β3,W,e5⟩:=M.bind_inv e3;obtain⟨os2,β4,e6,e7⟩:=M.bind_inv e5;cases e7;obtain⟨s1,s2⟩:=sg _ _ _ q;refine .inr ⟨go,λL Y=>na F D H Y β3/\j2 K F Y δ L/\R.R F Y D (r++o),?_,λx H2 hy=>?_⟩
   .rintro L Y ⟨t9,vk9,hR9⟩
    exact⟨m-1,by omega,by omega,β3,r++o,os2,t9,vk9,hR9,e6,by rw[PY];exact ea⟩
   .obtain⟨sm,dx⟩:=yl x H2 hy
    have t2:To F t H2 β1:=B.fr.same sm;have N:=t2.tr B.fr;refine hg F H2 δ δ1 j d x _ (C.tr N) dx q λσ2 w=>⟨F,δ1,β1,t2.fr,w,E0.run e2 λc' H3 t3 ec=>?_⟩;subst ec;have y:=t3.tr t2.fr;have O:=R.tr I (λo z=>t3.kp D o (sm _ _ z) hn) (N.trans y);have P:na F D H H3 β2:=B.trans ((t2.trans t3).toD D);have hle:R.Z (r++o):=by
     rw[<-ea,<-PY]at hz;exact R.zp hz
    cases c' with
    |true=>
     rw[OA rfl]at W⊢;refine hb F H3 δ1 β2 β3 σ2 r o _ t3.fr hA hn (w.tr y) O W hle λσ4 H4 t4 vk4 hR4=>?_;exact⟨P.trans t4,vk4.sub s1 s2,hR4⟩
    |false=>
     rw[Ot OE]at W⊢;cases W;exact⟨P,(w.tr y).sub s1 s2,by rw[Pf];exact O⟩
def YH(it:Dn->M (List Pu.D))(tg:m_)(tt:Dn->M Bool)(b:Dn->M (List Pu.D)):Dn->M (List Pu.D):=λδ=>M.bind (it δ) λds=>nw tg tt b ds δ
theorem nM{D:Oq}{tg:m_}{b:Dn->M (List Pu.D)}(j:ci K g tg)(l:di tg)(m:dY K R D tb b):dY K R D (xG (iV K it E0) λJ=>cL J g (hE K tt E0) tb) (YH it tg tt b):=λF H δ β q C as os Q fr r hn h u e v k=>by
 obtain⟨ds,β1,w,y⟩:=M.bind_inv e;refine⟨F,δ,β,fr,h,E0.run w λJ i t A=>?_⟩;exact my j l m t.fr r hn (h.tr (t.tr fr)) (R.tr u (λo z=>t.kp D o z hn) (t.tr fr)) A y v λd i B=>k d i ((t.toD D).trans B)
theorem JF{D:Oq}{tg:m_}{b:Dn->M (List Pu.D)}(d:ci K g tg)(h:di tg)(i:iY K D tb b):iY K D (xG (iV K it E0) λJ=>cL J g (hE K tt E0) tb) (YH it tg tt b):=nM d h i
noncomputable def lm(nv:Nat)(dc:List Nat)(δ:Dn):Dn:=OY nv Oi++dc.map λj=>δ.getD j Oi
def cf(nv:Nat)(dc:List Nat)(it:Dn->M (List Pu.D))(tg:m_)(tt:Dn->M Bool)(b:Dn->M (List Pu.D)):Dn->M Pu.D:=λδ β=>match it δ β with
 |none=>Oi
 |some (.error C,β1)=>on (.error C,β1)
 |some (.ok ds,β1)=>match nw tg tt b ds (lm nv dc δ) β1 with
  |some (.ok os,β2)=>if os.length<=OS then on (.ok (.lst os),β2)else Oi
  |_=>Oi
theorem pQ{F:Fx}{H:Hp}{dr:List Pj}(h:j2 K F H δ σ):j2 K F H (lm dr.length dc δ) (jy dr dc σ):=by
 refine⟨by simp[lm,jy],λi d e=>?_⟩;unfold lm at e;unfold jy;rw[UQ]at e⊢;rw[Qw]at e⊢;by_cases g:i<dr.length
 .rw[OA g,Q1,OA g]at e
  cases e
 .rw[Ot g,Ou]at e⊢
  cases q:dc[i-dr.length]? with
  |none=>rw[q]at e;cases e
  |some j=>
   rw[q]at e;simp only[QK,Wr]at e⊢;rw[Om]at e;cases z:δ[j]? with
   |none=>rw[z]at e;cases e
   |some w=>
    rw[z]at e;have l:w=on d:=e;subst l;obtain⟨v,m,o⟩:=h.tell j d z;exact⟨v,by rw[Om,m];rfl,o⟩
theorem sI{dr:List Pj}{dc:List Nat}{it:Dn->M (List Pu.D)}{g:TG}{tg:m_}{tt:Dn->M Bool}{P:Oq->TB}{b:Dn->M (List Pu.D)}(Z:ci K g tg)(sg:di tg)(hb:∀D,iY K D (P D) b){T:St}{H:Hp}{Q:VK}(h:tV K (cf dr.length dc it tg tt b) E T H Q):
  oy dr dc (iV K it E) (λD J=>cL J g (hE K tt E0) (P D)) T H Q:=by
 obtain⟨F,δ,β,fr,U,r,v,e,h⟩:=h;unfold cf at e;refine⟨F,δ,β,fr,U,?_⟩;split at e
 .cases e
 .rename_i C β1 q
  cases e;exact⟨.error C,_,q,h⟩
 .rename_i ds β1 q
  split at e
  .rename_i os β2 q2
   split at e
   .rename_i hz
    cases e;refine⟨.ok ds,β1,q,λJ u t hJ D i=>?_⟩;have d:¬F.A D:=t.fr.fresh i;have nb:∀b l,F.bg=on (b,l)->D≠b/\D≠l:=λb l z=>⟨λw=>d (w▸(fr.bgA b l z).1),λw=>d (w▸(fr.bgA b l z).2.1)⟩;have W:=t.fr.upd (.lst []) i;have B:Fr ⟨λa=>F.A a\/a=D,F.bg⟩ (upd u D (.lst [])) β1:=by
     refine⟨λa ha z=>?_,λb l z=>let ⟨x,y,w⟩:=fr.bgA b l z;⟨.inl x,.inl y,w⟩,W.fr.bag⟩
     rcases ha with ha|ha
     .exact W.fr.occ a ha z
     .subst ha;rw[aj]at z;cases z
    have j:Tr F u ⟨λa=>F.A a\/a=D,F.bg⟩ (upd u D (.lst [])):=⟨λa ha hs z=>by
     rcases z with z|z
     .exact ha z
     .subst z;exact hs i,λa o ha z=>by rw[b_ (aw z i)];exact z,rfl⟩
    refine my (R:=RL K) (D:=D) (as:=[]) (os:=os) Z sg (hb D) B (.inr rfl) nb (pQ (U.tr ((t.tr fr).trans j))) ⟨[],aj,rfl⟩ (hJ.tr j) q2 (show os.length<=OS from hz) λσ1 Y I vk3 L=>?_;obtain⟨m,N,O⟩:=L;have tf:To F u Y v:=by
     refine⟨λa o z n=>I.kp a o (by rw[b_ (aw z i)];exact z) (aw z i) n,λa ha z=>I.fr.occ a (QY ha) z,fr.bgA,I.fr.bag⟩
    refine h _ Y (t.trans tf) ⟨D,m,rfl,⟨d,.inl N⟩,bb.tr (F:=⟨λa=>F.A a\/a=D,F.bg⟩) ⟨λa ha _ z=>ha (QY z),λa o _ z=>z,rfl⟩ _ _ O⟩
   .cases e
  .cases e
inductive Sl where
 |sh (d:D)|own (ds:List D)|grd (ba:List (List D))|odc (b:Bool) (ks:List fh) (vs:List D)
abbrev Ds:=List (Option Sl)
inductive tx where
 |nx (δ:Ds)|rt (d:D)|bk (δ:Ds)|ct (δ:Ds)|ex (C:Oq) (δ:Ds)|rg (ba:List (List D))
abbrev G:=Ds->Bg->Option (tx×Bg)
abbrev Ow:=Oq->Option Nat
noncomputable def eo(B:Ow)(bg:Option (Oq×Oq)):Fx:=⟨λa=>B a≠Oi,bg⟩
noncomputable def qk(B:Ow)(bg:Option (Oq×Oq)):Fx:=⟨λa=>B a=on 0\/B a=on 1,bg⟩
def ee(K:OU)(F:Fx)(H:Hp)(P:Oq->Prop):List (List D)->List Oq->Prop
 |[],[]=>True
 |ds::ba,r::rs=>P r/\(∃xs,H r=on (.lst xs)/\bb K F H ds xs)/\ee K F H P ba rs
 |_,_=>False
theorem ee.tr{K:OU}{F i:Fx}{H d:Hp}(t:Tr F H i d):∀{ba:List (List D)} {rs:List Oq},ee K F H P ba rs->(∀r xs,r∈rs->P r->H r=on (.lst xs)->P2 r/\d r=on (.lst xs))->ee K i d P2 ba rs
 |[],[],_,_=>trivial
 |ds::ba,r::rs,h,f=>by
  obtain⟨j,⟨xs,l,m⟩,o⟩:=h;obtain⟨p,q⟩:=f r xs Ox j l;exact⟨p,⟨xs,q,bb.tr t _ _ m⟩,ee.tr t o λu g v=>f u g (Op _ v)⟩
 |[],_::_,h,_=>h.elim
 |_::_,[],h,_=>h.elim
theorem ee.all{K:OU}{F:Fx}{H:Hp}:∀{ba:List (List D)} {rs:List Oq},ee K F H P ba rs->∀r∈rs,P r/\∃xs,H r=on (.lst xs)
 |[],[],_,r,hr=>by cases hr
 |ds::ba,r0::rs,h,r,hr=>by
  obtain⟨d,⟨xs,g,j⟩,i⟩:=h;rcases OK.mp hr with rfl|hr
  .exact⟨d,xs,g⟩
  .exact ee.all i r hr
 |[],_::_,h,_,_=>h.elim
 |_::_,[],h,_,_=>h.elim
theorem ee.den{K:OU}{F d:Fx}{H:Hp}(t:Tr F H d H):∀{ba:List (List D)} {rs:List Oq},ee K F H P ba rs->(∀r,r∈rs->P r->¬d.A r)->bb K d H (ba.map D.lst) (rs.map V.ref)
 |[],[],_,_=>rfl
 |ds::ba,r::rs,h,f=>by
  obtain⟨g,⟨xs,i,j⟩,l⟩:=h;exact bb.cons ⟨r,xs,rfl,⟨f r Ox g,.inl i⟩,bb.tr t _ _ j⟩ (ee.den t l λm o=>f m (Op _ o))
 |[],_::_,h,_=>h.elim
 |_::_,[],h,_=>h.elim
theorem ee.len{K:OU}{F:Fx}{H:Hp}:∀{ba:List (List D)} {rs:List Oq},ee K F H P ba rs->ba.length=rs.length
 |[],[],_=>rfl
 |ds::ba,r::rs,h=>by simp[ee.len h.2.2]
 |[],_::_,h=>h.elim
 |_::_,[],h=>h.elim
def gv(K:OU)(F:Fx)(H0 H:Hp)(ba:List (List D))(v:V):Prop:=∃a rs,v= .ref a/\H0 a=Oi/\H a=on (.lst (rs.map V.ref))/\(a::rs).Nodup/\ee K F H (λr=>H0 r=Oi) ba rs
def YJ(K:OU)(F:Fx)(H:Hp)(a:Oq)(b:Bool)(ks:List fh)(vs:List D):Prop:=∃ep xs,H a=on (bY a b ep xs)/\ks=xs.map (·.1)/\(∀x∈xs,eG K F H b x.1 x.2.1)/\bb K F H vs (xs.map (·.2.2))
theorem YJ.tr{K:OU}{F g:Fx}{H d:Hp}{a:Oq}{b:Bool}(t:Tr F H g d)(h:YJ K F H a b ks vs)(k:∀o,H a=on o->d a=on o):YJ K g d a b ks vs:=by
 obtain⟨ep,xs,i,j,l,m⟩:=h;exact⟨ep,xs,k _ i,j,λx q=>(l x q).tr t,bb.tr t _ _ m⟩
theorem YJ.ne{K:OU}{F:Fx}{H:Hp}{a:Oq}{b:Bool}(h:YJ K F H a b ks vs):H a≠Oi:=by
 obtain⟨ep,xs,d,_⟩:=h;rw[d];simp
def J_(H:Hp)(a:Oq):Prop:=(∃xs,H a=on (.lst xs))\/∃d,H a=on (.ext d)
theorem J_.imp{H d:Hp}{a:Oq}(h:J_ H a)(k:∀o,H a=on o->d a=on o):J_ d a:=Or.imp (λ⟨xs,z⟩=>⟨xs,k _ z⟩) (λ⟨g,z⟩=>⟨g,k _ z⟩) h
def GE(K:OU)(B:Ow)(bg:Option (Oq×Oq))(H:Hp)(i:Nat):Sl->V->Prop
 | .sh d,v=>c4 K (eo B bg) H d v
 | .own ds,v=>∃a xs,v= .ref a/\B a=on (i+2)/\H a=on (.lst xs)/\bb K (eo B bg) H ds xs
 | .grd ba,v=>∃a rs,v= .ref a/\B a=on (i+2)/\H a=on (.lst (rs.map V.ref))/\(a::rs).Nodup/\ee K (eo B bg) H (λr=>B r=on (i+2)) ba rs
 | .odc b ks vs,v=>∃a,v= .ref a/\B a=on (i+2)/\YJ K (eo B bg) H a b ks vs
structure gs (K:OU) (H₀:Hp) (B:Ow) (bg:Option (Oq×Oq)) (H:Hp) (δ:Ds) (β:Bg) (σ:St):Prop where
 fr:Fr (eo B bg) H β
 bgt:∀b l,bg=on (b,l)->B b=on 1/\B l=on 1
 len:δ.length=σ.length
 cov:∀a,H₀ a≠Oi->H a≠Oi
 new:∀a k,B a=on (k+2)->H₀ a=Oi
 lst:∀a k,B a=on (k+2)->J_ H a
 tell:∀(i:Nat) (s:Sl),δ[i]?=on (on s)->∃v,σ[i]?=on (on v)/\GE K B bg H i s v
structure hY (B:Ow) (H:Hp) (B':Ow) (H':Hp):Prop where
 kp:∀a o,H a=on o->(B a=Oi\/B a=on 0)->H' a=on o
 tg:∀a,B a=on 0\/B a=on 1->B' a=B a
 nn:∀a o,H a=on o->B a=Oi->B' a=Oi
 al:∀a,H a≠Oi->H' a≠Oi
theorem hY.refl(B:Ow)(H:Hp):hY B H B H:=⟨λ_ _ h _=>h,λ_ _=>rfl,λ_ _ _ h=>h,λ_ h=>h⟩
theorem hY.trans{H d g:Hp}(a:hY B H B1 d)(b:hY B1 d B2 g):hY B H B2 g:=by
 refine⟨λx o h n=>b.kp x o (a.kp x o h n) ?_,λx h=>?_,λx o h n=>b.nn x o (a.kp x o h (.inl n)) (a.nn x o h n),λx h=>b.al x (a.al x h)⟩
 .rcases n with n|n
  .exact .inl (a.nn x o h n)
  .exact .inr ((a.tg x (.inl n)).trans n)
 .have e:=a.tg x h
  rw[<-e]at h;exact(b.tg x h).trans e
def gR(K:OU)(H₀:Hp)(bg:Option (Oq×Oq))(E:St->XK)(Dn:pw)(B:Ow)(H:Hp)(o:tx)(j:Bg):Prop:=match o with
 | .nx δ'=>∀h i g,hY B H i g->gs K H₀ i bg g δ' j h->Dn.nx h g
 | .bk δ'=>∀h i g,hY B H i g->gs K H₀ i bg g δ' j h->Dn.bk h g
 | .ct δ'=>∀h i g,hY B H i g->gs K H₀ i bg g δ' j h->Dn.ct h g
 | .rt d=>∀v i g,hY B H i g->Fr (eo i bg) g j->c4 K (eo i bg) g d v->Dn.rt v g
 | .rg ba=>∀v i g,hY B H i g->Fr (eo i bg) g j->gv K (eo i bg) H₀ g ba v->Dn.rt v g
 | .ex C δ'=>∀h i g,hY B H i g->gs K H₀ i bg g δ' j h->E h (.ref C) Oi g
theorem gR.pre{K:OU}{E:St->XK}{Dn:pw}{H l:Hp}(s:hY B H B1 l)(h:gR K H₀ bg E Dn B H o β'):gR K H₀ bg E Dn B1 l o β':=by
 cases o with
 |nx δ=>exact λg i j t=>h g i j (s.trans t)
 |bk δ=>exact λg i j t=>h g i j (s.trans t)
 |ct δ=>exact λg i j t=>h g i j (s.trans t)
 |rt d=>exact λv i j t=>h v i j (s.trans t)
 |rg d=>exact λv i j t=>h v i j (s.trans t)
 |ex C δ=>exact λg i j t=>h g i j (s.trans t)
def tG(K:OU)(H₀:Hp)(g:G)(E:St->XK):TS:=λDn h H=>∃B bg δ β o d,gs K H₀ B bg H δ β h/\g δ β=on (o,d)/\gR K H₀ bg E Dn B H o d
theorem _root_.L2.PS.imp{X:Cx}{e:Qe}(h:PS X e t)(f:∀D d H,t' D d H->t D d H):PS X e t':=λg s d H D I q=>h g s d H D I (f D d H q)
theorem _root_.L2.PSs.imp{X:Cx}{e:List Qe}(h:PSs X e t)(f:∀D d H,t' D d H->t D d H):PSs X e t':=λg s d H D I q=>h g s d H D I (f D d H q)
noncomputable def vw(δ:Ds):Dn:=δ.map λs=>match s with
 |some (.sh d)=>on d
 |_=>Oi
noncomputable def j0(δ:Ds):Dn:=δ.map λs=>match s with
 |some (.sh d)=>on d
 |some (.own ds)=>on (.lst ds)
 |some (.grd ba)=>on (.lst (ba.map D.lst))
 |some (.odc b ks vs)=>on (.dct b ks vs)
 |none=>Oi
variable{H₀:Hp}{B:Ow}{bg:Option (Oq×Oq)}{H':Hp}{δ:Ds}{β β':Bg}{σ:St}
theorem M8{i:Nat}{d:D}(e:(vw δ)[i]?=on (on d)):δ[i]?=on (on (.sh d)):=by
 unfold vw at e;rw[Ou]at e;cases q:δ[i]? with
 |none=>rw[q]at e;cases e
 |some z=>
  rw[q]at e;cases z with
  |none=>cases e
  |some s=>
   cases s with
   |sh c=>cases e;rfl
   |own ds=>cases e
   |grd ba=>cases e
   |odc b ks vs=>cases e
theorem gs.view(h:gs K H₀ B bg H δ β σ):j2 K (eo B bg) H (vw δ) σ:=⟨by unfold vw;rw[Oh,h.len],λi d e=>h.tell i _ (M8 e)⟩
theorem YM:Tr (eo B bg) H (qk B bg) H:=⟨λa h _ z=>by
 have h':¬(B a≠Oi):=h;rcases z with z|z
 .exact h' (by rw[z];simp)
 .exact h' (by rw[z];simp),λ_ _ _ h=>h,rfl⟩
theorem gs.frA(h:gs K H₀ B bg H δ β σ):Fr (qk B bg) H β:=⟨λa ha=>h.fr.occ a (by
 show B a≠Oi;rcases ha with z|z<;>rw[z]<;>simp),λb l e=>⟨.inr (h.bgt b l e).1,.inr (h.bgt b l e).2,(h.fr.bgA b l e).2.2⟩,h.fr.bag⟩
theorem gs.viewA(h:gs K H₀ B bg H δ β σ):j2 K (qk B bg) H (j0 δ) σ:=by
 refine⟨by unfold j0;rw[Oh,h.len],λi d e=>?_⟩;unfold j0 at e;rw[Ou]at e;cases q:δ[i]? with
 |none=>rw[q]at e;cases e
 |some z=>
  rw[q]at e;cases z with
  |none=>cases e
  |some s=>
   obtain⟨v,m,o⟩:=h.tell i s q;cases s with
   |sh c=>cases e;exact⟨v,m,c4.tr YM _ _ o⟩
   |own ds=>
    cases e;obtain⟨a,xs,g,j,l,t⟩:=o;refine⟨v,m,a,xs,g,⟨λz=>?_,.inl l⟩,bb.tr YM _ _ t⟩;have z':B a=on 0\/B a=on 1:=z;rw[j]at z';rcases z' with z'|z'<;>cases z'
   |grd ba=>
    cases e;obtain⟨a,rs,g,j,l,t,u⟩:=o;have w:∀c,B c=on (i+2)->¬(qk B bg).A c:=λc y z=>by
     have z':B c=on 0\/B c=on 1:=z;rw[y]at z';rcases z' with z'|z'<;>cases z'
    exact⟨v,m,a,_,g,⟨w a j,.inl l⟩,ee.den YM u λr _ C=>w r C⟩
   |odc b ks vs=>
    cases e;obtain⟨a,g,j,ep,xs,l,t,u,I⟩:=o;refine⟨v,m,?_⟩;unfold c4;refine⟨a,ep,xs,g,⟨λz=>?_,l⟩,t,λx J=>(u x J).tr YM,bb.tr YM _ _ I⟩;have z':B a=on 0\/B a=on 1:=z;rw[j]at z';rcases z' with z'|z'<;>cases z'
theorem gs.to{F:Fx}(h:gs K H₀ B bg H δ β σ)(hF:F.bg=bg)(t:To F H H' β'):gs K H₀ B bg H' δ β' σ/\hY B H B H':=by
 have J:∀a,B a≠on 1->∀b l,F.bg=on (b,l)->a≠b/\a≠l:=λa ha b l e=>by
  rw[hF]at e;exact⟨λz=>ha (z▸(h.bgt b l e).1),λz=>ha (z▸(h.bgt b l e).2)⟩
 have kp:∀a o,H a=on o->B a≠on 1->H' a=on o:=λa o e n=>t.kp a o e (J a n);have fr:Fr (eo B bg) H' β':=⟨λa ha z=>(by
  by_cases L:B a=on 1
  .by_cases g:∃b l,bg=on (b,l)/\(a=b\/a=l)
   .obtain⟨b,l,e,q⟩:=g
    obtain⟨y,A⟩:=t.fr.bag b l (hF.trans e);rcases q with rfl|rfl
    .rw[y]at z;cases z
    .rw[A]at z;cases z
   .cases q:H a with
    |none=>exact h.fr.occ a ha q
    |some o=>
     rw[t.kp a o q λb l e=>⟨λw=>g ⟨b,l,hF.symm.trans e,.inl w⟩,λw=>g ⟨b,l,hF.symm.trans e,.inr w⟩⟩]at z;cases z
  .cases q:H a with
   |none=>exact h.fr.occ a ha q
   |some o=>rw[kp a o q L]at z;cases z),h.fr.bgA,λb l e=>t.fr.bag b l (hF.trans e)⟩
 have tr:Tr (eo B bg) H (eo B bg) H':=⟨λ_ n _=>n,λa o n e=>kp a o e (λz=>n (by show B a≠Oi;rw[z];simp)),rfl⟩;have al:∀a,H a≠Oi->H' a≠Oi:=λa ha z=>by
  by_cases g:∃b l,bg=on (b,l)/\(a=b\/a=l)
  .obtain⟨b,l,e,q⟩:=g
   obtain⟨y,A⟩:=t.fr.bag b l (hF.trans e);rcases q with rfl|rfl
   .rw[y]at z;cases z
   .rw[A]at z;cases z
  .cases q:H a with
   |none=>exact ha q
   |some o=>
    rw[t.kp a o q λb l e=>⟨λw=>g ⟨b,l,hF.symm.trans e,.inl w⟩,λw=>g ⟨b,l,hF.symm.trans e,.inr w⟩⟩]at z;cases z
 refine⟨⟨fr,h.bgt,h.len,λa ha=>al a (h.cov a ha),h.new,λc k I=>(h.lst c k I).imp λo z=>kp c o z (by rw[I];intro z;cases z),λi s e=>?_⟩,λa o e n=>kp a o e (by rcases n with n|n<;>rw[n]<;>simp),λ_ _=>rfl,λ_ _ _ n=>n,al⟩
 obtain⟨v,N,u⟩:=h.tell i s e;refine⟨v,N,?_⟩;cases s with
 |sh c=>exact c4.tr tr _ _ u
 |own ds=>
  obtain⟨a,xs,j,d,m,C⟩:=u;exact⟨a,xs,j,d,kp a _ m (by rw[d];intro z;cases z),bb.tr tr _ _ C⟩
 |grd ba=>
  obtain⟨a,rs,j,d,m,C,O⟩:=u;exact⟨a,rs,j,d,kp a _ m (by rw[d];intro z;cases z),C,ee.tr tr O λr xs _ p q=>⟨p,kp r _ q (by rw[p];intro z;cases z)⟩⟩
 |odc b ks vs=>
  obtain⟨a,j,d,m⟩:=u;exact⟨a,j,d,m.tr tr λo z=>kp a o z (by rw[d];intro z;cases z)⟩
theorem gs.set(h:gs K H₀ B bg H δ β σ)(hd:c4 K (eo B bg) H d v):gs K H₀ B bg H (δ.set i (on (.sh d))) β (σ.set i (on v)):=by
 refine⟨h.fr,h.bgt,by rw[Pl,Pl,h.len],h.cov,h.new,h.lst,λj c e=>?_⟩;rw[Pp]at e;rw[Pp];by_cases q:i=j
 .subst q
  rw[OA rfl]at e⊢;split at e
  .rename_i g
   cases e;rw[OA (by rw[<-h.len];exact g)];exact⟨v,rfl,hd⟩
  .cases e
 .rw[Ot q]at e⊢
  exact h.tell j c e
noncomputable def gNil:G:=λδ β=>on (.nx δ,β)
noncomputable def aN(g h:G):G:=λδ β=>match g δ β with
 |some (.nx δ1,β1)=>h δ1 β1
 |r=>r
def lB(i:Nat)(f:FD):G:=λδ β=>match f (vw δ) β with
 |some (.ok d,β1)=>on (.nx (δ.set i (on (.sh d))),β1)
 |some (.error C,β1)=>on (.ex C δ,β1)
 |none=>Oi
noncomputable def pE(f:FD):G:=λδ β=>match f (j0 δ) β with
 |some (.ok _,β1)=>on (.nx δ,β1)
 |some (.error C,β1)=>on (.ex C δ,β1)
 |none=>Oi
noncomputable def i9(f:FD):G:=λδ β=>match f (j0 δ) β with
 |some (.ok d,β1)=>on (.rt d,β1)
 |some (.error C,β1)=>on (.ex C δ,β1)
 |none=>Oi
noncomputable def y4(t:Dn->M Bool)(g h:G):G:=λδ β=>match t (j0 δ) β with
 |some (.ok On,β1)=>g δ β1
 |some (.ok Os,β1)=>h δ β1
 |some (.error C,β1)=>on (.ex C δ,β1)
 |none=>Oi
variable{st:Qe}{sts:List Qe}
theorem bt:PSs X [] (tG X.K X.H₀ gNil E):=ml.imp λD σ H d=>by
 obtain⟨B,bg,δ,β,o,β',ok,e,h⟩:=d;cases e;exact h σ B H (hY.refl B H) ok
theorem ac(i:PS X st (tG X.K X.H₀ g E))(j:PSs X sts (tG X.K X.H₀ h E)):PSs X (st::sts) (tG X.K X.H₀ (aN g h) E):=(cm i j).imp λD σ H l=>by
 obtain⟨B,bg,δ,β,o,β',ok,e,q⟩:=l;unfold aN at e;split at e
 .rename_i δ1 β1 m
  refine⟨B,bg,δ,β,.nx δ1,β1,ok,m,λt u H' s d=>⟨u,bg,δ1,β1,o,β',d,e,gR.pre s ?_⟩⟩;exact q
 .rename_i r v
  refine⟨B,bg,δ,β,o,β',ok,e,?_⟩;cases o with
  |nx δ1=>exact OX e (v δ1 β')
  |_=>exact q
theorem ai(d:PS X st (tG X.K X.H₀ g E)):PSs X [st] (tG X.K X.H₀ g E):=gT d
theorem aG{x:Pj}{f:FD}(h:PS X (.Assign [.Name x pos'] e pos) (ff (tV X.K f E) (dC i))):PS X (.Assign [.Name x pos'] e pos) (tG X.K X.H₀ (lB i f) E):=h.imp λD σ H m=>by
 obtain⟨B,bg,δ,β,o,β',ok,e,q⟩:=m;refine⟨eo B bg,vw δ,β,ok.fr,ok.view,?_⟩;unfold lB at e;split at e
 .rename_i d β1 j
  cases e;refine⟨.ok d,_,j,λv H' t hd=>?_⟩;obtain⟨g,l⟩:=ok.to rfl t;exact q _ B H' l (g.set hd)
 .rename_i C β1 j
  cases e;refine⟨.error C,_,j,λH' t=>?_⟩;obtain⟨g,l⟩:=ok.to rfl t;exact q _ B H' l g
 .cases e
theorem oN{f:FD}(h:PS X (.Expr e pos) (ww (tV X.K f E))):PS X (.Expr e pos) (tG X.K X.H₀ (pE f) E):=h.imp λD σ H l=>by
 obtain⟨B,bg,δ,β,o,β',ok,e,q⟩:=l;refine⟨qk B bg,j0 δ,β,ok.frA,ok.viewA,?_⟩;unfold pE at e;split at e
 .rename_i d β1 i
  cases e;refine⟨.ok d,_,i,λv H' t hd=>?_⟩;obtain⟨g,j⟩:=ok.to rfl t;exact q _ B H' j g
 .rename_i C β1 i
  cases e;refine⟨.error C,_,i,λH' t=>?_⟩;obtain⟨g,j⟩:=ok.to rfl t;exact q _ B H' j g
 .cases e
noncomputable def fX(B:Ow):Ow:=λa=>if B a=on 0\/B a=on 1 then B a else Oi
theorem Lp{B:Ow}{bg:Option (Oq×Oq)}{H:Hp}:Tr (qk B bg) H (eo (fX B) bg) H:=⟨λa h _ z=>by
 have d:fX B a≠Oi:=z;unfold fX at d;split at d
 .rename_i q;exact h q
 .exact d rfl,λ_ _ _ h=>h,rfl⟩
theorem CQ{B:Ow}{H:Hp}:hY B H (fX B) H:=⟨λ_ _ h _=>h,λa h=>by unfold fX;rw[OA h],λa o h n=>by unfold fX;rw[n];simp,λ_ h=>h⟩
theorem aK{f:FD}(h:PS X (.Return (on e) pos) (ng (tV X.K f E))):PS X (.Return (on e) pos) (tG X.K X.H₀ (i9 f) E):=h.imp λD σ H r=>by
 obtain⟨B,bg,δ,β,o,β',ok,e,q⟩:=r;refine⟨qk B bg,j0 δ,β,ok.frA,ok.viewA,?_⟩;unfold i9 at e;split at e
 .rename_i d β1 j
  cases e;refine⟨.ok d,_,j,λv H' t hd=>?_⟩;obtain⟨g,m⟩:=ok.to rfl t;refine q _ (fX B) H' (m.trans CQ) ⟨λa ha=>g.fr.occ a ?_,λb l e=>?_,g.fr.bag⟩ (c4.tr Lp _ _ hd)
  .have i:fX B a≠Oi:=ha
   show B a≠Oi;unfold fX at i;split at i
   .exact i
   .exact OX rfl i
  .refine⟨?_,?_,(g.fr.bgA b l e).2.2⟩
   .show fX B b≠Oi
    unfold fX;rw[OA (.inr (ok.bgt b l e).1),(ok.bgt b l e).1];simp
   .show fX B l≠Oi
    unfold fX;rw[OA (.inr (ok.bgt b l e).2),(ok.bgt b l e).2];simp
 .rename_i C β1 j
  cases e;refine⟨.error C,_,j,λH' t=>?_⟩;obtain⟨g,m⟩:=ok.to rfl t;exact q _ B H' m g
 .cases e
theorem bS{c:Expr}{a b:List Qe}(l:PT X c (hE X.K t E))(ha:PSs X a (tG X.K X.H₀ g E))(m:PSs X b (tG X.K X.H₀ h E)):PS X (.If c a b pos) (tG X.K X.H₀ (y4 t g h) E):=(wL l ha m).imp λD σ H r=>by
 obtain⟨B,bg,δ,β,o,β',ok,e,q⟩:=r;refine⟨qk B bg,j0 δ,β,ok.frA,ok.viewA,?_⟩;unfold y4 at e;split at e
 .rename_i β1 i
  refine⟨.ok On,_,i,λv H' t hd=>?_⟩;subst hd;obtain⟨d,j⟩:=ok.to rfl t;rw[OA rfl];exact⟨B,bg,δ,β1,o,β',d,e,gR.pre j q⟩
 .rename_i β1 i
  refine⟨.ok Os,_,i,λv H' t hd=>?_⟩;subst hd;obtain⟨d,j⟩:=ok.to rfl t;rw[Ot OE];exact⟨B,bg,δ,β1,o,β',d,e,gR.pre j q⟩
 .rename_i C β1 i
  cases e;refine⟨.error C,_,i,λH' t=>?_⟩;obtain⟨d,j⟩:=ok.to rfl t;exact q _ B H' j d
 .cases e
abbrev D1:=D->Ds->Option Ds
abbrev lS:=List D->Ds->Option Ds
def kn(K:OU)(g:TG)(tg:D1):Prop:=∀(H₀:Hp) (B:Ow) (bg:Option (Oq×Oq)) (H:Hp) (δ δ1:Ds) (β:Bg) (σ:St) (d:D) (v:V) (Q:St->Hp->Prop),gs K H₀ B bg H δ β σ->c4 K (eo B bg) H d v->tg d δ=on δ1->(∀h,gs K H₀ B bg H δ1 β h->Q h H)->g v σ H Q
def pT(K:OU)(g:P_)(tg:lS):Prop:=∀(H₀:Hp) (B:Ow) (bg:Option (Oq×Oq)) (H:Hp) (δ δ1:Ds) (β:Bg) (σ:St) (ds:List D) (vs:List V) (Q:St->Hp->Prop),gs K H₀ B bg H δ β σ->bb K (eo B bg) H ds vs->tg ds δ=on δ1->(∀d,gs K H₀ B bg H δ1 β d->Q d H)->g vs σ H Q
noncomputable def sgN(i:Nat):D1:=λd δ=>on (δ.set i (on (.sh d)))
noncomputable def Kv:lS:=λds δ=>match ds with
 |[]=>on δ
 |_=>Oi
noncomputable def Ku(t:D1)(u:lS):lS:=λds δ=>match ds with
 |[]=>Oi
 |d::r=>(t d δ).bind λδ1=>u r δ1
noncomputable def sgT(t:lS):D1:=λd δ=>match d with
 | .tup ds=>t ds δ
 |_=>Oi
theorem aE:kn K (dC i) (sgN i):=λH₀ B bg H δ δ1 β σ d v Q ok hd e k=>by
 cases e;exact k _ (ok.set hd)
theorem eZ:pT K L2.gNil Kv:=λH₀ B bg H δ δ1 β σ ds vs Q ok hd e k=>by
 cases ds with
 |nil=>cases e;exact⟨hd,k _ ok⟩
 |cons _ _=>cases e
theorem bC(m:kn K t tf)(o:pT K u uf):pT K (xp t u) (Ku tf uf):=λH₀ B bg H δ δ1 β σ ds vs Q ok hd e k=>by
 cases ds with
 |nil=>cases e
 |cons d r=>
  obtain⟨x,l,rfl,v,w⟩:=hd;have h:(tf d δ).bind (λδ1=>uf r δ1)=on δ1:=e;cases q:tf d δ with
  |none=>rw[q]at h;cases h
  |some g=>
   rw[q]at h;exact⟨x,l,rfl,m H₀ B bg H δ g β σ d x _ ok v q λi j=>o H₀ B bg H g δ1 β i r l Q j w h k⟩
theorem dP:∀ds δ δ1,Kv ds δ=on δ1->ds.length=0:=λds δ δ1 h=>by
 cases ds with
 |nil=>rfl
 |cons _ _=>cases h
theorem bB{n:Nat}(h:∀ds δ δ1,u ds δ=on δ1->ds.length=n):∀ds δ δ1,Ku t u ds δ=on δ1->ds.length=n+1:=λds δ δ1 e=>by
 cases ds with
 |nil=>cases e
 |cons d r=>
  have g:(t d δ).bind (λδ1=>u r δ1)=on δ1:=e;cases q:t d δ with
  |none=>rw[q]at g;cases g
  |some i=>rw[q]at g;rw[OO,h _ _ _ g]
theorem gl{n:Nat}(h:pT K t tf)(hn:∀ds δ δ1,tf ds δ=on δ1->ds.length=n):kn K (DI K n t) (sgT tf):=λH₀ B bg H δ δ1 β σ d v Q ok hd e k=>by
 cases d<;>first
  |(obtain⟨a,xs,rfl,sq,g⟩:=c4.sqT hd;exact⟨a,xs,rfl,sq,by rw[<-g.length];exact hn _ _ _ e,h H₀ B bg H δ δ1 β σ _ xs Q ok g e k⟩)
  |cases e
def xt(f:FD)(tg:D1):G:=λδ β=>match f (vw δ) β with
 |some (.ok d,β1)=>(tg d δ).map λδ1=>(.nx δ1,β1)
 |some (.error C,β1)=>on (.ex C δ,β1)
 |none=>Oi
theorem HD{f:FD}{tg:D1}(l:kn X.K g tg)(h:PS X (.Assign [tgt] e pos) (ff (tV X.K f E) g)):PS X (.Assign [tgt] e pos) (tG X.K X.H₀ (xt f tg) E):=h.imp λD σ H w=>by
 obtain⟨B,bg,δ,β,o,β',ok,e,q⟩:=w;refine⟨eo B bg,vw δ,β,ok.fr,ok.view,?_⟩;unfold xt at e;split at e
 .rename_i d β1 j
  cases q1:tg d δ with
  |none=>rw[q1]at e;cases e
  |some δ1=>
   rw[q1]at e;cases e;refine⟨.ok d,_,j,λv H' t hd=>?_⟩;obtain⟨i,m⟩:=ok.to rfl t;exact l X.H₀ B bg H' δ δ1 _ σ d v _ i hd q1 λr u=>q r B H' m u
 .rename_i C β1 j
  cases e;refine⟨.error C,_,j,λH' t=>?_⟩;obtain⟨i,m⟩:=ok.to rfl t;exact q _ B H' m i
 .cases e
def xq(i:Nat)(op:D->D->Option D)(f:FD):G:=λδ β=>match(vw δ).getD i Oi with
 |none=>Oi
 |some c=>match f (vw δ) β with
  |some (.ok d,β1)=>(op c d).map λz=>(.nx (δ.set i (on (.sh z))),β1)
  |some (.error C,β1)=>on (.ex C δ,β1)
  |none=>Oi
theorem oO{f:FD}(l:aX X.K ti op)(h:PS X st (Kk i (tV X.K f E) ti)):PS X st (tG X.K X.H₀ (xq i op f) E):=h.imp λD σ H I=>by
 obtain⟨B,bg,δ,β,o,β',ok,e,q⟩:=I;unfold xq at e;split at e
 .cases e
 .rename_i c j
  have m:(vw δ)[i]?=on (on c):=by
   rw[Om]at j;cases z:(vw δ)[i]? with
   |none=>rw[z]at j;cases j
   |some w=>rw[z]at j;simp at j;rw[j]
  obtain⟨v,J,L⟩:=ok.view.tell i c m;refine⟨v,J,eo B bg,vw δ,β,ok.fr,ok.view,?_⟩;split at e
  .rename_i d β1 r
   cases q1:op c d with
   |none=>rw[q1]at e;cases e
   |some z=>
    rw[q1]at e;cases e;refine⟨.ok d,_,r,λw H' t hd=>?_⟩;obtain⟨g,y⟩:=ok.to rfl t;refine l (eo B bg) H' β' _ c d z v w t.fr (c4.tr (t.tr ok.fr) _ _ L) hd q1 λu N O P=>?_;obtain⟨A,Q⟩:=g.to rfl O;exact q _ B N (y.trans Q) (A.set P)
  .rename_i C β1 r
   cases e;refine⟨.error C,_,r,λH' t=>?_⟩;obtain⟨g,y⟩:=ok.to rfl t;exact q _ B H' y g
  .cases e
theorem hY.tr{B d:Ow}{H H':Hp}{bg:Option (Oq×Oq)}(s:hY B H d H'):Tr (eo B bg) H (eo d bg) H':=
 ⟨λa h hs z=>by
  have hn:B a=Oi:=by
   cases q:B a with
   |none=>rfl
   |some t=>exact OX (show B a≠Oi by rw[q];simp) h
  cases q:H a with
  |none=>exact hs q
  |some o=>exact z (s.nn a o q hn),λa o h e=>s.kp a o e (.inl (by
  cases q:B a with
  |none=>rfl
  |some t=>exact OX (show B a≠Oi by rw[q];simp) h)),rfl⟩
noncomputable def pa(tg:D1)(g:G):List D->G
 |[],δ,β=>on (.nx δ,β)
 |d::ds,δ,β=>match tg d δ with
  |none=>Oi
  |some δ1=>match g δ1 β with
   |some (.nx δ2,β2)=>pa tg g ds δ2 β2
   |some (.ct δ2,β2)=>pa tg g ds δ2 β2
   |some (.bk δ2,β2)=>on (.nx δ2,β2)
   |r=>r
def mG(it:Ds->M (List D))(tg:D1)(g:G):G:=λδ β=>match it δ β with
 |some (.ok ds,β1)=>pa tg g ds δ β1
 |some (.error C,β1)=>on (.ex C δ,β1)
 |none=>Oi
abbrev Z4(it:FL):D1->G->G:=mG λδ=>it (vw δ)
theorem yt{tg:D1}(hw:∀{B bg H δ β σ R},gs X.K X.H₀ B bg H δ β σ->run (λH' (ds:List D) (J:It)=>v_ X.K J (eo B bg) H' ds) (eo B bg) E σ (it δ) H R β->wi σ H R)(l:kn X.K tgg tg)(h:PS X (.For tgt iter body [] pos) (wv wi tgg (tG X.K X.H₀ g E))):PS X (.For tgt iter body [] pos) (tG X.K X.H₀ (mG it tg g) E):=h.imp λD σ H h_=>by
 obtain⟨B,bg,δ,β,o,β',ok,e,q⟩:=h_;refine hw ok ?_;unfold mG at e;split at e
 .rename_i ds β1 e1
  refine⟨.ok ds,_,e1,λJ H1 t hJ=>?_⟩;obtain⟨ok1,s1⟩:=ok.to rfl t;refine⟨λi m A T=>m+i=ds.length/\∃y I β2,hY B H1 y T/\gs X.K X.H₀ y bg T I β2 A/\pa tg g (ds.drop i) I β2=on (o,β'),⟨ds.length,by omega,B,δ,β1,hY.refl B H1,ok1,e⟩,?_⟩;rintro i m A T ⟨hm,y,I,β2,U,u,r⟩;obtain⟨iy,is⟩:=hJ (eo y bg) T β2 U.tr u.fr i;cases hi:ds[i]? with
  |none=>
   have hl:ds.length<=i:=T3.mp hi;rw[RB hl]at r;cases r;exact .inl ⟨is (by omega),q A y T (s1.trans U) u⟩
  |some d=>
   have hl:i<ds.length:=(OF.mp hi).1;obtain⟨go,yl⟩:=iy d hi;have ed:ds.drop i=d::ds.drop (i+1):=by
    rw[P9 hl];congr 1;exact O8 ((Oo hl).symm.trans hi)
   rw[ed]at r;unfold pa at r;split at r
   .cases r
   .rename_i v e3
    refine .inr ⟨go,λW H9=>∃B9 L N,hY B H1 B9 H9/\gs X.K X.H₀ B9 bg H9 L N W/\pa tg g (ds.drop (i+1)) L N=on (o,β'),λW H9 ⟨B9,L,N,z1,z2,z3⟩=>⟨m-1,by omega,by omega,B9,L,N,z1,z2,z3⟩,λx H3 hy=>?_⟩;obtain⟨sm,dx⟩:=yl x H3 hy;obtain⟨ok3,s3⟩:=u.to rfl (u.fr.same sm);refine l X.H₀ y bg H3 I v β2 A d x _ ok3 dx e3 λσ4 O=>?_;have P:=U.trans s3;split at r
    .rename_i j β5 Y
     exact⟨y,bg,v,β2,.nx j,β5,O,Y,λQ Z H6 s6 w=>⟨Z,j,β5,P.trans s6,w,r⟩⟩
    .rename_i j β5 Y
     exact⟨y,bg,v,β2,.ct j,β5,O,Y,λQ Z H6 s6 w=>⟨Z,j,β5,P.trans s6,w,r⟩⟩
    .rename_i j β5 Y
     cases r;exact⟨y,bg,v,β2,.bk j,_,O,Y,λQ Z H6 s6 w=>q Q Z H6 (s1.trans (P.trans s6)) w⟩
    .rename_i x h1 h2 h3
     refine⟨y,bg,v,β2,o,β',O,r,?_⟩;have q2:=gR.pre (s1.trans P) q;cases o with
     |nx j=>exact OX r (h1 _ _)
     |ct j=>exact OX r (h2 _ _)
     |bk j=>exact OX r (h3 _ _)
     |rt d=>exact q2
     |rg d=>exact q2
     |ex C j=>exact q2
 .rename_i C β1 e1
  cases e;refine⟨.error C,_,e1,λH' t=>?_⟩;obtain⟨u,U⟩:=ok.to rfl t;exact q _ B H' U u
 .cases e
theorem bx{tg:D1}(l:kn X.K tgg tg)(h:PS X (.For tgt iter body [] pos) (wv (iV X.K it E) tgg (tG X.K X.H₀ g E))):PS X (.For tgt iter body [] pos) (tG X.K X.H₀ (Z4 it tg g) E):=yt (λok r=>⟨_,_,_,ok.fr,ok.view,r⟩) l h
theorem gs.newAt{H₀:Hp}{B:Ow}{bg:Option (Oq×Oq)}{H:Hp}{δ:Ds}{β:Bg}{σ:St}{p:Oq}(ok:gs K H₀ B bg H δ β σ)(m:H p=Oi)(Y:J_ (upd H p u) p)(hd:∀{R:Ow},R p=on (i+2)->Tr (eo B bg) H (eo R bg) (upd H p u)->GE K R bg (upd H p u) i sl (.ref p)):
  gs K H₀ (λa=>if a=p then on (i+2)else B a) bg (upd H p u) (δ.set i (on sl)) β (σ.set i (on (.ref p)))/\hY B H (λa=>if a=p then on (i+2)else B a) (upd H p u):=by
 have hB:B p=Oi:=by
  cases q:B p with
  |none=>rfl
  |some t=>exact OX m (ok.fr.occ p (by show B p≠Oi;rw[q];simp))
 have I:hY B H (λa=>if a=p then on (i+2)else B a) (upd H p u):=by
  refine⟨λa o h _=>by rw[b_ (aw h m)];exact h,λa h=>?_,λa o h n=>?_,?_⟩
  .have:a≠p:=λz=>by subst z;rw[hB]at h;rcases h with h|h<;>cases h
   simp only[Ot this]
  .simp only[Ot (aw h m)];exact n
  .exact λa ha=>by
    by_cases z:a=p
    .subst z;rw[aj];simp
    .rw[b_ z];exact ha
 have tr:Tr (eo B bg) H (eo (λa=>if a=p then on (i+2)else B a) bg) (upd H p u):=I.tr;have T:∀b l,bg=on (b,l)->b≠p/\l≠p:=λb l e=>by
  obtain⟨b1,b2⟩:=ok.bgt b l e;exact⟨λz=>(by subst z;rw[hB]at b1;cases b1),λz=>(by subst z;rw[hB]at b2;cases b2)⟩
 refine⟨⟨⟨λa ha z=>?_,λb l e=>?_,λb l e=>?_⟩,λb l e=>?_,by rw[Pl,Pl,ok.len],λa ha=>I.al a (ok.cov a ha),λc k U=>(by
  have g:(if c=p then on (i+2)else B c)=on (k+2):=U;by_cases z:c=p
  .cases w:H₀ c with
   |none=>rfl
   |some o=>exact OX (z▸m) (ok.cov c (by rw[w];simp))
  .rw[Ot z]at g;exact ok.new c k g),λc k U=>(by
  have g:(if c=p then on (i+2)else B c)=on (k+2):=U;by_cases z:c=p
  .subst z;exact Y
  .rw[Ot z]at g;exact(ok.lst c k g).imp λo y=>by rw[b_ z];exact y),λj s e=>?_⟩,I⟩
 .by_cases q:a=p
  .subst q;rw[aj]at z;cases z
  .rw[b_ q]at z
   have J:(if a=p then on (i+2)else B a)≠Oi:=ha;rw[Ot q]at J;exact ok.fr.occ a J z
 .obtain⟨L,N⟩:=T b l e
  obtain⟨b1,b2⟩:=ok.bgt b l e;refine⟨?_,?_,(ok.fr.bgA b l e).2.2⟩
  .show(if b=p then on (i+2)else B b)≠Oi
   rw[Ot L,b1];simp
  .show(if l=p then on (i+2)else B l)≠Oi
   rw[Ot N,b2];simp
 .obtain⟨L,N⟩:=T b l e
  rw[b_ L,b_ N];exact ok.fr.bag b l e
 .obtain⟨L,N⟩:=T b l e
  simp only[Ot L,Ot N];exact ok.bgt b l e
 .rw[Pp]at e
  rw[Pp];by_cases q:i=j
  .subst q
   rw[OA rfl]at e⊢;split at e
   .rename_i Z
    cases e;rw[OA (by rw[<-ok.len];exact Z)];exact⟨_,rfl,hd (OA rfl) tr⟩
   .cases e
  .rw[Ot q]at e⊢
   obtain⟨v,h1,Q⟩:=ok.tell j s e;refine⟨v,h1,?_⟩;cases s with
   |sh d=>exact c4.tr tr _ _ Q
   |own cs=>
    obtain⟨a,ys,O,P,A,W⟩:=Q;have C:=aw A m;exact⟨a,ys,O,by simp only[Ot C];exact P,by rw[b_ C];exact A,bb.tr tr _ _ W⟩
   |grd ba=>
    obtain⟨a,rs,O,P,A,W,e5⟩:=Q;have C:=aw A m;exact⟨a,rs,O,by simp only[Ot C];exact P,by rw[b_ C];exact A,W,ee.tr tr e5 λr zs _ p q=>⟨by simp only[Ot (aw q m)];exact p,by rw[b_ (aw q m)];exact q⟩⟩
   |odc b ks vs=>
    obtain⟨a,O,P,A⟩:=Q;have C:a≠p:=λz=>A.ne (z▸m);exact⟨a,O,by simp only[Ot C];exact P,A.tr tr λo z=>by rw[b_ C];exact z⟩
theorem gs.writeAt{H₀:Hp}{B:Ow}{bg:Option (Oq×Oq)}{H:Hp}{δ:Ds}{β:Bg}{σ:St}{a:Oq}(ok:gs K H₀ B bg H δ β σ)(hs:σ[i]?=on (on (.ref a)))(hB:B a=on (i+2))(N:J_ (upd H a u) a)(hd:Tr (eo B bg) H (eo B bg) (upd H a u)->GE K B bg (upd H a u) i sl (.ref a)):
  gs K H₀ B bg (upd H a u) (δ.set i (on sl)) β σ/\hY B H B (upd H a u):=by
 have m:hY B H B (upd H a u):=by
  refine⟨λc o h n=>?_,λ_ _=>rfl,λ_ _ _ n=>n,λc w=>?_⟩
  .rw[b_]
   .exact h
   .intro z;subst z;rw[hB]at n;rcases n with n|n<;>cases n
  .by_cases z:c=a
   .subst z;rw[aj];simp
   .rw[b_ z];exact w
 have tr:Tr (eo B bg) H (eo B bg) (upd H a u):=m.tr;refine⟨⟨⟨λc w z=>?_,ok.fr.bgA,λb l e=>?_⟩,ok.bgt,by rw[Pl,ok.len],λa ha=>m.al a (ok.cov a ha),ok.new,λc k w=>(by
  by_cases z:c=a
  .subst z;exact N
  .exact(ok.lst c k w).imp λo y=>by rw[b_ z];exact y),λj s e=>?_⟩,m⟩
 .by_cases q:c=a
  .subst q;rw[aj]at z;cases z
  .rw[b_ q]at z;exact ok.fr.occ c w z
 .obtain⟨b1,b2⟩:=ok.bgt b l e
  rw[b_ (λz=>by subst z;rw[hB]at b1;cases b1),b_ (λz=>by subst z;rw[hB]at b2;cases b2)];exact ok.fr.bag b l e
 .rw[Pp]at e
  by_cases q:i=j
  .subst q
   rw[OA rfl]at e;split at e
   .cases e
    exact⟨_,hs,hd tr⟩
   .cases e
  .rw[Ot q]at e
   obtain⟨v,O,I⟩:=ok.tell j s e;refine⟨v,O,?_⟩;cases s with
   |sh d=>exact c4.tr tr _ _ I
   |own cs=>
    obtain⟨c,L,A,g,C,J⟩:=I;have t:c≠a:=λz=>by subst z;rw[hB]at g;cases g;exact q rfl
    exact⟨c,L,A,g,by rw[b_ t];exact C,bb.tr tr _ _ J⟩
   |grd ba=>
    obtain⟨c,rs,A,g,C,J,P⟩:=I;have t:∀c,B c=on (j+2)->c≠a:=λc g z=>by subst z;rw[hB]at g;cases g;exact q rfl
    exact⟨c,rs,A,g,by rw[b_ (t c g)];exact C,J,ee.tr tr P λr L _ p q=>⟨p,by rw[b_ (t r p)];exact q⟩⟩
   |odc b ks vs=>
    obtain⟨c,A,g,C⟩:=I;have t:c≠a:=λz=>by subst z;rw[hB]at g;cases g;exact q rfl
    exact⟨c,A,g,C.tr tr λo z=>by rw[b_ t];exact z⟩
theorem gs.newOwn{H₀:Hp}{B:Ow}{bg:Option (Oq×Oq)}{H:Hp}{δ:Ds}{β:Bg}{σ:St}{p:Oq}(ok:gs K H₀ B bg H δ β σ)(d:H p=Oi)(hd:bb K (eo B bg) H ds xs):
  gs K H₀ (λa=>if a=p then on (i+2)else B a) bg (upd H p (.lst xs)) (δ.set i (on (.own ds))) β (σ.set i (on (.ref p)))/\hY B H (λa=>if a=p then on (i+2)else B a) (upd H p (.lst xs)):=ok.newAt d (.inl ⟨xs,aj⟩) λe t=>⟨p,xs,rfl,e,aj,bb.tr t _ _ hd⟩
theorem gs.writeOwn{H₀:Hp}{B:Ow}{bg:Option (Oq×Oq)}{H:Hp}{δ:Ds}{β:Bg}{σ:St}{a:Oq}(ok:gs K H₀ B bg H δ β σ)(hs:σ[i]?=on (on (.ref a)))(hB:B a=on (i+2))(ha:H a=on (.lst ys))(hd:bb K (eo B bg) H ds xs):
  gs K H₀ B bg (upd H a (.lst xs)) (δ.set i (on (.own ds))) β σ/\hY B H B (upd H a (.lst xs)):=ok.writeAt hs hB (.inl ⟨xs,aj⟩) λt=>⟨a,xs,rfl,hB,aj,bb.tr t _ _ hd⟩
def xo(i:Nat)(f:FL):G:=λδ β=>match f (vw δ) β with
 |some (.ok ds,β1)=>if ds.length<=OS then on (.nx (δ.set i (on (.own ds))),β1)else Oi
 |some (.error C,β1)=>on (.ex C δ,β1)
 |none=>Oi
theorem me{f:FL}(h:PS X st (ff (Kh (j1 X.K f E)) (dC i))):PS X st (tG X.K X.H₀ (xo i f) E):=h.imp λD σ H m=>by
 obtain⟨B,bg,δ,β,o,β',ok,e,q⟩:=m;refine⟨eo B bg,vw δ,β,ok.fr,ok.view,?_⟩;unfold xo at e;split at e
 .rename_i ds β1 g
  split at e
  .rename_i r
   cases e;refine⟨.ok ds,_,g,λvs H' t hd=>⟨by rw[<-hd.length];exact r,λp u=>?_⟩⟩;obtain⟨d,j⟩:=ok.to rfl t;obtain⟨l,v⟩:=d.newOwn (i:=i) u hd;exact q _ _ _ (j.trans v) l
  .cases e
 .rename_i C β1 g
  cases e;refine⟨.error C,_,g,λH' t=>?_⟩;obtain⟨d,j⟩:=ok.to rfl t;exact q _ B H' j d
 .cases e
def xu(i:Nat)(f:FL):G:=λδ β=>match δ.getD i Oi with
 |some (.own cs)=>match f (vw δ) β with
  |some (.ok [d],β1)=>if cs.length<OS then on (.nx (δ.set i (on (.own (cs++[d])))),β1)else Oi
  |some (.error C,β1)=>on (.ex C δ,β1)
  |_=>Oi
 |_=>Oi
theorem getD_some{α:Type}{δ:List (Option α)}{i:Nat}{s:α}(h:δ.getD i Oi=on s):δ[i]?=on (on s):=by
 rw[Om]at h;cases z:δ[i]? with
 |none=>rw[z]at h;cases h
 |some w=>rw[z]at h;simp at h;rw[h]
theorem jJ{f:FL}(h:PS X st (ww (tBM X.K "list" vf (jI i) (j1 X.K f E)))):PS X st (tG X.K X.H₀ (xu i f) E):=h.imp λD σ H L=>by
 obtain⟨B,bg,δ,β,o,β',ok,e,q⟩:=L;unfold xu at e;split at e
 .rename_i cs J
  obtain⟨v,u,a,ys,rfl,N,O,U⟩:=ok.tell i _ (getD_some J);refine⟨_,u,.inl ⟨rfl,ys,fy.of O⟩,eo B bg,vw δ,β,ok.fr,ok.view,?_⟩;split at e
  .rename_i d β1 w
   split at e
   .rename_i P
    cases e;refine⟨.ok [d],_,w,λvs H' t hd=>?_⟩;obtain⟨g,y⟩:=ok.to rfl t;obtain⟨v,rfl,Q⟩:=bb.one hd;obtain⟨W,j,Y,l,A,R,m,r⟩:=g.tell i _ (getD_some J);rw[u]at j;cases j;cases A;refine⟨a,l,v,rfl,rfl,m,by rw[<-r.length];exact P,?_⟩;obtain⟨I,T⟩:=g.writeOwn (ds:=cs++[d]) (xs:=l++[v]) u N m (bb.append r (bb.cons Q bb.nil));exact q _ _ _ (y.trans T) I
   .cases e
  .rename_i C β1 w
   cases e;refine⟨.error C,_,w,λH' t=>?_⟩;obtain⟨g,y⟩:=ok.to rfl t;exact q _ B H' y g
  .cases e
 .cases e
noncomputable def fz(i:Nat)(δ:Ds):Ds:=match δ.getD i Oi with
 |some (.own ds)=>δ.set i (on (.sh (.lst ds)))
 |some (.grd ba)=>δ.set i (on (.sh (.lst (ba.map D.lst))))
 |some (.odc b ks vs)=>δ.set i (on (.sh (.dct b ks vs)))
 |_=>δ
theorem gs.freeze{H₀:Hp}{B:Ow}{bg:Option (Oq×Oq)}{H:Hp}{δ:Ds}{β:Bg}{σ:St}(i:Nat)(ok:gs K H₀ B bg H δ β σ):∃B',gs K H₀ B' bg H (fz i δ) β σ/\hY B H B' H:=by
 unfold fz;split
 .rename_i ds O
  obtain⟨v,P,a,ys,Q,u,R,Y⟩:=ok.tell i _ (getD_some O);have t:hY B H (λc=>if c=a then Oi else B c) H:=by
   refine⟨λ_ _ h _=>h,λc hc=>?_,λc o h n=>?_,λ_ h=>h⟩
   .have:c≠a:=λz=>by subst z;rw[u]at hc;rcases hc with hc|hc<;>cases hc
    simp only[Ot this]
   .by_cases z:c=a
    .simp only[OA z]
    .simp only[Ot z];exact n
  have tr:Tr (eo B bg) H (eo (λc=>if c=a then Oi else B c) bg) H:=t.tr;have J:∀b l,bg=on (b,l)->b≠a/\l≠a:=λb l e=>by
   obtain⟨b1,b2⟩:=ok.bgt b l e;exact⟨λz=>(by subst z;rw[u]at b1;cases b1),λz=>(by subst z;rw[u]at b2;cases b2)⟩
  refine⟨λc=>if c=a then Oi else B c,⟨⟨λc hc=>ok.fr.occ c ?_,λb l e=>?_,ok.fr.bag⟩,λb l e=>?_,by rw[Pl,ok.len],ok.cov,λc k hc=>(by
   have g:(if c=a then Oi else B c)=on (k+2):=hc;split at g
   .cases g
   .exact ok.new c k g),λc k hc=>(by
   have g:(if c=a then Oi else B c)=on (k+2):=hc;split at g
   .cases g
   .exact ok.lst c k g),λj s e=>?_⟩,t⟩
  .have g:(if c=a then Oi else B c)≠Oi:=hc
   split at g
   .exact OX rfl g
   .exact g
  .obtain⟨y,C⟩:=J b l e
   obtain⟨b1,b2⟩:=ok.bgt b l e;refine⟨?_,?_,(ok.fr.bgA b l e).2.2⟩
   .show(if b=a then Oi else B b)≠Oi
    rw[Ot y,b1];simp
   .show(if l=a then Oi else B l)≠Oi
    rw[Ot C,b2];simp
  .obtain⟨y,C⟩:=J b l e
   simp only[Ot y,Ot C];exact ok.bgt b l e
  .rw[Pp]at e
   by_cases q:i=j
   .subst q
    rw[OA rfl]at e;split at e
    .cases e
     refine⟨_,P,a,ys,Q,⟨λz=>?_,.inl R⟩,bb.tr tr _ _ Y⟩;have L:(if a=a then Oi else B a)≠Oi:=z;rw[OA rfl]at L;exact L rfl
    .cases e
   .rw[Ot q]at e
    obtain⟨T,U,w⟩:=ok.tell j s e;refine⟨T,U,?_⟩;cases s with
    |sh d=>exact c4.tr tr _ _ w
    |own cs=>
     obtain⟨c,N,d1,d2,d3,I⟩:=w;have m:c≠a:=λz=>by subst z;rw[u]at d2;cases d2;exact q rfl
     exact⟨c,N,d1,by simp only[Ot m];exact d2,d3,bb.tr tr _ _ I⟩
    |grd ba=>
     obtain⟨c,rs,d1,d2,d3,I,W⟩:=w;have m:∀c,B c=on (j+2)->c≠a:=λc d2 z=>by subst z;rw[u]at d2;cases d2;exact q rfl
     exact⟨c,rs,d1,by simp only[Ot (m c d2)];exact d2,d3,I,ee.tr tr W λr N _ p q=>⟨by simp only[Ot (m r p)];exact p,q⟩⟩
    |odc b ks vs=>
     obtain⟨c,d1,d2,d3⟩:=w;have m:c≠a:=λz=>by subst z;rw[u]at d2;cases d2;exact q rfl
     exact⟨c,d1,by simp only[Ot m];exact d2,d3.tr tr λ_ z=>z⟩
 .rename_i ba O
  classical
  obtain⟨v,P,a,rs,Q,u,R,nd,rl⟩:=ok.tell i _ (getD_some O);have own:∀c,c=a\/c∈rs->B c=on (i+2):=λc hc=>by
   rcases hc with rfl|hc
   .exact u
   .exact(rl.all c hc).1
  have t:hY B H (λc=>if c=a\/c∈rs then Oi else B c) H:=by
   refine⟨λ_ _ h _=>h,λc hc=>?_,λc o h n=>?_,λ_ h=>h⟩
   .have:¬(c=a\/c∈rs):=λz=>by rw[own c z]at hc;rcases hc with hc|hc<;>cases hc
    simp only[Ot this]
   .by_cases z:c=a\/c∈rs
    .simp only[OA z]
    .simp only[Ot z];exact n
  have tr:Tr (eo B bg) H (eo (λc=>if c=a\/c∈rs then Oi else B c) bg) H:=t.tr;have J:∀b l,bg=on (b,l)->¬(b=a\/b∈rs)/\¬(l=a\/l∈rs):=λb l e=>by
   obtain⟨b1,b2⟩:=ok.bgt b l e;exact⟨λz=>(by rw[own b z]at b1;cases b1),λz=>(by rw[own l z]at b2;cases b2)⟩
  have free:∀c,c=a\/c∈rs->¬(eo (λc=>if c=a\/c∈rs then Oi else B c) bg).A c:=λc hc z=>by
   have L:(if c=a\/c∈rs then Oi else B c)≠Oi:=z;rw[OA hc]at L;exact L rfl
  refine⟨λc=>if c=a\/c∈rs then Oi else B c,⟨⟨λc hc=>ok.fr.occ c ?_,λb l e=>?_,ok.fr.bag⟩,λb l e=>?_,by rw[Pl,ok.len],ok.cov,λc k hc=>(by
   have g:(if c=a\/c∈rs then Oi else B c)=on (k+2):=hc;split at g
   .cases g
   .exact ok.new c k g),λc k hc=>(by
   have g:(if c=a\/c∈rs then Oi else B c)=on (k+2):=hc;split at g
   .cases g
   .exact ok.lst c k g),λj s e=>?_⟩,t⟩
  .have g:(if c=a\/c∈rs then Oi else B c)≠Oi:=hc
   split at g
   .exact OX rfl g
   .exact g
  .obtain⟨y,C⟩:=J b l e
   obtain⟨b1,b2⟩:=ok.bgt b l e;refine⟨?_,?_,(ok.fr.bgA b l e).2.2⟩
   .show(if b=a\/b∈rs then Oi else B b)≠Oi
    rw[Ot y,b1];simp
   .show(if l=a\/l∈rs then Oi else B l)≠Oi
    rw[Ot C,b2];simp
  .obtain⟨y,C⟩:=J b l e
   simp only[Ot y,Ot C];exact ok.bgt b l e
  .rw[Pp]at e
   by_cases q:i=j
   .subst q
    rw[OA rfl]at e;split at e
    .cases e
     exact⟨_,P,a,_,Q,⟨free a (.inl rfl),.inl R⟩,ee.den tr rl λr hr _=>free r (.inr hr)⟩
    .cases e
   .rw[Ot q]at e
    obtain⟨T,U,w⟩:=ok.tell j s e;refine⟨T,U,?_⟩;have m:∀c,B c=on (j+2)->¬(c=a\/c∈rs):=λc d2 z=>by rw[own c z]at d2;cases d2;exact q rfl
    cases s with
    |sh d=>exact c4.tr tr _ _ w
    |own cs=>
     obtain⟨c,N,d1,d2,d3,I⟩:=w;exact⟨c,N,d1,by simp only[Ot (m c d2)];exact d2,d3,bb.tr tr _ _ I⟩
    |grd rows2=>
     obtain⟨c,qs,d1,d2,d3,I,W⟩:=w;exact⟨c,qs,d1,by simp only[Ot (m c d2)];exact d2,d3,I,ee.tr tr W λr N _ p q=>⟨by simp only[Ot (m r p)];exact p,q⟩⟩
    |odc b ks vs=>
     obtain⟨c,d1,d2,d3⟩:=w;exact⟨c,d1,by simp only[Ot (m c d2)];exact d2,d3.tr tr λ_ z=>z⟩
 .rename_i b0 Z vs0 O
  obtain⟨v,P,a,Q,u,ep,ys,R,Y,e5,e6⟩:=ok.tell i _ (getD_some O);have t:hY B H (λc=>if c=a then Oi else B c) H:=by
   refine⟨λ_ _ h _=>h,λc hc=>?_,λc o h n=>?_,λ_ h=>h⟩
   .have:c≠a:=λz=>by subst z;rw[u]at hc;rcases hc with hc|hc<;>cases hc
    simp only[Ot this]
   .by_cases z:c=a
    .simp only[OA z]
    .simp only[Ot z];exact n
  have tr:Tr (eo B bg) H (eo (λc=>if c=a then Oi else B c) bg) H:=t.tr;have J:∀b l,bg=on (b,l)->b≠a/\l≠a:=λb l e=>by
   obtain⟨b1,b2⟩:=ok.bgt b l e;exact⟨λz=>(by subst z;rw[u]at b1;cases b1),λz=>(by subst z;rw[u]at b2;cases b2)⟩
  refine⟨λc=>if c=a then Oi else B c,⟨⟨λc hc=>ok.fr.occ c ?_,λb l e=>?_,ok.fr.bag⟩,λb l e=>?_,by rw[Pl,ok.len],ok.cov,λc k hc=>(by
   have g:(if c=a then Oi else B c)=on (k+2):=hc;split at g
   .cases g
   .exact ok.new c k g),λc k hc=>(by
   have g:(if c=a then Oi else B c)=on (k+2):=hc;split at g
   .cases g
   .exact ok.lst c k g),λj s e=>?_⟩,t⟩
  .have g:(if c=a then Oi else B c)≠Oi:=hc
   split at g
   .exact OX rfl g
   .exact g
  .obtain⟨y,C⟩:=J b l e
   obtain⟨b1,b2⟩:=ok.bgt b l e;refine⟨?_,?_,(ok.fr.bgA b l e).2.2⟩
   .show(if b=a then Oi else B b)≠Oi
    rw[Ot y,b1];simp
   .show(if l=a then Oi else B l)≠Oi
    rw[Ot C,b2];simp
  .obtain⟨y,C⟩:=J b l e
   simp only[Ot y,Ot C];exact ok.bgt b l e
  .rw[Pp]at e
   by_cases q:i=j
   .subst q
    rw[OA rfl]at e;split at e
    .cases e
     refine⟨_,P,?_⟩;show c4 _ _ _ (.dct b0 Z vs0) _;unfold c4;refine⟨a,ep,ys,Q,⟨λz=>?_,R⟩,Y,λx hx=>(e5 x hx).tr tr,bb.tr tr _ _ e6⟩;have L:(if a=a then Oi else B a)≠Oi:=z;rw[OA rfl]at L;exact L rfl
    .cases e
   .rw[Ot q]at e
    obtain⟨T,U,w⟩:=ok.tell j s e;refine⟨T,U,?_⟩;cases s with
    |sh d=>exact c4.tr tr _ _ w
    |own cs=>
     obtain⟨c,N,d1,d2,d3,I⟩:=w;have m:c≠a:=λz=>by subst z;rw[u]at d2;cases d2;exact q rfl
     exact⟨c,N,d1,by simp only[Ot m];exact d2,d3,bb.tr tr _ _ I⟩
    |grd ba=>
     obtain⟨c,rs,d1,d2,d3,I,W⟩:=w;have m:∀c,B c=on (j+2)->c≠a:=λc d2 z=>by subst z;rw[u]at d2;cases d2;exact q rfl
     exact⟨c,rs,d1,by simp only[Ot (m c d2)];exact d2,d3,I,ee.tr tr W λr N _ p q=>⟨by simp only[Ot (m r p)];exact p,q⟩⟩
    |odc b ks vs=>
     obtain⟨c,d1,d2,d3⟩:=w;have m:c≠a:=λz=>by subst z;rw[u]at d2;cases d2;exact q rfl
     exact⟨c,d1,by simp only[Ot m];exact d2,d3.tr tr λ_ z=>z⟩
 .exact⟨B,ok,hY.refl B H⟩
noncomputable def fzG(i:Nat)(g:G):G:=λδ β=>g (fz i δ) β
theorem BJ(i:Nat)(h:PSs X sts (tG X.K X.H₀ g E)):PSs X sts (tG X.K X.H₀ (fzG i g) E):=h.imp λD σ H j=>by
 obtain⟨B,bg,δ,β,o,β',ok,e,q⟩:=j;obtain⟨l,d,s⟩:=ok.freeze i;exact⟨l,bg,fz i δ,β,o,β',d,e,gR.pre s q⟩
noncomputable def ni(n:Nat)(ds:List D):Ds:=ds.map (λd=>on (Sl.sh d))++OY (n-ds.length) Oi
def fK(n:Nat)(g:G):List D->M D:=λds β=>match g (ni n ds) β with
 |some (.rt d,β')=>on (.ok d,β')
 |some (.nx _,β')=>on (.ok .non,β')
 |some (.ex C _,β')=>on (.error C,β')
 |_=>Oi
theorem oA{F:Fx}{H:Hp}{β:Bg}{N:List Pj}(fr:Fr F H β)(hd:bb K F H ds vs):∃B,gs K H B F.bg H (ni N.length ds) β (eS N vs)/\(∀a,F.A a->B a=on 0\/B a=on 1)/\(∀a,B a=on 1->∃b l,F.bg=on (b,l)/\(a=b\/a=l))/\(∀a,B a≠Oi->F.A a):=by
 classical
 refine⟨λa=>if F.A a then(if ∃b l,F.bg=on (b,l)/\(a=b\/a=l)then on 1 else on 0)else Oi,⟨⟨λa ha=>fr.occ a ?_,λb l e=>?_,fr.bag⟩,λb l e=>?_,?_,λ_ h=>h,λc k o=>(by
  have g:(if F.A c then(if ∃b l,F.bg=on (b,l)/\(c=b\/c=l)then on 1 else on 0)else Oi)=on (k+2):=o;split at g
  .split at g<;>cases g
  .cases g),λc k o=>(by
  have g:(if F.A c then(if ∃b l,F.bg=on (b,l)/\(c=b\/c=l)then on 1 else on 0)else Oi)=on (k+2):=o;split at g
  .split at g<;>cases g
  .cases g),λi s e=>?_⟩,λa ha=>?_,λa ha=>?_,λa ha=>?_⟩
 .have j:(if F.A a then(if ∃b l,F.bg=on (b,l)/\(a=b\/a=l)then on 1 else on 0)else Oi)≠(Oi:Option Nat):=ha
  split at j
  .assumption
  .exact OX rfl j
 .obtain⟨a1,a2,a3⟩:=fr.bgA b l e
  refine⟨?_,?_,a3⟩
  .show(if F.A b then(if ∃m l,F.bg=on (m,l)/\(b=m\/b=l)then on 1 else on 0)else Oi)≠(Oi:Option Nat)
   rw[OA a1];split<;>simp
  .show(if F.A l then(if ∃m t,F.bg=on (m,t)/\(l=m\/l=t)then on 1 else on 0)else Oi)≠(Oi:Option Nat)
   rw[OA a2];split<;>simp
 .obtain⟨a1,a2,a3⟩:=fr.bgA b l e
  exact⟨by rw[OA a1,OA ⟨b,l,e,.inl rfl⟩],by rw[OA a2,OA ⟨b,l,e,.inr rfl⟩]⟩
 .unfold ni eS
  rw[ON,ON,Oh,Oh,Qw,Qw,hd.length]
 .unfold ni at e
  unfold eS;rw[UQ,Oh]at e;rw[UQ,Oh,<-hd.length];by_cases q:i<ds.length
  .rw[OA q,Ou]at e
   rw[OA q,Ou];cases z:ds[i]? with
   |none=>rw[z]at e;cases e
   |some d=>
    rw[z]at e;cases e;obtain⟨v,w,y⟩:=hd.get z;refine⟨v,by rw[w];rfl,?_⟩;have r:Tr F H (eo (λa=>if F.A a then(if ∃b l,F.bg=on (b,l)/\(a=b\/a=l)then on 1 else on 0)else Oi) F.bg) H:=by
     refine⟨λa ha _ C=>?_,λ_ _ _ h=>h,rfl⟩;have u:(if F.A a then(if ∃b l,F.bg=on (b,l)/\(a=b\/a=l)then on 1 else on 0)else Oi)≠(Oi:Option Nat):=C;rw[Ot ha]at u;exact u rfl
    exact c4.tr r _ _ y
  .rw[Ot q,Q1]at e
   split at e<;>cases e
 .simp only[OA ha]
  split
  .exact .inr rfl
  .exact .inl rfl
 .simp only at ha
  split at ha
  .split at ha
   .assumption
   .cases ha
  .cases ha
 .simp only at ha
  split at ha
  .assumption
  .exact OX rfl ha
variable{P:Pc}{w:Pk}{mg:Pj->Option Ov}{base:P4}
theorem JP{x i:Pj}{st:Qe}{f:Oq}{fd:O5}{N ps:List Pj}{k:Nat}(F:d5 K x i st f fd)(S:c_ N ps (af st))
  (I:∀(j:Ov) (A:PU) (outer:List VJ) (s:OB) (H:Hp) (E:XK),en k (A.deeper (SS i (af st) s.heap.objs.size f j))->
   PSs (eF (hO P w) P w K mg base N i (af st) f j A outer s H E) (bX st) (tG K H g (λ_=>E))):fw P w K mg base (hO P w) (k+1) f fd ps (F3 K ps.length (fK N.length g)):=by
 refine F.okE S (λvs H Q E h=>h.1) λj A outer s H vs Q E Z h=>?_;obtain⟨hl,u,ds,β,fr,hd,r,β',e,h⟩:=h;refine⟨_,I j A outer s H E Z,?_⟩;obtain⟨B,ok,U,h1,hn⟩:=oA (N:=N) fr hd;have J:∀{y:Ow} {H':Hp},hY B H y H'->Fr (eo y u.bg) H' β'->To u H H' β'/\Tr (eo y u.bg) H' u H':=λ{y H'} s m=>by
  have hs:∀a,u.A a->y a≠Oi:=λa ha=>by
   rw[s.tg a (U a ha)];rcases U a ha with z|z<;>rw[z]<;>simp
  refine⟨⟨λa o ha n=>s.kp a o ha ?_,λa ha=>m.occ a (hs a ha),λb l e=>fr.bgA b l e,m.bag⟩,λa ha _ z=>ha (hs a z),λ_ _ _ h=>h,rfl⟩;cases q:B a with
  |none=>exact .inl rfl
  |some t=>
   have:=U a (hn a (by rw[q];simp));rcases this with z|z
   .rw[q]at z;exact .inr z
   .obtain⟨b,l,e,w⟩:=h1 a z
    obtain⟨n1,n2⟩:=n b l e;rcases w with w|w
    .exact OX w n1
    .exact OX w n2
 unfold fK at e;split at e
 .rename_i d β1 R
  cases e;refine⟨B,u.bg,ni N.length ds,β,.rt d,β',ok,R,λv y H' s m hv=>?_⟩;obtain⟨T,W⟩:=J s m;exact h v H' T (c4.tr W _ _ hv)
 .rename_i L β1 R
  cases e;refine⟨B,u.bg,ni N.length ds,β,.nx L,β',ok,R,λY y H' s O=>?_⟩;obtain⟨T,W⟩:=J s O.fr;exact h _ H' T rfl
 .rename_i C L β1 R
  cases e;refine⟨B,u.bg,ni N.length ds,β,.ex C L,β',ok,R,λY y H' s O=>?_⟩;obtain⟨T,W⟩:=J s O.fr;exact h H' T
 .cases e
variable{prog:Pc}{A:PU}
theorem Oc(y:A.handled=Oi)(it t:Oq)(ne:t≠it)(d:Array Ov):Wn prog w A it [it,t] d.size (λi v=>d[i]?=on v) (λi h=>h.IsTupleIter it t i/\h.IsTuple t d) where
 live:=λ_ _ st=>let ⟨o,e,_⟩:=st.1;⟨o,e⟩
 frame:=λ_ _ _ st k=>⟨st.1.at λo e=>k it (by simp) o e,by
  obtain⟨o,e,r⟩:=st.2;exact⟨o,k t (by simp) o e,r⟩⟩
 item:=λi s Q E I st J=>by
  obtain⟨o,j,co,g⟩:=id st.1;obtain⟨C,l,_,nt,q⟩:=st.2;have u:d[i]?=on d[i]:=by simp[I]
  unfold Qz;refine My (wpAny_callSpecial?_slot (name:=Qn "__next__") st.1.typeIs Sk (Pe Sk st.1.typeIs Wo ?_ (Wc _)));show OH _ _ (X4 (.ref it) 0>>=_) _ _ _;refine My (Qa j g (x:= .ref t) rfl ?_);show OH _ _ (if(OM t==Pg)=On then _ else _) _ _ _;rw[Ot (show ¬((OM t==Pg)=On)from OE)];show OH _ _ (X4 (.ref it) 1>>=_) _ _ _;refine My (Qa j g (x:= .int i 0) rfl ?_);show OH _ _ (seqItems? (.ref t)>>=_) _ _ _;refine My (QB l q ?_);simp only[P0,u];refine My (RM j g (by simp) (Oj ⟨d[i],rfl,Oj (J _ _ s.toks u ⟨?_,?_⟩ (Qd ..))⟩))
  .exact⟨_,Rh _ j (S4 (Qm g _)),(Uj ..).trans co,by rw[Qm g];simp[RZ]⟩
  .exact⟨C,(Qd ..).extBut _ _ ne l,by assumption,nt,q⟩
 done:=λs Q E st L=>by
  obtain⟨o,j,co,g⟩:=id st.1;obtain⟨C,l,_,nt,q⟩:=st.2;have u:d[d.size]?=Oi:=by simp
  unfold Qz;refine My (wpAny_callSpecial?_slot (name:=Qn "__next__") st.1.typeIs Sk (Pe Sk st.1.typeIs Wo ?_ (Wc _)));show OH _ _ (X4 (.ref it) 0>>=_) _ _ _;refine My (Qa j g (x:= .ref t) rfl ?_);show OH _ _ (if(OM t==Pg)=On then _ else _) _ _ _;rw[Ot (show ¬((OM t==Pg)=On)from OE)];show OH _ _ (X4 (.ref it) 1>>=_) _ _ _;refine My (Qa j g (x:= .int d.size 0) rfl ?_);show OH _ _ (seqItems? (.ref t)>>=_) _ _ _;refine My (QB l q ?_);simp only[P0,u];refine My (R0 (My (RM j g (by simp) ?_)));show OH _ _ (Wj (.type "StopIteration") []>>=_) _ _ _;refine My ?_;simp only[Wj,newTuple];refine My (Ph ?_ (by size_fits));refine My (m:=RJ _ _) (RW (a:=Pg) (by first|rfl|(simp only[RJ];rfl)) ?_);refine Ph ?_ (by size_fits)
  simp only[W9];refine My (VB ?_)
  first|rw[show A.in1.handled=Oi from y]|rw[y];skip
  refine My (Oj (Wv ?_));exact L _ _ (((Qd ..).extBut.push _).push _) ⟨_,OI _ rfl,rfl⟩
structure Ap (z TI TO i1 i2:Oq) (f1 f2:List Oq):Prop where
 a1:TI≠z
 a2:TO≠z
 a3:i1≠z
 a4:i2≠z
 a5:TI≠TO
 a6:TI≠i1
 a7:TI≠i2
 a8:TO≠i1
 a9:TO≠i2
 b1:i1≠i2
 c1:z∉f1
 c2:TO∉f1
 c3:i2∉f1
 d1:z∉f2
 d2:TO∉f2
 d3:i1∉f2
 m1:i1∈f1
 m2:i2∈f2
end
section
variable{prog:Pc}{w:Pk}{A:PU}{E:Ov->OB->Prop}{s:OB}
theorem bV{it:Oq}{f:List Oq}{h h':P4}(a:Pa it h h')(n:it∉f):∀b∈f,∀o,h.get? b=on o->h'.get? b=on o:=λb c o e=>a.extBut b o (λq=>n (q▸c)) e
theorem xM{z TI TO r t:Oq}{f1 f2:List Oq}{u B k:Nat}{P1 P2:Nat->Ov->Prop}{W X:Nat->P4->Prop}{a b:Ov}{Q:Ov->OB->Prop}(L:Wn prog w A r f1 u P1 W)(N:Wn prog w A t f2 B P2 X)(d:Ap z TI TO r t f1 f2)
  (P:Uz s.heap z TI TO .none) (eI:RG s.heap TI (.ref r) (.ref t)) (eO:RG s.heap TO a b) (s1:W k s.heap) (s2:X k s.heap) (k1:k<u) (k2:k<B)
  (hQ:∀h' tk x y,P1 k x->P2 k y->Uz h' z TI TO (RZ s.heap.objs.size)->RG h' TO x y->W (k+1) h'->X (k+1) h'->RG h' s.heap.objs.size x y->h'.objs.size=s.heap.objs.size+1->(∀c o,c≠z->c≠TO->c≠r->c≠t->s.heap.get? c=on o->h'.get? c=on o)->Q (.ref s.heap.objs.size) {s with heap:=h',toks:=tk}):
  OH (O4 prog w) A (Builtin.«zip.__next__» ⟨[.ref z],[]⟩) (λZ s'=>∃v,Z= .done (.ret v)/\Q v s') E s:=by
 obtain⟨hp,gg,dd,tk0,os⟩:=s;show OH _ _ (X4 (.ref z) 2>>=_) _ _ _;refine My (Qa P rfl (x:= .bool Os) rfl ?_);show OH _ _ (X4 (.ref z) 3>>=_) _ _ _;refine My (Qa P rfl (x:= .ref TI) rfl ?_);refine My (QB eI rfl ?_);show OH _ _ (QP (.ref z)>>=_) _ _ _;refine My ?_;unfold QP;refine My (Qa P rfl (x:= .none) rfl (Oj ?_));simp only[PM];refine My (R0 ?_);refine My (Qa P rfl (x:= .ref TO) rfl ?_);refine My (Qi P (by simp) λg1 C g=>?_)
 replace C:Uz g1 z TI TO .ellipsis:=C
 replace g:Pa z hp g1:=g
 refine My ?_;simp only[List.zipIdx_cons,List.zipIdx_nil,RP,R6];refine My (My (VC ?_));show OH _ _ (Qz (.ref r)>>=_) _ _ _;refine My (L.item k _ _ _ k1 (L.frame _ _ _ s1 (bV g d.c1)) λx g2 tk2 px st2 h=>Oj ?_)
 replace h:Pa r g1 g2:=h
 have R:RG g2 TO a b:=h.extBut _ _ d.a8 (g.extBut _ _ d.a2 eO);refine My (QB R rfl ?_);refine My (Vl R λg3 F i=>?_)
 replace F:RG g3 TO x b:=F
 replace i:Pa TO g2 g3:=i
 refine My (Wu (Oj ?_));refine My (My (VC ?_));show OH _ _ (Qz (.ref t)>>=_) _ _ _;refine My (N.item k _ _ _ k2 (N.frame _ _ _ (N.frame _ _ _ (N.frame _ _ _ s2 (bV g d.d1)) (bV h d.d3)) (bV i d.d2)) λy g4 tk4 py st4 j=>Oj ?_)
 replace j:Pa t g3 g4:=j
 have T:RG g4 TO x b:=j.extBut _ _ d.a9 F;refine My (QB T rfl ?_);refine My (Vl T λf m l=>?_)
 replace m:RG f TO x y:=m
 replace l:Pa TO g4 f:=l
 refine My (Wu (Oj (Oj ?_)));refine My (QB m rfl ?_);refine My (Xb ?_);have zs:f.objs.size=hp.objs.size:=by rw[l.1,j.1,i.1,h.1,g.1]
 have U:Uz f z TI TO .ellipsis:=l.extBut _ _ d.a2.symm (j.extBut _ _ d.a4.symm (i.extBut _ _ d.a2.symm (h.extBut _ _ d.a3.symm C)));have kp5:∀c o,c≠z->c≠TO->c≠r->c≠t->hp.get? c=on o->f.get? c=on o:=λc o u B n3 n4 e=>l.extBut _ _ B (j.extBut _ _ n4 (i.extBut _ _ B (h.extBut _ _ n3 (g.extBut _ _ u e))));have st1:W (k+1) f:=L.frame _ _ _ (L.frame _ _ _ (L.frame _ _ _ st2 (bV i d.c2)) (bV j d.c3)) (bV l d.c2);have st5:X (k+1) f:=N.frame _ _ _ st4 (bV l d.d2);have zl:z<f.objs.size:=OZ U;show OH _ _ (TH (.ref z) (.ref f.objs.size)>>=_) _ _ _;refine My ?_;unfold TH;have ez6:Uz (f.push {cls:= .type "tuple",data:= .seq #[x,y]}) z TI TO .ellipsis:=Ol _ U;refine My (Qi ez6 (by simp) λg7 H I=>?_)
 replace H:Uz g7 z TI TO (RZ f.objs.size):=H
 refine Qi H (by simp) λO p J=>?_
 replace p:Uz O z TI TO (RZ f.objs.size):=p
 have Y:∀c o,c≠z->f.get? c=on o->O.get? c=on o:=λc o n e=>J.extBut _ _ n (I.extBut _ _ n (Ol _ e));have eT:RG O f.objs.size x y:=J.extBut _ _ (Rb zl) (I.extBut _ _ (Rb zl) (OI _ rfl));have z8:O.objs.size=f.objs.size+1:=by rw[J.1,I.1,Qk]
 rw[zs]at p eT z8;refine Oj ⟨_,rfl,?_⟩;show Q (.ref f.objs.size) ⟨O,gg,dd,_,os⟩;rw[zs];exact hQ O _ x y px py p (Y _ _ d.a2 m) (L.frame _ _ _ st1 λb hb o e=>Y b o (λq=>d.c1 (q▸hb)) e) (N.frame _ _ _ st5 λb hb o e=>Y b o (λq=>d.d1 (q▸hb)) e) eT z8 λc o u B n3 n4 e=>Y c o u (kp5 c o u B n3 n4 e)
theorem AI{z TI TO n r:Oq}{f1 f2:List Oq}(H:Wn prog w A n f1 m P1 S1)(I:Wn prog w A r f2 T P2 S2)(i:Ap z TI TO n r f1 f2)
  (u:Uz s.heap z TI TO .none) (Y:RG s.heap TI (.ref n) (.ref r)) (Z:RG s.heap TO a b) (U:S1 k s.heap) (s2:S2 k s.heap) (N:k=m\/(k<m/\k=T))
  (W:∀h' e tk,(∀c o,c≠z->c≠TO->c≠n->c≠r->s.heap.get? c=on o->h'.get? c=on o)->(∃o,h'.get? e=on o/\o.cls= .type "StopIteration")->E (.ref e) {s with heap:=h',toks:=tk}):
  OH (O4 prog w) A (Builtin.«zip.__next__» ⟨[.ref z],[]⟩) Q E s:=by
 obtain⟨hp,gg,dd,tk0,os⟩:=s;show OH _ _ (X4 (.ref z) 2>>=_) _ _ _;refine My (Qa u rfl (x:= .bool Os) rfl ?_);show OH _ _ (X4 (.ref z) 3>>=_) _ _ _;refine My (Qa u rfl (x:= .ref TI) rfl ?_);refine My (QB Y rfl ?_);show OH _ _ (QP (.ref z)>>=_) _ _ _;refine My ?_;unfold QP;refine My (Qa u rfl (x:= .none) rfl (Oj ?_));simp only[PM];refine My (R0 ?_);refine My (Qa u rfl (x:= .ref TO) rfl ?_);refine My (Qi u (by simp) λJ j f=>?_)
 replace j:Uz J z TI TO .ellipsis:=j
 replace f:Pa z hp J:=f
 refine My ?_;simp only[List.zipIdx_cons,List.zipIdx_nil,RP,R6];refine My (My (VC ?_));show OH _ _ (Qz (.ref n)>>=_) _ _ _;rcases N with rfl|⟨N,rfl⟩
 .refine My (H.done _ _ _ (H.frame _ _ _ U (bV f i.c1)) λt e d O=>?_)
  replace d:UP n J t:=d
  obtain⟨P,h,v⟩:=O;have y:Uz t z TI TO .ellipsis:=d _ _ i.a3.symm j;have p:e≠z:=λq=>by subst q;rw[y]at h;cases h;simp at v
  exact Qi y (by simp) λL _ g=>W L e _ (λc o m _ R _ q=>g.extBut _ _ m (d _ _ R (f.extBut _ _ m q))) ⟨P,g.extBut _ _ p h,v⟩
 .refine My (H.item k _ _ _ N (H.frame _ _ _ U (bV f i.c1)) λx t tk2 px st2 d=>Oj ?_)
  replace d:Pa n J t:=d
  have B:RG t TO a b:=d.extBut _ _ i.a8 (f.extBut _ _ i.a2 Z);refine My (QB B rfl ?_);refine My (Vl B λL eO3 g=>?_)
  replace g:Pa TO t L:=g
  refine My (Wu (Oj ?_));refine My (My (VC ?_));show OH _ _ (Qz (.ref r)>>=_) _ _ _;refine My (I.done _ _ _ (I.frame _ _ _ (I.frame _ _ _ (I.frame _ _ _ s2 (bV f i.d1)) (bV d i.d3)) (bV g i.d2)) λX e l O=>?_)
  replace l:UP r L X:=l
  obtain⟨P,h,v⟩:=O;have C:Uz X z TI TO .ellipsis:=l _ _ i.a4.symm (g.extBut _ _ i.a2.symm (d.extBut _ _ i.a3.symm j));have p:e≠z:=λq=>by subst q;rw[C]at h;cases h;simp at v
  exact Qi C (by simp) λg5 _ F=>W g5 e _ (λc o m T R n4 q=>F.extBut _ _ m (l _ _ n4 (g.extBut _ _ T (d.extBut _ _ R (f.extBut _ _ m q))))) ⟨P,F.extBut _ _ p h,v⟩
theorem xL{z TI TO e f:Oq}{f1 f2:List Oq}(i:∀d:PU,d.handled=A.handled->Wn prog w d e f1 n1 P1 S1)(j:∀d:PU,d.handled=A.handled->Wn prog w d f f2 n2 P2 S2)(l:Ap z TI TO e f f1 f2)
  (h:Uz s.heap z TI TO .none) (m:RG s.heap TI (.ref e) (.ref f)) (n:RG s.heap TO a b) (p:S1 k s.heap) (q:S2 k s.heap) (r:k<n1) (t:k<n2)
  (u:∀h' g x y,P1 k x->P2 k y->Uz h' z TI TO (RZ s.heap.objs.size)->RG h' TO x y->S1 (k+1) h'->S2 (k+1) h'->RG h' s.heap.objs.size x y->h'.objs.size=s.heap.objs.size+1->(∀c o,c≠z->c≠TO->c≠e->c≠f->s.heap.get? c=on o->h'.get? c=on o)->Q (on (.ref s.heap.objs.size)) {s with heap:=h',toks:=g}):
  OH (O4 prog w) A (Sa (.ref z)) Q E s:=by
 have ty:s.TypeIs (.ref z) "zip":=⟨_,h,rfl⟩;unfold Sa;exact My (R8 (wpAny_callSpecial?_slot (name:=Qn "__next__") ty UO (Pe UO ty F.entry_zip_next (xM (i _ rfl) (j _ rfl) l h m n p q r t λh' g x y a1 a2 a3 a4 a5 a6 a7 a8 a9=>Oj (u h' g x y a1 a2 a3 a4 a5 a6 a7 a8 a9)) (F.args_zip_next_1 _))))
theorem AH{z TI TO f g:Oq}{f1 f2:List Oq}(j:∀d:PU,d.handled=A.handled->Wn prog w d f f1 n1 P1 S1)(l:∀d:PU,d.handled=A.handled->Wn prog w d g f2 n2 P2 S2)(m:Ap z TI TO f g f1 f2)
  (h:Uz s.heap z TI TO .none) (n:RG s.heap TI (.ref f) (.ref g)) (p:RG s.heap TO a b) (q:S1 k s.heap) (r:S2 k s.heap) (t:k=n1\/(k<n1/\k=n2))
  (u:∀h' i,(∀c o,c≠z->c≠TO->c≠f->c≠g->s.heap.get? c=on o->h'.get? c=on o)->Q Oi {s with heap:=h',toks:=i}):OH (O4 prog w) A (Sa (.ref z)) Q E s:=by
 have ty:s.TypeIs (.ref z) "zip":=⟨_,h,rfl⟩;unfold Sa;refine My (R8 (wpAny_callSpecial?_slot (name:=Qn "__next__") ty UO (Pe UO ty F.entry_zip_next (AI (j _ rfl) (l _ rfl) m h n p q r t λh' e i v y=>?_) (F.args_zip_next_1 _))));obtain⟨o,B,C⟩:=y;refine My (QE (T:="StopIteration") (b:=On) ⟨o,B,C⟩ Vj ?_);exact Oj (u _ _ v)
def xr(b:Bool)(h:P4)(a:Oq)(its:Array Ov):Prop:=if b=On then h.IsList a its else h.IsTuple a its
noncomputable def HY(b:Bool):String:=if b=On then "list_iterator"else "tuple_iterator"
noncomputable abbrev pe(b:Bool)(a:Oq):O7:={cls:= .type (HY b),data:= .fields #[.ref a,.int 0 0]}
def fN(b:Bool)(h:P4)(it a:Oq)(k:Nat):Prop:=if b=On then h.IsListIter it a k else h.IsTupleIter it a k
theorem xr.keep{b:Bool}{h h':P4}(x:xr b h a its)(k:∀o,h.get? a=on o->h'.get? a=on o):xr b h' a its:=by
 unfold xr at x⊢;split at x
 .rename_i q;rw[OA q];exact x.at λo e=>k o e
 .rename_i q;rw[Ot q]
  obtain⟨o,e,r⟩:=x;exact⟨o,k o e,r⟩
theorem oU{b:Bool}(x:xr b s.heap a its)(h:Q (.ref s.heap.objs.size) {s with heap:=s.heap.push (pe b a)}):OH (O4 prog w) A (UW (.ref a)) Q E s:=by
 cases b with
 |true=>exact UD (show s.heap.IsList a its from x) h
 |false=>exact VH (show s.heap.IsTuple a its from x) h
theorem rY(b:Bool)(c:A.handled=Oi)(it a:Oq)(ne:a≠it)(its:Array Ov):Wn prog w A it [it,a] its.size (λi v=>its[i]?=on v) (λi h=>fN b h it a i/\xr b h a its):=by
 cases b with
 |true=>exact Xp c it a ne its
 |false=>exact Oc c it a ne its
abbrev Y4(b1:Bool)(h:P4)(a:Oq):P4:=h.push (pe b1 a)
abbrev Y3(b1 b2:Bool)(h:P4)(a b:Oq):P4:=(Y4 b1 h a).push (pe b2 b)
abbrev Y2(b1 b2:Bool)(h:P4)(a b:Oq):P4:=(Y3 b1 b2 h a b).push {cls:= .type "tuple",data:= .seq #[.ref h.objs.size,.ref (Y4 b1 h a).objs.size]}
abbrev Y1(b1 b2:Bool)(h:P4)(a b:Oq):P4:=(Y2 b1 b2 h a b).push {cls:= .type "tuple",data:= .seq #[.none,.none]}
abbrev U_(b1 b2:Bool)(h:P4)(a b:Oq):P4:=(Y1 b1 b2 h a b).push {cls:= .type "zip",data:= .fields #[.none,.bool Os,.bool Os,.ref (Y3 b1 b2 h a b).objs.size,.ref (Y2 b1 b2 h a b).objs.size]}
theorem wT(b1 b2:Bool)(a b:Oq)(xs ys:Array Ov):
  Meets (Builtin.«zip.__new__» ⟨[.type "zip",.ref a,.ref b],[]⟩) (λ_ R s=>xr b1 s.heap a xs/\xr b2 s.heap b ys/\R (.ok (.ret (.ref (Y1 b1 b2 s.heap a b).objs.size))) {s with heap:=U_ b1 b2 s.heap a b}):=
 .of_wp λprog w A R s h=>by
  obtain⟨c,g,d,f,os⟩:=s;obtain⟨j,k,q⟩:=h;have i:=sub_zip;have l:xr b1 (Shared.heap ⟨c,g,d,f,os⟩) a xs:=j;have m:xr b2 (Shared.heap ⟨c.push (pe b1 a),g,d,f,os⟩) b ys:=k.keep λo e=>Ol _ e
  wp_walk using oU l,oU m
  exact⟨_,rfl,q⟩
theorem zY{b1 b2:Bool}(q:xr b1 s.heap l1 xs)(r:xr b2 s.heap l2 ys)
  (h:∀h',Uz h' (s.heap.objs.size+4) (s.heap.objs.size+2) (s.heap.objs.size+3) .none->RG h' (s.heap.objs.size+2) (.ref s.heap.objs.size) (.ref (s.heap.objs.size+1))->RG h' (s.heap.objs.size+3) .none .none->fN b1 h' s.heap.objs.size l1 0->fN b2 h' (s.heap.objs.size+1) l2 0->h'.objs.size=s.heap.objs.size+5->(∀c o,s.heap.get? c=on o->h'.get? c=on o)->Q (.ref (s.heap.objs.size+4)) {s with heap:=h'}):
  OH (O4 prog w) A (VF (.type "zip") [.ref l1,.ref l2]) Q E s:=by
 refine callType_new F.called_zip (by decide) (F.typeCall_zip_2 _ _) (F.newCall_zip_2 _ _) (λobj=>F.args_object_init_3 obj _ _) F.entry_zip_new (wT b1 b2 l1 l2 xs ys) ⟨q,r,?_⟩;have f:(Y4 b1 s.heap l1).objs.size=s.heap.objs.size+1:=Qk ..;have g:(Y3 b1 b2 s.heap l1 l2).objs.size=s.heap.objs.size+2:=by rw[Qk,f]
 have i:(Y2 b1 b2 s.heap l1 l2).objs.size=s.heap.objs.size+3:=by rw[Qk,g]
 have j:(Y1 b1 b2 s.heap l1 l2).objs.size=s.heap.objs.size+4:=by rw[Qk,i]
 have t:(U_ b1 b2 s.heap l1 l2).objs.size=s.heap.objs.size+5:=by rw[Qk,j]
 have k:(U_ b1 b2 s.heap l1 l2).get? (Y1 b1 b2 s.heap l1 l2).objs.size=on _:=OI _ rfl;have l:(U_ b1 b2 s.heap l1 l2).get? (Y2 b1 b2 s.heap l1 l2).objs.size=on _:=Ol _ (OI _ rfl);have m:(U_ b1 b2 s.heap l1 l2).get? (Y3 b1 b2 s.heap l1 l2).objs.size=on _:=Ol _ (Ol _ (OI _ rfl));have n:(U_ b1 b2 s.heap l1 l2).get? (Y4 b1 s.heap l1).objs.size=on _:=Ol _ (Ol _ (Ol _ (OI _ rfl)));have u:(U_ b1 b2 s.heap l1 l2).get? s.heap.objs.size=on _:=Ol _ (Ol _ (Ol _ (Ol _ (OI _ rfl))));show _/\_;rw[g,i,j]at k;rw[f,g]at m;rw[i]at l;rw[f]at n;rw[j];have d:∀(b:Bool) (h':P4) (p a:Oq),h'.get? p=on (pe b a)->fN b h' p a 0:=λb h' p a e=>by
  cases b with
  |true=>exact⟨_,e,rfl,rfl⟩
  |false=>exact⟨_,e,rfl,rfl⟩
 exact⟨⟨_,k,rfl⟩,h _ k m l (d _ _ _ _ u) (d _ _ _ _ n) t λc o x=>Ol _ (Ol _ (Ol _ (Ol _ (Ol _ x))))⟩
def s_(b:Bool)(K:OU)(H:Hp)(a:Oq)(xs:List V):Prop:=if b=On then fy K H a xs else jn K H a xs
noncomputable def Zr(b1 b2:Bool)(K:OU)(a b:Oq):It:=
 ⟨λi H=>∃xs ys x y,s_ b1 K H a xs/\s_ b2 K H b ys/\xs[i]?=on x/\ys[i]?=on y,
  λi H v c=>∃p x y,H p=Oi/\v= .ref p/\c=upd H p (.tup [x,y])/\∀xs ys,s_ b1 K H a xs->s_ b2 K H b ys->xs[i]?=on x/\ys[i]?=on y,
  λi H=>∃xs ys,s_ b1 K H a xs/\s_ b2 K H b ys/\(xs.length=i\/(i<xs.length/\ys.length=i))⟩
variable{X:Cx}{a_:List (Oq×O7)}{σ:St}{H:Hp}
theorem dk.src{b:Bool}(I:dk X a_ σ H s)(h:s_ b X.K H a xs):∃its:List Ov,au xs its/\xr b s.heap a its.toArray:=by
 cases b with
 |true=>
  obtain⟨its,r,p,_⟩:=I.list (show fy X.K H a xs from h);exact⟨its,r,p.isList⟩
 |false=>
  obtain⟨its,r,p,_⟩:=I.tuple (show jn X.K H a xs from h);exact⟨its,r,p⟩
theorem dk.src_inj{b:Bool}(I:dk X a_ σ H s)(h:s_ b X.K H a xs)(h':s_ b X.K H a ys):xs=ys:=by
 cases b with
 |true=>exact I.list_inj (show fy X.K H a xs from h) h'
 |false=>exact I.tuple_inj (show jn X.K H a xs from h) h'
theorem fN.get{b:Bool}{h:P4}(x:fN b h it a k):∃o,h.get? it=on o/\o.cls= .type (HY b)/\∃fs,o.data= .fields fs:=by
 cases b with
 |true=>obtain⟨o,e,c,d⟩:=(show h.IsListIter it a k from x);exact⟨o,e,c,_,d⟩
 |false=>obtain⟨o,e,c,d⟩:=(show h.IsTupleIter it a k from x);exact⟨o,e,c,_,d⟩
theorem fN.keep{b:Bool}{h h':P4}(x:fN b h it a k)(q:∀o,h.get? it=on o->h'.get? it=on o):fN b h' it a k:=by
 cases b with
 |true=>exact(show h.IsListIter it a k from x).at λo e=>q o e
 |false=>exact(show h.IsTupleIter it a k from x).at λo e=>q o e
theorem dk.turnNew{h':P4}{t':Nat}{ch:List Oq}{p:Oq}{o:HO}(I:dk X a_ σ H s)(a:∀b∈ch,eJ X a_ H b)(k:∀b u,b∉ch->s.heap.get? b=on u->h'.get? b=on u)(d:s.heap.objs.size<=p)(new:bD X.prog X.w (upd H p o) h' p o):dk X a_ σ (upd H p o) {s with heap:=h',toks:=t'}:=by
 have hn:H p=Oi:=I.hok.fresh d;have nt:∀b u,H b=on u->b∉ch:=λb u e z=>by rw[(a b z).1]at e;cases e
 refine I.call' (s':={s with heap:=h',toks:=t'}) (ch:=ch) rfl ⟨λb u e _ _ hc=>k b u hc e,λb u e _ _ hc=>⟨u.slots,k b u hc e⟩,λb u e z hc=>?_,λb u e hc=>⟨u,k b u hc e⟩,λb ys e=>?_,λb u ys e=>?_,λb ys e=>⟨#[],?_⟩⟩ (λb u e=>?_) I.bare λb f=>?_
 .rw[b_ (Pr (O0 (OZ e) d))];exact z
 .rw[b_ (aw e hn)];exact e
 .rw[b_ (aw e hn)];exact e
 .rw[b_ (aw e hn),e];simp
 .by_cases z:b=p
  .subst z;rw[aj]at e;cases e;exact new
  .rw[b_ z]at e
   refine(I.hok b u e).stay (λc v hc q=>k c v ?_ q) (λc q=>by rw[b_ (aw q hn)];exact q) λc xs q=>by rw[b_ (aw q hn)];exact q
   rcases hc with rfl|hc
   .exact nt _ _ e
   .exact nt _ _ hc
 .obtain⟨j,f1,f2,g,h,i⟩:=a b f
  exact⟨g,f1,h,i⟩
theorem dk.turnL{h':P4}{ch:List Oq}(I:dk X a_ σ H s)(a:∀b∈ch,eJ X a_ H b)(k:∀b u,b∉ch->s.heap.get? b=on u->h'.get? b=on u):dk X a_ σ H {s with heap:=h',toks:=t'}:=by
 have nt:∀b u,H b=on u->b∉ch:=λb u e z=>by rw[(a b z).1]at e;cases e
 refine I.call' (s':={s with heap:=h',toks:=t'}) (ch:=ch) rfl ⟨λb u e _ _ hc=>k b u hc e,λb u e _ _ hc=>⟨u.slots,k b u hc e⟩,λb u e z hc=>z,λb u e hc=>⟨u,k b u hc e⟩,λb ys e=>e,λb u ys e=>e,λb ys e=>⟨#[],by rw[e];simp⟩⟩ (λb u e=>?_) I.bare λb d=>?_
 .refine(I.hok b u e).stay (λc v hc q=>k c v ?_ q) (λc q=>q) λc xs q=>q
  rcases hc with rfl|hc
  .exact nt _ _ e
  .exact nt _ _ hc
 .obtain⟨i,f1,f2,f,g,h⟩:=a b d
  exact⟨f,f1,g,h⟩
theorem dk.src_ne{b:Bool}(I:dk X a_ σ H s)(h:s_ b X.K H a xs)(f:eJ X a_ H c):a≠c:=by
 obtain⟨i,f1,f2,f3,j,k⟩:=f;have d:∀o,X.K.lookup a=on o->a≠c:=λo e z=>by
  have g:=I.ok.mod.kin a o e;subst z;rcases f3 with f3|f3
  .exact I.ok.noex a o g f3
  .exact OX (O0 (OZ (I.ok.bs a o g).1) f3) (PF _)
 have rd:∀u,Rd H a u->a≠c:=λu r z=>by
  subst z;rcases r with r|⟨_,r⟩<;>rw[i]at r<;>cases r
 cases b with
 |true=>
  rcases(show fy X.K H a xs from h)with h|⟨o,_,_,e,_⟩
  .exact rd _ h
  .exact d o e
 |false=>
  rcases(show jn X.K H a xs from h)with h|⟨o,_,_,e,_⟩
  .exact rd _ h
  .exact d o e
theorem AT{w:Pk}{K:OU}{x1}(b1 b2:Bool)(C F z TI TO f g:Oq)(nd:[z,TI,TO,f,g].Nodup):
  oa P w K (.Tuple elts x1 pos) (Zr b1 b2 K C F) [z,TI,TO,f,g] z (λi h=>Uz h z TI TO .none/\RG h TI (.ref f) (.ref g)/\(∃a b,RG h TO a b)/\fN b1 h f C i/\fN b2 h g F i) where
 mem:=by simp
 obj:=λi h st b j=>by
  obtain⟨p,r,⟨a,b',J⟩,L,N⟩:=st;simp only[OK,Qc,SD]at j;rcases j with rfl|rfl|rfl|rfl|rfl
  .exact⟨_,p,λv q=>by cases q⟩
  .exact⟨_,r,λv q=>by cases q⟩
  .exact⟨_,J,λv q=>by cases q⟩
  .obtain⟨o,e,_,fs,d⟩:=L.get
   exact⟨o,e,λv q=>by rw[d]at q;cases q⟩
  .obtain⟨o,e,_,fs,d⟩:=N.get
   exact⟨o,e,λv q=>by rw[d]at q;cases q⟩
 keep:=λi h h' st k=>by
  obtain⟨p,r,⟨a,b',J⟩,L,N⟩:=st;exact⟨k z (by simp) _ p,k TI (by simp) _ r,⟨a,b',k TO (by simp) _ J⟩,L.keep λo e=>k f (by simp) o e,N.keep λo e=>k g (by simp) o e⟩
 item:=by
  intro X hP hw hK n i a_ s σ H E I O st hg;subst hP hw hK;obtain⟨xs,ys,x,y,q1,q2,hx,hy⟩:=hg;obtain⟨p,r,⟨a,b',J⟩,L,N⟩:=st;obtain⟨l,r1,p1⟩:=dk.src I q1;obtain⟨m,r2,p2⟩:=dk.src I q2;have hd:=I.ok.hd n;simp only[Pt,OK,Qc,SD,Yn]at nd;obtain⟨⟨Y,z2,U,W⟩,⟨t1,t2,t3⟩,⟨Z,o2⟩,R,_⟩:=nd;have t:∀c∈[z,TI,TO,f,g],C≠c:=λc n=>dk.src_ne I q1 (O c n);have B:∀c∈[z,TI,TO,f,g],F≠c:=λc n=>dk.src_ne I q2 (O c n);have ap:Ap z TI TO f g [f,C] [g,F]:=⟨Ne.symm Y,Ne.symm z2,Ne.symm U,Ne.symm W,t1,t2,t3,Z,o2,R,by simp[U,(t z (by simp)).symm],by simp[Z,(t TO (by simp)).symm],by simp[Ne.symm R,(t g (by simp)).symm],by simp[W,(B z (by simp)).symm],by simp[o2,(B TO (by simp)).symm],by simp[R,(B f (by simp)).symm],by simp,by simp⟩;have k1:i<l.toArray.size:=by
   rw[OR,<-r1.length];exact(OF.mp hx).1
  have k2:i<m.toArray.size:=by
   rw[OR,<-r2.length];exact(OF.mp hy).1
  refine xL (λA' h'=>rY b1 (h'.trans hd) f C (t f (by simp)) l.toArray) (λA' h'=>rY b2 (h'.trans hd) g F (B g (by simp)) m.toArray) ap p r J ⟨L,p1⟩ ⟨N,p2⟩ k1 k2 λh' tk u v pu pv fz fO f1 f2 fT sz kp=>?_;refine⟨_,rfl,wpAny_letOwnedTupleGo_zip (s:={s with heap:=h',toks:=tk}) fz λT ez'' Q=>?_⟩
  replace Q:Pa z h' T:=Q
  have zT:s.heap.objs.size≠z:=Rb (OZ p);obtain⟨u',hu,ru⟩:=r1.get hx;obtain⟨v',hv,rv⟩:=r2.get hy;have eu:u=u':=by
   have:l[i]?=on u:=by simpa using pu
   rw[this]at hu;exact O8 hu
  have ev:v=v':=by
   have:m[i]?=on v:=by simpa using pv
   rw[this]at hv;exact O8 hv
  subst eu ev;have kk:∀b o,b∉[z,TI,TO,f,g]->s.heap.get? b=on o->T.get? b=on o:=λb o j e=>by
   simp only[OK,Qc,SD,Yn]at j;exact Q.extBut b o j.1 (kp b o j.1 j.2.2.1 j.2.2.2.1 j.2.2.2.2 e)
  have I2:dk X a_ σ (upd H s.heap.objs.size (.tup [x,y])) {s with heap:=T,toks:=tk}:=by
   refine dk.turnNew I O kk (OD _) ⟨by show 2<=OS;decide,[u,v],.cons ru (.cons rv .nil),_,Q.extBut _ _ zT fT,rfl,_,rfl⟩
  refine⟨.ref s.heap.objs.size,_,I2,rfl,⟨s.heap.objs.size,x,y,I.hok.fresh (OD _),rfl,rfl,λas bs h1 h2=>⟨by rw[dk.src_inj I h1 q1];exact hx,by rw[dk.src_inj I h2 q2];exact hy⟩⟩,⟨ez'',?_,⟨u,v,?_⟩,?_,?_⟩,λb j=>?_⟩
  .exact Q.extBut _ _ (Ne.symm Y) (kp TI _ (Ne.symm Y) t1 t2 t3 r)
  .exact Q.extBut _ _ (Ne.symm z2) fO
  .exact f1.1.keep λo e=>Q.extBut _ _ (Ne.symm U) e
  .exact f2.1.keep λo e=>Q.extBut _ _ (Ne.symm W) e
  .rw[b_]
   .exact(O b j).1
   .intro q
    have ol:∃o,s.heap.get? b=on o:=by
     simp only[OK,Qc,SD]at j;rcases j with rfl|rfl|rfl|rfl|rfl
     .exact⟨_,p⟩
     .exact⟨_,r⟩
     .exact⟨_,J⟩
     .obtain⟨o,e,_⟩:=L.get;exact⟨o,e⟩
     .obtain⟨o,e,_⟩:=N.get;exact⟨o,e⟩
    obtain⟨o,e⟩:=ol;exact OX (OZ e) (by rw[q];exact PF _)
 done:=by
  intro X hP hw hK n i a_ s σ H E I O st hg;subst hP hw hK;obtain⟨xs,ys,q1,q2,hl⟩:=hg;obtain⟨p,r,⟨a,b',J⟩,L,N⟩:=st;obtain⟨l,r1,p1⟩:=dk.src I q1;obtain⟨m,r2,p2⟩:=dk.src I q2;have hd:=I.ok.hd n;simp only[Pt,OK,Qc,SD,Yn]at nd;obtain⟨⟨Y,z2,U,W⟩,⟨t1,t2,t3⟩,⟨Z,o2⟩,R,_⟩:=nd;have t:∀c∈[z,TI,TO,f,g],C≠c:=λc n=>dk.src_ne I q1 (O c n);have B:∀c∈[z,TI,TO,f,g],F≠c:=λc n=>dk.src_ne I q2 (O c n);have ap:Ap z TI TO f g [f,C] [g,F]:=⟨Ne.symm Y,Ne.symm z2,Ne.symm U,Ne.symm W,t1,t2,t3,Z,o2,R,by simp[U,(t z (by simp)).symm],by simp[Z,(t TO (by simp)).symm],by simp[Ne.symm R,(t g (by simp)).symm],by simp[W,(B z (by simp)).symm],by simp[o2,(B TO (by simp)).symm],by simp[R,(B f (by simp)).symm],by simp,by simp⟩;have g1:l.toArray.size=xs.length:=by rw[OR,<-r1.length]
  have g2:m.toArray.size=ys.length:=by rw[OR,<-r2.length]
  refine AH (λA' h'=>rY b1 (h'.trans hd) f C (t f (by simp)) l.toArray) (λA' h'=>rY b2 (h'.trans hd) g F (B g (by simp)) m.toArray) ap p r J ⟨L,p1⟩ ⟨N,p2⟩ ?_ λh' tk kp=>⟨rfl,dk.turnL I O λb o j e=>?_⟩
  .rw[g1,g2]
   rcases hl with hl|⟨h1,h2⟩
   .exact .inl hl.symm
   .exact .inr ⟨h1,h2.symm⟩
  .simp only[OK,Qc,SD,Yn]at j
   exact kp b o j.1 j.2.2.1 j.2.2.2.1 j.2.2.2.2 e
 self:=λ_ _ _ _ _ st h=>wpAny_pyIter_zip st.1 h
end
section
variable{X:Cx}{E:St->XK}{K:OU}
def iZp(K:OU)(d:TA):TI:=λe H R=>d e H λvs a=>∃b1 b2 b c xs ys,vs=[.ref b,.ref c]/\s_ b1 K a b xs/\s_ b2 K a c ys/\R (Zr b1 b2 K b c) a
theorem KZ{x1}(y:Gl X "zip")(hm:X.mg "zip"=Oi)(ha:PA X [a,b] ta)(hs:OJ [a,b] X.env=[(Os,PZ a X.env),(Os,PZ b X.env)]:=by rfl)(g:OJ [b] X.env=[(Os,PZ b X.env)]:=by rfl):
  PI X (.Tuple elts x1 tpos) (.Call (.Name "zip" p) [a,b] [] pos) (iZp X.K ta):=by
 intro f s n H R I h;refine Call_ (fF I y hm PyProof.Rows.Boot.«zip» (Qh (e_ (ha pos f s n H _ I h) λus d ⟨vs,o,i,r1,q1⟩=>?_) (by rw[hs,g]) (by rw[g];rfl)));obtain⟨b1,b2,t,u,xs,ys,e,q1,q2,q⟩:=q1;subst e;cases r1 with
 |cons r k=>
  cases k with
  |cons A k=>
   cases k;cases r;cases A;obtain⟨B,P,C⟩:=dk.src i q1;obtain⟨F,Q,J⟩:=dk.src i q2;refine zY C J λh' v L N l m sz kp=>?_;refine wpAny_pyIter_zip (s:={d with heap:=h'}) v ?_;have O:dk X f n o {d with heap:=h'}:=i.kept (t':=d.toks) kp;refine⟨_,[d.heap.objs.size+4,d.heap.objs.size+2,d.heap.objs.size+3,d.heap.objs.size,d.heap.objs.size+1],_,Zr b1 b2 X.K t u,o,rfl,O,AT b1 b2 t u (d.heap.objs.size+4) (d.heap.objs.size+2) (d.heap.objs.size+3) d.heap.objs.size (d.heap.objs.size+1) (by simp),⟨v,L,⟨_,_,N⟩,l,m⟩,λc w=>?_,q⟩;have j:d.heap.objs.size<=c:=by
    simp only[OK,Qc,SD]at w;rcases w with rfl|rfl|rfl|rfl|rfl
    .exact Ry _ _
    .exact Ry _ _
    .exact Ry _ _
    .exact OD _
    .exact Ry _ _
   exact i.fpOk j (i.hok.fresh j)
noncomputable def c9:List D->List D->List D
 |x::xs,y::ys=> .tup [x,y]::c9 xs ys
 |_,_=>[]
theorem sr:∀(xs ys:List D),(c9 xs ys).length=RK xs.length ys.length
 |[],ys=>by simp[c9]
 |x::xs,[]=>by simp[c9]
 |x::xs,y::ys=>by
  show(c9 xs ys).length+1=_;rw[sr xs ys,OO,OO];omega
theorem su:∀{xs ys:List D} {i:Nat} {d:D},(c9 xs ys)[i]?=on d->∃x y,xs[i]?=on x/\ys[i]?=on y/\d= .tup [x,y]
 |[],ys,i,d,h=>by simp[c9]at h
 |x::xs,[],i,d,h=>by simp[c9]at h
 |x::xs,y::ys,0,d,h=>by
  simp[c9]at h;exact⟨x,y,rfl,rfl,h.symm⟩
 |x::xs,y::ys,i+1,d,h=>by
  have h':(c9 xs ys)[i]?=on d:=by simpa[c9]using h
  obtain⟨a,b,c,e,f⟩:=su h';exact⟨a,b,by simpa using c,by simpa using e,f⟩
def AJ:List D->Option (List D)
 |[a,b]=>(cW a).bind λxs=>(cW b).map λys=>c9 xs ys
 |_=>Oi
theorem c4.sqS(h:c4 K F H d v)(e:cW d=on ds):∃b a,v= .ref a/\∀f c,Tr F H f c->∃xs,s_ b K c a xs/\bb K f c ds xs:=by
 cases d<;>first
  |(cases e;obtain⟨a,xs,rfl,_⟩:=c4.sqL h;refine⟨On,a,rfl,λf c t=>?_⟩;obtain⟨j,ys,g,sq,i⟩:=c4.sqL (c4.tr t _ _ h);cases g;exact⟨ys,sq,i⟩)
  |(cases e;obtain⟨a,xs,rfl,_⟩:=c4.sqT h;refine⟨Os,a,rfl,λf c t=>?_⟩;obtain⟨j,ys,g,sq,i⟩:=c4.sqT (c4.tr t _ _ h);cases g;exact⟨ys,sq,i⟩)
  |cases e
theorem JJ{b1 b2:Bool}(n:∀b a,Tr F H b a->∃xs,s_ b1 K a l1 xs/\bb K b a ds xs)(o:∀b a,Tr F H b a->∃xs,s_ b2 K a l2 xs/\bb K b a es xs):v_ K (Zr b1 b2 K l1 l2) F H (c9 ds es):=λb a β2 t fr i=>by
 obtain⟨xs,c,d1⟩:=n b a t;obtain⟨ys,e,d2⟩:=o b a t;refine⟨λd hd=>?_,λq=>?_⟩
 .obtain⟨x,y,f,g,rfl⟩:=su hd
  obtain⟨u,h,du⟩:=d1.get f;obtain⟨v,j,r⟩:=d2.get g;refine⟨⟨xs,ys,u,v,c,e,h,j⟩,λz B w=>?_⟩;obtain⟨p,C,I,k,rfl,rfl,A⟩:=w;obtain⟨l,m⟩:=A xs ys c e;rw[h]at l;rw[j]at m;cases l;cases m;exact⟨bG.upd k,c4.newT fr k (bb.cons du (bb.cons r bb.nil))⟩
 .rw[sr]at q
  have f:=d1.length;have g:=d2.length;refine⟨xs,ys,c,e,?_⟩;rw[<-f,<-g];omega
def wS(g:FL):FL:=cX AJ g
theorem pA{x1}(o:Gl X "zip")(hm:X.mg "zip"=Oi)(ha:PA X [a,b] (j1 X.K g E))(hs:OJ [a,b] X.env=[(Os,PZ a X.env),(Os,PZ b X.env)]:=by rfl)(i:OJ [b] X.env=[(Os,PZ b X.env)]:=by rfl):
  PI X (.Tuple elts x1 tpos) (.Call (.Name "zip" p) [a,b] [] pos) (iV X.K (wS g) E):=
 (KZ o hm ha hs i).imp λI H R j=>lk j λF δ β fr q h=>⟨F,δ,β,fr,q,(run.bind (R:=bb X.K F) h).mono λvs f j=>by
  obtain⟨ds,β1,t,hd,r1⟩:=j;obtain⟨l,e,k⟩:=run.ofO r1;unfold AJ at e;split at e
  .rename_i c d
   obtain⟨v,J,rfl,r,u⟩:=bb.two hd;cases q1:cW c with
   |none=>rw[q1]at e;cases e
   |some xs=>
    cases q2:cW d with
    |none=>rw[q1,q2]at e;cases e
    |some ys=>
     rw[q1,q2]at e;cases e;obtain⟨b1,w,rfl,m⟩:=c4.sqS r q1;obtain⟨b2,y,rfl,n⟩:=c4.sqS u q2;obtain⟨us,A,_⟩:=m F f (Tr.refl F f);obtain⟨B,C,_⟩:=n F f (Tr.refl F f);exact⟨b1,b2,w,y,us,B,rfl,A,C,k _ f (To.refl t.fr) (JJ m n)⟩
  .cases e⟩
variable{es:List Expr}
end
section
variable{P:Pc}{w:Pk}{K:OU}{mg:Pj->Option Ov}{base:P4}{N:List Pj}{qual:Pj}{scope:Scope}{f:Oq}{cd:Ov}{A:PU}{outer:List VJ}{s:OB}{H:Hp}{E:XK}
end
section
variable{X:Cx}{E:St->XK}{K:OU}
variable{elt cp iter:Expr}{ifs:List Expr}{rest:List Qp}{scope:Scope}{pos:TD}{Nc dr:List Pj}{dc:List Nat}{g:TG}{tb:Oq->TB}
theorem aL:dm X [] (hE X.K (λ_=>M.ret On) E0):=λa s b H Q I c=>by obtain⟨F,δ,β,fr,d,r⟩:=c;exact tJ a s b H Q I (run.ret fr r rfl)
theorem pF(a:PT X c (hE X.K t E0)):dm X [c] (hE X.K t E0):=BO a
theorem bf(c:X.calm=On)(S:dt X scope Nc dr dc)(d:PI X cp iter (iV X.K it E))
  (e:∀(cl:List (Pj×Oq)) (C:Oq) (a:List Oq) (s:OB) (H:Hp),PG (az X Nc scope cl C a s H) cp g/\dm (az X Nc scope cl C a s H) ifs (hE X.K tt E0)/\∀D,PB (az X Nc scope cl C a s H) elt (⟨cp,iter,ifs,0⟩::rest) scope pos 0 D (tb D))
  (f:ci X.K g tg) (i:di tg) (j:∀D,iY X.K D (tb D) b) (hs:∀x,Pz iter X.env x=QR x:=by intro _;rfl):PE X (.ListComp elt (⟨cp,iter,ifs,0⟩::rest) scope pos) (tV X.K (cf dr.length dc it tg tt b) E):=
 (mn c S d e hs).imp λk H Q h=>sI f i j h
theorem sS{a c:TD}(j:X.N.Nodup)(d:X.N[i]?=on x)(k:A_ X.env.scope x)(l:X.calm=On)(S:dt X scope Nc dr dc)(m:PI X cp iter (iV X.K it E))
  (n:∀(cl:List (Pj×Oq)) (C:Oq) (f:List Oq) (s:OB) (H:Hp),PG (az X Nc scope cl C f s H) cp g/\dm (az X Nc scope cl C f s H) ifs (hE X.K tt E0)/\∀D,PB (az X Nc scope cl C f s H) elt (⟨cp,iter,ifs,0⟩::rest) scope pos 0 D (tb D))
  (o:ci X.K g tg) (p:di tg) (q:∀D,iY X.K D (tb D) b)
  (e:Ts (.ListComp elt (⟨cp,iter,ifs,0⟩::rest) scope pos) (on (.Name x a)) c.line X.env=QR On:=by rfl)
  (hs:∀x,Pz iter X.env x=QR x:=by intro _;rfl) (r:X.fn x=On\/X.env.scope.names.lookup x=on .local:=by first|exact .inl rfl|exact .inr rfl|assumption):
  PS X (.Assign [.Name x a] (.ListComp elt (⟨cp,iter,ifs,0⟩::rest) scope pos) c) (tG X.K X.H₀ (lB i (cf dr.length dc it tg tt b)) E):=
 aG ((vj j d k l S m n e hs r).imp λD t H h=>sI o p q h)
noncomputable def wQ:D->Option D
 | .int i=>on (.int (-i))
 |_=>Oi
theorem w6:IA K (rU λi=> .int (-i)) wQ:=λF H β Q d1 d b fr a e k=>by
 cases d1<;>first|(cases e;exact⟨_,a,k _ H (To.refl fr) rfl⟩)|cases e
noncomputable def uM:D->Option Int
 | .int i=>on i
 |_=>Oi
noncomputable def iw(xs:List D)(lo a:Option Int):List D:=(xs.drop (HT.sIx xs.length 0 lo)).take (HT.sIx xs.length xs.length a-HT.sIx xs.length 0 lo)
def slD:D->Option Int->Option Int->Option D
 | .lst xs,lo,hi=>on (.lst (iw xs lo hi))
 | .scr ns,lo,hi=>on (.lst (iw (ns.map D.int) lo hi))
 |_,_,_=>Oi
def j9(f:Option (FD)):Dn->M (Option Int):=λδ=>match f with
 |none=>M.ret Oi
 |some g=>M.bind (g δ) λd=>M.bind (M.ofO (uM d)) λi=>M.ret (on i)
def Z9(f:FD)(lo a:Option (FD)):FD:=λδ=>M.bind (f δ) λd=>M.bind (j9 lo δ) λl=>M.bind (j9 a δ) λh=>M.ofO (slD d l h)
def qz(X:Cx)(e:Option Expr)(f:Option (FD))(E:St->XK):Prop:=PO X e (λc H Q=>∃F δ β,Fr F H β/\j2 X.K F H δ c/\run (λ_ (a b:Option Int)=>b=a) F E c (j9 f δ) H Q β)
theorem k7:qz X Oi Oi E:=λa s b H Q I c=>by obtain⟨F,δ,β,fr,d,r⟩:=c;exact vn a s b H Q I (run.ret fr r rfl)
theorem k6(h:PE X e (tV X.K f E)):qz X (on e) (on f) E:=λa s c H Q I b=>lk b λF δ β fr j r=>vm h a s c H Q I ⟨F,δ,β,fr,j,(run.bind (R:=c4 X.K F) r).mono λv l b=>by
  obtain⟨d,β1,t,hd,r1⟩:=b;obtain⟨i,e,k⟩:=run.ofO_bind r1;cases d<;>first|(cases e;exact⟨_,hd,run.ret t.fr k rfl⟩)|cases e⟩
theorem bb.cut(h:bb K F H ds vs)(lo a:Option Int):bb K F H (iw ds lo a) (jc vs lo a):=by
 unfold iw jc;rw[h.length];exact(h.drop _).take _
theorem lZ{lo y:Option Expr}{fl A:Option (FD)}(B:PE X e (tV X.K f E))(C:qz X lo fl E)(I:qz X y A E):PE X (.Subscript e (.Slice lo y Oi p2) pos) (tV X.K (Z9 f fl A) E):=
 (nG u5 B C I).imp λO H Q o=>lk o λF δ β fr q r=>⟨F,δ,β,fr,q,(run.bind (R:=c4 X.K F) r).mono λv P ⟨d,β1,t,hd,r1⟩=>
  ⟨F,δ,β1,t.fr,q.tr (t.tr fr),(run.bind (R:=λ_ (a b:Option Int)=>b=a) r1).mono λl T ⟨U,β2,n,u,J⟩=>
   ⟨F,δ,β2,n.fr,q.tr ((t.tr fr).trans (n.tr t.fr)),(run.bind (R:=λ_ (a b:Option Int)=>b=a) J).mono λh W o=>by
    obtain⟨h',β3,i,w,L⟩:=o;subst u w;obtain⟨c,e,k⟩:=run.ofO L;have j:=c4.tr ((n.tr t.fr).trans (i.tr n.fr)) _ _ hd;cases d<;>first
     |(cases e;obtain⟨a,xs,rfl,sq,N⟩:=c4.sqL j;exact⟨a,xs,rfl,sq,λp m=>k _ _ (i.fr.upd _ m) (c4.newL i.fr m (N.cut l h))⟩)
     |(cases e;obtain⟨a,rfl,sq⟩:=c4.scr j;exact⟨a,_,rfl,sq,λp m=>k _ _ (i.fr.upd _ m) (c4.newL i.fr m ((bb.ofInts _).cut l h))⟩)
     |cases e⟩⟩⟩
def Bg.ok(β:Bg):Prop:=β.cells≠[]/\β.cells.length<=64/\(∀c∈β.cells,0<=c)/\0<=β.j
end
noncomputable def Bg.pos(β:Bg):Nat:=(β.i % (β.cells.length:Int)).toNat
def Bg.cell(β:Bg):Int:=β.cells.getD β.pos 0
noncomputable def Bg.nxt(β:Bg):Int:=(β.j+β.cell % 2147483629+77)*48271 % 2147483629
noncomputable def iN(β:Bg)(lot:Int):Int:=if 10^18<=β.cell then β.cell % lot else β.nxt/64 % lot
noncomputable def jO(β:Bg)(lot:Int):Bg:=if 10^18<=β.cell then⟨β.cells.set β.pos (β.cell/lot),β.i,β.j⟩else⟨β.cells,β.i+1,β.nxt⟩
open Classical in
def jX:List D->M D:=λds β=>match ds with
 |[.bag,.int lot]=>if β.ok/\0<lot/\lot<1073741824 then on (Q0 (D.int (iN β lot)),jO β lot)else Oi
 |_=>Oi
theorem CK{β:Bg}(h:β.ok)(a:0<lot)(b:lot<1073741824):jX [.bag,.int lot] β=on (.ok (.int (iN β lot)),jO β lot):=by
 unfold jX;exact OA ⟨h,a,b⟩
theorem ze{β:Bg}(h:jX ds β=on (r,β')):∃lot,ds=[.bag,.int lot]/\β.ok/\0<lot/\lot<1073741824/\r= .ok (.int (iN β lot))/\β'=jO β lot:=by
 unfold jX at h;split at h
 .split at h
  .rename_i lot q
   cases h;exact⟨lot,rfl,q.1,q.2.1,q.2.2,rfl,rfl⟩
  .cases h
 .cases h
theorem Bg.ok.at{β:Bg}(h:β.ok):β.pos<β.cells.length/\β.cells[β.pos]?=on β.cell/\0<=β.cell/\β.i % (β.cells.length:Int)=(β.pos:Int):=by
 obtain⟨c1,c2,c3,b⟩:=id h;have c:0<β.cells.length:=List.length_pos_iff.mpr c1;have a1:0<=β.i % (β.cells.length:Int):=Tk _ (by omega);have a2:β.i % (β.cells.length:Int)<β.cells.length:=TU _ (by omega);have a:β.pos<β.cells.length:=by unfold Bg.pos;omega
 have e:β.cell=β.cells[β.pos]:=by
  unfold Bg.cell;rw[Om,Oo a];rfl
 refine⟨a,by rw[e];exact Oo a,by rw[e];exact c3 _ (Pq a),?_⟩;unfold Bg.pos;omega
theorem vg{β:Bg}(h:β.ok)(b:0<lot):0<=iN β lot/\iN β lot<lot/\(jO β lot).ok:=by
 obtain⟨f,_,d,_⟩:=h.at;obtain⟨c1,c2,c3,e⟩:=id h;unfold iN jO;split
 .refine⟨Tk _ (by omega),TU _ b,?_,by rw[Pl];exact c2,λc a=>?_,e⟩
  .intro z
   have:=Px T7 z;rw[Pl]at this;exact c1 (Ut.mp this)
  .rcases QO a with a|rfl
   .exact c3 c a
   .exact Int.ediv_nonneg d (by omega)
 .exact⟨Tk _ (by omega),TU _ b,c1,c2,c3,Tk _ (by decide)⟩
end L2.Pu
namespace L2
open PySem PySem.Spec PyProof.Rows
end L2
namespace L2.Pu
open PySem PySem.Spec PyProof.Rows
section
variable{X:Cx}{E:St->XK}{K:OU}
def mT(K:OU)(mg:Pj->Option Ov)(x:Pj)(d:D):Prop:=∃u v,mg x=on u/\aI v u/\∀F H,c4 K F H d v
theorem kD(c:mT X.K X.mg x d)(a:Gl X x:=by rfl)(hd:(x==("__debug__":Pj))=Os:=by decide):PE X (.Name x pos) (tV X.K (fC d) E):=by
 obtain⟨u,v,b,e,f⟩:=c;exact rx (Jo a b e hd) f
mutual
noncomputable def w_:D->Option WW
 | .non=>on .none
 | .bl b=>on (.bool b)
 | .int i=>on (.int i)
 | .str x=>on (.str x)
 | .lst xs=>(toPs xs).map PyData.list
 | .tup xs=>(toPs xs).map PyData.tuple
 |_=>Oi
noncomputable def toPs:List D->Option (List WW)
 |[]=>on []
 |x::xs=>match w_ x,toPs xs with
  |some p,on ps=>on (p::ps)
  |_,_=>Oi
end
mutual
theorem fS{s:OB}(I:dk X a_ σ H s):∀(d:D) (v:V) (u:Ov) (p:WW),c4 X.K F H d v->w_ d=on p->aI v u->∃as,Reads s.heap u p as
 | .non,v,u,p,h,e,r=>by cases e;cases h.non;cases r;exact⟨_,.none⟩
 | .bl b,v,u,p,h,e,r=>by cases e;cases h.bl;cases r;exact⟨_,.bool b⟩
 | .int i,v,u,p,h,e,r=>by cases e;cases h.int;obtain⟨t,rfl⟩:=r;exact⟨_,.int i t⟩
 | .str x,v,u,p,h,e,r=>by cases e;cases h.str;obtain⟨t,rfl⟩:=r;exact⟨_,.str x t⟩
 | .lst xs,v,u,p,h,e,r=>by
  unfold w_ at e;cases q:toPs xs with
  |none=>rw[q]at e;cases e
  |some ps=>
   rw[q]at e;cases e;obtain⟨a,ys,rfl,sq,c⟩:=c4.sqL h;cases r;obtain⟨its,f,pl,_⟩:=I.list sq;obtain⟨as,g⟩:=reads_L I xs ys its ps c q f;obtain⟨o,j,k,n,hd⟩:=pl.isList;exact⟨_,.list j k hd (by simpa using g)⟩
 | .tup xs,v,u,p,h,e,r=>by
  unfold w_ at e;cases q:toPs xs with
  |none=>rw[q]at e;cases e
  |some ps=>
   rw[q]at e;cases e;obtain⟨a,ys,rfl,sq,c⟩:=c4.sqT h;cases r;obtain⟨its,f,pl,_⟩:=I.tuple sq;obtain⟨as,g⟩:=reads_L I xs ys its ps c q f;obtain⟨o,j,k,n,hd⟩:=pl;exact⟨_,.tuple j k hd (by simpa using g)⟩
 | .ty _,_,_,_,_,e,_=>by cases e
 | .txt,_,_,_,_,e,_=>by cases e
 | .scr _,_,_,_,_,e,_=>by cases e
 | .obj _ _ _,_,_,_,_,e,_=>by cases e
 | .bag,_,_,_,_,e,_=>by cases e
 | .adr _,_,_,_,_,e,_=>by cases e
 | .dct _ _ _,_,_,_,_,e,_=>by cases e
theorem reads_L{s:OB}(I:dk X a_ σ H s):∀(ds:List D) (vs:List V) (us:List Ov) (ps:List WW),bb X.K F H ds vs->toPs ds=on ps->au vs us->∃as,ReadsAll s.heap us ps as
 |[],vs,us,ps,h,e,r=>by
  have q:vs=[]:=h;subst q;cases e;cases r;exact⟨_,.nil⟩
 |d::ds,vs,us,ps,h,e,r=>by
  obtain⟨x,a,rfl,b,c⟩:=h;unfold toPs at e;split at e
  .rename_i p pr f g
   cases e;cases r with
   |cons r1 i=>
    obtain⟨as,j⟩:=fS I d x _ p b f r1;obtain⟨bs,k⟩:=reads_L I ds a _ pr c g i;exact⟨_,.cons j k⟩
  .cases e
end
def nU(a b:D):Option Bool:=match w_ a,w_ b with
 |some p,on q=>if(Vh p&&Vh q)=On then on (RA p q)else Oi
 |_,_=>Oi
def nS(a b:D):Option D:=match Zg a b with
 |some c=>on (.bl c)
 |none=>(nU a b).map D.bl
def i8(a b:D):Option D:=match Zg a b with
 |some c=>on (.bl (!c))
 |none=>(nU a b).map λc=>D.bl (!c)
def p9(X:Cx)(g:Bool->Bool):R2:=λx y H Q=>∃(F:Fx) (a b:D) (c:Bool),c4 X.K F H a x/\c4 X.K F H b y/\nU a b=on c/\Q (.bl (g c)) H
theorem rc{c:Bool}(h:nU a b=on c):∃p q,w_ a=on p/\w_ b=on q/\Vh p=On/\Vh q=On/\c=RA p q:=by
 unfold nU at h;split at h
 .rename_i p q d e
  split at h
  .rename_i hs
   rw[O9]at hs;cases h;exact⟨p,q,d,e,hs.1,hs.2,rfl⟩
  .cases h
 .cases h
theorem Lc(f:en k X.A):g_ X (P6 .Eq) (p9 X id):=by
 intro d s t H x y v u Q I g i h;obtain⟨F,a,b,c,d1,d2,e,q⟩:=h;obtain⟨p,j,l,m,n,o,rfl⟩:=rc e;obtain⟨as,r1⟩:=fS I a x v p d1 l g;obtain⟨bs,r⟩:=fS I b y u j d2 m i;exact eq_dataH r1 r n o f.units ⟨.bl _,H,I,rfl,q⟩
theorem La(f:en k X.A):g_ X (P6 .NotEq) (p9 X not):=by
 intro d s t H x y v u Q I g i h;obtain⟨F,a,b,c,d1,d2,e,q⟩:=h;obtain⟨p,j,l,m,n,o,rfl⟩:=rc e;obtain⟨as,r1⟩:=fS I a x v p d1 l g;obtain⟨bs,r⟩:=fS I b y u j d2 m i;exact ne_dataH r1 r n o f.units ⟨.bl _,H,I,rfl,q⟩
theorem dS(a:en k X.A):g_ X (P6 .Eq) (λx y H Q=>ZK x y H Q\/p9 X id x y H Q):=NC.or (Lc a)
theorem gh(a:en k X.A):g_ X (P6 .NotEq) (λx y H Q=>ZI x y H Q\/p9 X not x y H Q):=NB.or (La a)
theorem fG:aX X.K (λx y H Q=>ZK x y H Q\/p9 X id x y H Q) nS:=λF H β Q d1 d2 d h i fr a b e k=>by
 unfold nS at e;split at e
 .rename_i c q
  cases e;obtain⟨f,g⟩:=zS q a b;exact .inl ⟨f,by rw[g];exact k _ H (To.refl fr) rfl⟩
 .cases q:nU d1 d2 with
  |none=>rw[q]at e;cases e
  |some c=>rw[q]at e;cases e;exact .inr ⟨F,d1,d2,c,a,b,q,k _ H (To.refl fr) rfl⟩
theorem iQ:aX X.K (λx y H Q=>ZI x y H Q\/p9 X not x y H Q) i8:=λF H β Q d1 d2 d h i fr a b e k=>by
 unfold i8 at e;split at e
 .rename_i c q
  cases e;obtain⟨f,g⟩:=zS q a b;exact .inl ⟨f,by rw[g];exact k _ H (To.refl fr) rfl⟩
 .cases q:nU d1 d2 with
  |none=>rw[q]at e;cases e
  |some c=>rw[q]at e;cases e;exact .inr ⟨F,d1,d2,c,a,b,q,k _ H (To.refl fr) rfl⟩
theorem Ob(i j:Int):nS (.int i) (.int j)=on (.bl (decide (i=j))):=rfl
theorem Oa(i j:Int):i8 (.int i) (.int j)=on (.bl (!decide (i=j))):=rfl
theorem HV{C:Int->Int->Prop}{c:Int->Int->Bool}{g:Int->Int->Int}(b:∀i j,c i j=On->C i j):aX K (YT C g) (oD λi j=>if c i j=On then on (.int (g i j))else Oi):=λF H β Q d1 d2 d l m fr f h e k=>by
 obtain⟨i,j,rfl,rfl,a⟩:=ij e;split at a
 .cases a
  exact⟨i,j,f,h,b _ _ (by assumption),k _ H (To.refl fr) rfl⟩
 .cases a
def addI:D->D->Option D:=oD λi j=>on (.int (i+j))
theorem vJ:aX K (ipI λi j=>i+j) addI:=λF H β Q d1 d2 d f g fr a b e k=>by
 obtain⟨i,j,rfl,rfl,c⟩:=ij e;cases c;exact⟨i,j,a,b,k _ H (To.refl fr) rfl⟩
theorem vM:Zn X .Mult (YT sf λi j=>i*j):=by
 intro a s e H x y v u Q I b d h;obtain⟨i,j,rfl,rfl,c,q⟩:=h;obtain⟨t,rfl⟩:=b;obtain⟨t',rfl⟩:=d;exact imul_int ⟨.int _,H,I.tok _,⟨_,rfl⟩,q⟩ (Xg (iW c.1) (iW c.2))
theorem vI:aX K (YT sf λi j=>i*j) CF:=HV λi j h=>by
 simp only[O9,gb,Po]at h;exact h
theorem CV:aX K (YT sj λi j=>i/j) xx:=HV λi j h=>by
 simp only[O9,Po]at h;exact h
abbrev fi:=AZ
theorem z0(b:X.calm=On):cM X (.builtin "sum") (λxs H Q=>∃(a:Oq) (ns:List Int),xs=[.ref a]/\fy X.K H a (ns.map V.int)/\Q (.int ns.sum) H):=re b
theorem Lu:dD K (λxs H Q=>∃(a:Oq) (ns:List Int),xs=[.ref a]/\fy K H a (ns.map V.int)/\Q (.int ns.sum) H) fi:=NP
def IB(H:Hp)(b l:Oq):Prop:=∃(cells:List Int) (i j:Int),H b=on (.lst [.ref l,.int i,.int j])/\H l=on (.lst (cells.map V.int))/\cells≠[]/\cells.length<=64/\(∀c∈cells,0<=c)/\0<=j
theorem JI(h:k<n):ra n (k:Int)=on k:=by
 unfold ra;rw[OA (by omega),OA (by omega)];simp
theorem Od(ns:List Int):∃a:List Int,jc (ns.map V.int) Oi (on 63)=a.map V.int/\a.length<=63:=by
 refine⟨(ns.drop (HT.sIx ns.length 0 Oi)).take (HT.sIx ns.length ns.length (on 63)-HT.sIx ns.length 0 Oi),?_,?_⟩
 .unfold jc
  rw[Oh,U8,Rv]
 .rw[Qg]
  have:HT.sIx ns.length ns.length (on 63)<=63:=by
   unfold HT.sIx;simp;omega
  omega
def Nn(K:OU):Sp:=λvs H Q _=>∃(a:Oq) (ns:List Int),vs=[.ref a]/\fy K H a (ns.map V.int)/\∀(b l:Oq) (c:Hp),H b=Oi->H l=Oi->IB c b l->bG H c->Q (.ref b) c
def GX(K:OU):Sp:=λvs H Q _=>∃(a:Oq) (ns:List Int),vs=[.ref a]/\fy K H a (ns.map V.int)/\ns.length<=63/\∀b,Q (.bl On) b
theorem J0(sm:bG H₀ H)(A:H₀ b=Oi)(C:H₀ l=Oi)(B:IB H b l):∃β,β.ok/\gs K H₀ (λc=>if c=b\/c=l then on 1 else Oi) (on (b,l)) H (Oi::on (.sh .bag)::OY n Oi) β (on (.ref a)::on (.ref b)::OY n Oi):=by
 obtain⟨cells,i,j,g,h,p,v,w,y⟩:=B;have m:b≠l:=NJ g h (by
  intro z;cases cells with
  |nil=>exact p rfl
  |cons c r=>simp at z)
 refine⟨⟨cells,i,j⟩,⟨p,v,w,y⟩,⟨⟨λc f=>?_,λt u e=>?_,λt u e=>?_⟩,λt u e=>?_,by simp,λc f=>?_,λc k f=>(by
  have d:(if c=b\/c=l then on 1 else Oi)=on (k+2):=f;split at d<;>cases d),λc k f=>(by
  have d:(if c=b\/c=l then on 1 else Oi)=on (k+2):=f;split at d<;>cases d),λk s e=>?_⟩⟩
 .have d:(if c=b\/c=l then on 1 else Oi)≠(Oi:Option Nat):=f
  split at d
  .rename_i q
   rcases q with rfl|rfl
   .rw[g];simp
   .rw[h];simp
  .exact OX rfl d
 .cases e
  refine⟨?_,?_,m⟩
  .show(if b=b\/b=l then on 1 else Oi)≠(Oi:Option Nat)
   rw[OA (.inl rfl)];simp
  .show(if l=b\/l=l then on 1 else Oi)≠(Oi:Option Nat)
   rw[OA (.inr rfl)];simp
 .cases e
  exact⟨g,h⟩
 .cases e
  exact⟨OA (.inl rfl),OA (.inr rfl)⟩
 .cases q:H₀ c with
  |none=>exact OX q f
  |some o=>rw[sm c o q];simp
 .match k with
  |0=>simp at e
  |1=>
   simp at e;subst e;exact⟨.ref b,rfl,b,l,rfl,rfl⟩
  |k+2=>
   simp only[Wz,Q1]at e;split at e<;>cases e
variable{P:Pc}{w:Pk}{mg:Pj->Option Ov}{base:P4}
theorem bp{st:Qe}{N ps:List Pj}(n m:Nat)(g:G)(F:d5 K x qual st f fd)(S:c_ N ps (af st))(hn:ps.length=n)(hm:N.length=m)
  (a:∀(b:Ov) (A:PU) (outer:List VJ) (s:OB) (H:Hp) (E:XK),en k (A.deeper (SS qual (af st) s.heap.objs.size f b))->
   PSs (eF (hO P w) P w K mg base N qual (af st) f b A outer s H E) (bX st) (tG K H g (λ_=>E))):fw P w K mg base (hO P w) (k+1) f fd ps (F3 K n (fK m g)):=by
 subst hn hm;exact JP F S a
end
end L2.Pu
namespace L2
open PySem PySem.Spec PyProof.Rows
theorem dt.ofB{X:Cx}{scope:Scope}{dc:List Nat}(k:scope.kind= .function)(nd:(scope.names.map (·.1)).Nodup)
  (fr:(scope.names.all λy=>y.2 != .free||(X.env.scope.names.lookup y.1==on .cell||X.env.scope.names.lookup y.1==on .free))=On) (a:Nc=dr++dc.map (λj=>X.N.getD j Ss))
  (b:(dc.all λj=>decide (j<X.N.length)&&scope.names.lookup (X.N.getD j Ss)==on .free)=On):dt X scope Nc dr dc:=by
 refine⟨k,nd,λy c e=>?_,a,λj d=>?_⟩
 .have:=Sc.mp fr y c
  rw[e]at this;simp only[RV,Bool.false_or,Bool.or_eq_true,Sv]at this;exact this
 .have:=Sc.mp b j d
  simp only[O9,Po,Sv]at this;exact this
end L2
namespace L2.Pu
end L2.Pu
namespace L2.Pu
open PySem PySem.Spec
theorem qr{ds os:List D}(a:it δ β=on (.ok ds,β1))(c:nw tg tt b ds (lm nv dc δ) β1=on (.ok os,β2))(d:os.length<=OS):cf nv dc it tg tt b δ β=on (.ok (.lst os),β2):=by
 unfold cf;simp only[a,c,d,PM]
end L2.Pu
namespace L2.Pu
open PySem PySem.Spec PyProof.Rows
section
variable{X:Cx}{E:St->XK}{K:OU}{a b:Expr}{es:List Expr}{pos:TD}
theorem To.none(t:To F H H1 β1)(h:H1 p=Oi):H p=Oi:=by
 cases q:H p with
 |none=>rfl
 |some o=>
  have:H1 p=on o:=t.kp p o q λb l e=>by
   obtain⟨c,d⟩:=t.fr.bag b l e;exact⟨λw=>(by subst w;rw[c]at h;cases h),λw=>(by subst w;rw[d]at h;cases h)⟩
  rw[this]at h;cases h
noncomputable def Fx.but(F:Fx)(a:Oq):Fx:=⟨λc=>F.A c\/c=a,F.bg⟩
theorem Fx.tr_but{F:Fx}(fr:Fr F H β1)(d:H p=Oi)(hs:∀c o,H c=on o->H1 c=on o):Tr F H (F.but p) H1:=⟨λc e f z=>by
 rcases z with z|z
 .exact e z
 .subst z;exact f d,λc o _ h=>hs c o h,rfl⟩
theorem Fx.tr_of{F:Fx}:Tr (F.but p) H F H:=⟨λc h _ z=>h (QY z),λ_ _ _ h=>h,rfl⟩
def cw(K:OU)(F:Fx)(H0 H:Hp)(ds:List D)(v:V):Prop:=∃a xs,v= .ref a/\H0 a=Oi/\H a=on (.lst xs)/\bb K (F.but a) H ds xs
def x_(K:OU)(f:FL)(E:St->XK):TE:=λc H Q=>∃F δ β,Fr F H β/\j2 K F H δ c/\run (cw K F H) F E c (f δ) H Q β
def YN(K:OU)(f:Dn->M (List (List D)))(E:St->XK):TE:=λc H Q=>∃F δ β,Fr F H β/\j2 K F H δ c/\run (gv K F H) F E c (f δ) H Q β
noncomputable def YE(ds:List D):Option (List D):=if ds.length<=OS then on ds else Oi
def NG(op:List D->Option (List D))(g:FL):FL:=λδ=>M.bind (g δ) λds=>M.ofO (op ds)
theorem cw.new(t:To F H H1 β1)(d:H1 p=Oi)(hd:bb K F H1 ds xs):cw K F H (upd H1 p (.lst xs)) ds (.ref p):=
 ⟨p,xs,rfl,t.none d,aj,bb.tr (Fx.tr_but t.fr d λc o h=>by rw[b_ (aw h d)];exact h) _ _ hd⟩
theorem NE(h:PA X es (j1 X.K g E)):PE X (.List es pos) (x_ X.K (NG YE g) E):=
 (dR h).imp λi H Q d=>lk d λF δ β fr f r=>⟨F,δ,β,fr,f,(run.bind (R:=bb X.K F) r).mono λvs j d=>by
  obtain⟨ds,β1,t,hd,r1⟩:=d;obtain⟨d3,c,k⟩:=run.ofO r1;unfold YE at c;split at c
  .cases c
   exact⟨by rw[<-hd.length];assumption,λp e=>k _ _ (t.fr.upd _ e) (cw.new t e hd)⟩
  .cases c⟩
theorem bb.rep(h:bb K F H ds xs):∀n:Nat,bb K F H (OY n ds).flatten (OY n xs).flatten
 |0=>rfl
 |n+1=>by
  rw[Qs,Rq,Qs,Rq];exact bb.append h (bb.rep h n)
noncomputable def tu(ds:List D)(d:D):Option (List D):=match d with
 | .int k=>if(decide (-(2^63)<=k)&&decide (k<2^63)&&decide (ds.length<=OS)&&decide (ds.length*k.toNat<=OS))=On then on (OY k.toNat ds).flatten else Oi
 |_=>Oi
def BZ(g:FL)(f:FD):FL:=λδ=>M.bind (g δ) λds=>M.bind (M.ofO (YE ds)) λds=>M.bind (f δ) λd=>M.ofO (tu ds d)
theorem ND(ha:PA X es (j1 X.K g E))(O:PE X b (tV X.K f E)):PE X (.BinOp (.List es pos') .Mult b pos) (x_ X.K (BZ g f) E):=
 (dA K8 (dR ha) O).imp λT H Q j=>lk j λF δ β fr B r=>⟨F,δ,β,fr,B,(run.bind (R:=bb X.K F) r).mono λvs U j=>by
  obtain⟨ds,β1,t,hd,r1⟩:=j;obtain⟨W,n,Y⟩:=run.ofO_bind r1;unfold YE at n;split at n
  .rename_i Z
   cases n;refine⟨by rw[<-hd.length];exact Z,λp I=>?_⟩;have m:=t.fr.upd (.lst vs) I;have J:=t.fr.fresh I;refine⟨F,δ,β1,m.fr,(B.tr (t.tr fr)).tr (m.tr t.fr),?_⟩;obtain⟨L,β2,e,h⟩:=Y;have u:run (cw X.K F H) F E T (M.bind (f δ) λd=>M.ofO (tu ds d)) (upd U p (.lst vs)) Q β1:=by
    refine⟨L,β2,e,?_⟩;cases L with
    |ok d=>exact λv y c=>h v y (m.trans c)
    |error C=>exact λy c=>h y (m.trans c)
   refine(run.bind (R:=c4 X.K F) u).mono λw H2 j=>o0 j λd β3 c hw r3=>?_;obtain⟨os,i,k⟩:=run.ofO r3;unfold tu at i;split at i
   .split at i
    .rename_i kk o
     cases i;simp only[O9,Po]at o;cases hw;have A:H2 p=on (.lst vs):=c.kp p _ aj λb l q=>⟨λz=>J (z▸(fr.bgA b l q).1),λz=>J (z▸(fr.bgA b l q).2.1)⟩;have tt:=m.trans c;exact⟨p,_,vs,rfl,rfl,A,o.1.1.1,o.1.1.2,by rw[<-hd.length];exact o.2,λq N=>k _ _ (c.fr.upd _ N) (cw.new (t.trans tt) N ((bb.tr (tt.tr t.fr) _ _ hd).rep _))⟩
    .cases i
   .cases i
  .cases n⟩
def eL(nv:Nat)(dc:List Nat)(it:Dn->M (List Pu.D))(tg:m_)(tt:Dn->M Bool)(b:Dn->M (List Pu.D)):Dn->M (List Pu.D):=λδ β=>match it δ β with
 |none=>Oi
 |some (.error C,β1)=>on (.error C,β1)
 |some (.ok ds,β1)=>match nw tg tt b ds (lm nv dc δ) β1 with
  |some (.ok os,β2)=>if os.length<=OS then on (.ok os,β2)else Oi
  |_=>Oi
theorem x6{dr:List Pj}{dc:List Nat}{it:Dn->M (List Pu.D)}{g:TG}{tg:m_}{tt:Dn->M Bool}{I:Oq->TB}{b:Dn->M (List Pu.D)}(U:ci K g tg)(W:di tg)(Y:∀D,iY K D (I D) b){L:St}{H:Hp}{Q:VK}(h:x_ K (eL dr.length dc it tg tt b) E L H Q):
  oy dr dc (iV K it E) (λD J=>cL J g (hE K tt E0) (I D)) L H Q:=by
 obtain⟨F,δ,β,fr,N,r,k,e,h⟩:=h;unfold eL at e;refine⟨F,δ,β,fr,N,?_⟩;split at e
 .cases e
 .rename_i C β1 q
  cases e;exact⟨.error C,_,q,h⟩
 .rename_i ds β1 q
  split at e
  .rename_i os β2 q2
   split at e
   .rename_i Z
    cases e;refine⟨.ok ds,β1,q,λJ j t hJ D c=>?_⟩;have d:¬F.A D:=t.fr.fresh c;have nb:∀b l,F.bg=on (b,l)->D≠b/\D≠l:=λb l z=>⟨λw=>d (w▸(fr.bgA b l z).1),λw=>d (w▸(fr.bgA b l z).2.1)⟩;have O:=t.fr.upd (.lst []) c;have m:Fr ⟨λa=>F.A a\/a=D,F.bg⟩ (upd j D (.lst [])) β1:=by
     refine⟨λa ha z=>?_,λb l z=>let ⟨x,y,w⟩:=fr.bgA b l z;⟨.inl x,.inl y,w⟩,O.fr.bag⟩
     rcases ha with ha|ha
     .exact O.fr.occ a ha z
     .subst ha;rw[aj]at z;cases z
    have f:Tr F j ⟨λa=>F.A a\/a=D,F.bg⟩ (upd j D (.lst [])):=⟨λa ha hs z=>by
     rcases z with z|z
     .exact ha z
     .subst z;exact hs c,λa o ha z=>by rw[b_ (aw z c)];exact z,rfl⟩
    refine my (R:=RL K) (D:=D) (as:=[]) (os:=os) U W (Y D) m (.inr rfl) nb (pQ (N.tr ((t.tr fr).trans f))) ⟨[],aj,rfl⟩ (hJ.tr f) q2 (show os.length<=OS from Z) λσ1 T p vk3 u=>?_;obtain⟨i,v,B⟩:=u;have tf:To F j T k:=by
     refine⟨λa o z n=>p.kp a o (by rw[b_ (aw z c)];exact z) (aw z c) n,λa ha z=>p.fr.occ a (QY ha) z,fr.bgA,p.fr.bag⟩
    exact h _ T (t.trans tf) ⟨D,i,rfl,t.none c,v,B⟩
   .cases e
  .cases e
def nX(tg:m_)(tt:Dn->M Bool)(b:Dn->M (List (List Pu.D))):List Pu.D->Dn->M (List (List Pu.D))
 |[],_=>M.ret []
 |d::ds,δ=>match tg d δ with
  |none=>M.fail
  |some δ1=>M.bind (tt δ1) λc=>M.bind (if c=On then b δ1 else M.ret []) λo=>M.bind (nX tg tt b ds δ) λos=>M.ret (o++os)
def I_(K:OU)(F:Fx)(D:Oq)(H0 H:Hp)(as:List (List Pu.D))(acc:List V):Prop:=(∀c,H0 c≠Oi->H c≠Oi)/\∃rs,acc=rs.map V.ref/\(D::rs).Nodup/\ee K F H (λr=>H0 r=Oi) as rs
theorem I_.mono{F:Fx}{D:Oq}(g:F.A D)(i:∀b l,F.bg=on (b,l)->H0 b≠Oi/\H0 l≠Oi)(fr:Fr F H β)(t:na F D H H1 β1)(h:I_ K F D H0 H as acc):I_ K F D H0 H1 as acc:=by
 obtain⟨cv,rs,e,nd,j⟩:=h;refine⟨λc k z=>?_,rs,e,nd,ee.tr (t.tr fr g) j λr xs m p q=>⟨p,t.kp r _ q (λz=>?_) λb l w=>⟨λz=>?_,λz=>?_⟩⟩⟩
 .cases q:H c with
  |none=>exact cv c k q
  |some o=>
   by_cases hd:c=D
   .subst hd;exact t.fr.occ _ g z
   .by_cases d:∃b l,F.bg=on (b,l)/\(c=b\/c=l)
    .obtain⟨b,l,w,f⟩:=d
     rcases f with rfl|rfl
     .exact t.fr.occ _ (fr.bgA _ _ w).1 z
     .exact t.fr.occ _ (fr.bgA _ _ w).2.1 z
    .rw[t.kp c o q hd λb l w=>⟨λy=>d ⟨b,l,w,.inl y⟩,λy=>d ⟨b,l,w,.inr y⟩⟩]at z
     cases z
 .subst z;exact(Pt.mp nd).1 m
 .subst z;exact(i _ _ w).1 p
 .subst z;exact(i _ _ w).2 p
def pU(K:OU)(D:Oq)(i:TB)(f:Dn->M (List (List Pu.D))):Prop:=∀(F:Fx) (H0 H:Hp) (δ:Dn) (β d:Bg) (h:St) (acc:List V) (as os:List (List Pu.D)) (Q:St->Hp->Prop),Fr F H β->F.A D->(∀b l,F.bg=on (b,l)->D≠b/\D≠l)->(∀b l,F.bg=on (b,l)->H0 b≠Oi/\H0 l≠Oi)->j2 K F H δ h->H D=on (.lst acc)->I_ K F D H0 H as acc->
 f δ β=on (.ok os,d)->as.length+os.length<=OS->(∀e g c,na F D H g d->j2 K F g δ e->g D=on (.lst c)->I_ K F D H0 g (as++os) c->Q e g)->i h H Q
def uJ(f:Dn->M (List Pu.D)):Dn->M (List (List Pu.D)):=λδ=>M.bind (f δ) λd=>M.ret [d]
theorem ee.snoc{P:Oq->Prop}(p:P r)(c:H r=on (.lst xs))(d:bb K F H ds xs):∀{ba:List (List Pu.D)} {rs:List Oq},ee K F H P ba rs->ee K F H P (ba++[ds]) (rs++[r])
 |[],[],_=>⟨p,⟨xs,c,d⟩,trivial⟩
 |_::_,_::_,h=>⟨h.1,h.2.1,ee.snoc p c d h.2.2⟩
 |[],_::_,h=>h.elim
 |_::_,[],h=>h.elim
theorem vG{D:Oq}:pU K D (xH D (x_ K f E0)) (uJ f):=λF H0 H δ β j σ acc as os Q fr m p T U W hd e hz k=>by
 obtain⟨d,β1,e1,e2⟩:=M.bind_inv e;cases e2;refine⟨F,δ,β,fr,U,E0.run e1 λv Y t hv=>?_⟩;have u:=t.kp D _ W p;have A:=hd.mono m T fr (t.toD D);obtain⟨r,xs,rfl,g,n1,n2⟩:=hv;obtain⟨cv,rs,B,nd,Z⟩:=A;obtain⟨C,c,I,J,L⟩:=hd;have i:acc.length=as.length:=by rw[B,Oh,Z.len]
 have N:c=rs:=by
  have:c.map V.ref=rs.map V.ref:=I.symm.trans B;exact Vd (λa b q=>by cases q;rfl)|>.mp this
 subst N;have nD:r≠D:=λz=>by subst z;rw[W]at g;cases g
 have nr:r∉c:=λz=>by
  obtain⟨_,ys,q⟩:=L.all r z;rw[q]at g;cases g
 have O:H0 r=Oi:=by
  cases q:H0 r with
  |none=>rfl
  |some o=>exact OX g (C r (by rw[q];simp))
 refine⟨acc,u,by rw[i];simp at hz;omega,?_⟩;have R:na F D Y (upd Y D (.lst (acc++[.ref r]))) j:=by
  refine⟨λa o h n _=>by rw[b_ n];exact h,λa h q=>?_,fr.bgA,λb l q=>?_⟩
  .by_cases z:a=D
   .subst z;rw[aj]at q;cases q
   .rw[b_ z]at q;exact t.fr.occ a h q
  .rw[b_ (p b l q).1.symm,b_ (p b l q).2.symm]
   exact t.fr.bag b l q
 have tt:=R.tr t.fr m;refine k σ _ _ ((t.toD D).trans R) (U.tr ((t.tr fr).trans tt)) aj (I_.mono m T t.fr R ⟨cv,c++[r],by rw[B,Pd];rfl,?_,ee.snoc O n1 (bb.tr Fx.tr_of _ _ n2) Z⟩);rw[<-Sd,T8];refine⟨J,by simp,λx hx y hy=>?_⟩;obtain rfl:y=r:=by simpa using hy
 rcases OK.mp hx with rfl|hx
 .exact nD.symm
 .exact λz=>nr (z▸hx)
end
section
variable{X:Cx}{E:St->XK}{K:OU}
theorem JB{D:Oq}(hg:ci K g tg)(sg:di tg)(hb:pU K D tb b){F:Fx}{as os:List (List Pu.D)}(fr:Fr F H β)(Z:F.A D)(hn:∀b l,F.bg=on (b,l)->D≠b/\D≠l)(h0:∀b l,F.bg=on (b,l)->H0 b≠Oi/\H0 l≠Oi)(vk:j2 K F H δ σ)(hD:H D=on (.lst acc))(hd:I_ K F D H0 H as acc)
  (it:v_ K J F H ds) (e:nX tg tt b ds δ β=on (.ok os,β')) (hz:as.length+os.length<=OS) (k:∀f n a,na F D H n β'->j2 K F n δ f->n D=on (.lst a)->I_ K F D H0 n (as++os) a->Q f n):cL J g (hE K tt E0) tb σ H Q:=by
 refine⟨λi m f n=>m+i=ds.length/\∃β1 a j t,na F D H n β1/\j2 K F n δ f/\n D=on (.lst a)/\I_ K F D H0 n j a/\nX tg tt b (ds.drop i) δ β1=on (.ok t,β')/\j++t=as++os,
  ⟨ds.length,by omega,β,acc,as,os,⟨λ_ _ h _ _=>h,fr⟩,vk,hD,hd,e,rfl⟩,?_⟩
 rintro i m f n ⟨hm,β1,a,j,t,u,B,C,I,r,ea⟩;have tr1:=u.tr fr Z;obtain⟨iy,is⟩:=it F n β1 tr1 u.fr i;cases hi:ds[i]? with
 |none=>
  have hl:ds.length<=i:=T3.mp hi;rw[RB hl]at r;cases r;refine .inl ⟨is (by omega),k f n a u B C ?_⟩;rw[<-ea,Pf];exact I
 |some d=>
  have hl:i<ds.length:=(OF.mp hi).1;obtain⟨go,yl⟩:=iy d hi;have ed:ds.drop i=d::ds.drop (i+1):=by
   rw[P9 hl];congr 1;exact O8 ((Oo hl).symm.trans hi)
  rw[ed]at r;unfold nX at r;cases q:tg d δ with
  |none=>rw[q]at r;cases r
  |some δ1=>
   rw[q]at r;obtain⟨c,β2,e2,e3⟩:=M.bind_inv r;obtain⟨o,β3,e4,e5⟩:=M.bind_inv e3;obtain⟨L,β4,e6,e7⟩:=M.bind_inv e5;cases e7;obtain⟨s1,s2⟩:=sg _ _ _ q;refine .inr ⟨go,λN O=>∃p,na F D H O β3/\j2 K F O δ N/\O D=on (.lst p)/\I_ K F D H0 O (j++o) p,?_,λx H2 hy=>?_⟩
   .rintro N O ⟨p,t9,vk9,hD9,hd9⟩
    exact⟨m-1,by omega,by omega,β3,p,j++o,L,t9,vk9,hD9,hd9,e6,by rw[PY];exact ea⟩
   .obtain⟨sm,dx⟩:=yl x H2 hy
    have y:To F n H2 β1:=u.fr.same sm;have tr2:=y.tr u.fr;refine hg F H2 δ δ1 f d x _ (B.tr tr2) dx q λσ2 v=>⟨F,δ1,β1,y.fr,v,E0.run e2 λc' H3 R ec=>?_⟩;subst ec;have hD2:=sm _ _ C;have T:=R.kp D _ hD2 hn;have U:=R.tr y.fr;have d3:=(I.mono Z h0 u.fr (y.toD D)).mono Z h0 y.fr (R.toD D);have W:na F D H H3 β2:=u.trans ((y.trans R).toD D);have hle:j.length+(o++L).length<=OS:=by
     have:=Px T7 ea;simp only[ON]at this⊢;omega
    cases c' with
    |true=>
     rw[OA rfl]at e4⊢;refine hb F H0 H3 δ1 β2 β3 σ2 a j o _ R.fr Z hn h0 (v.tr U) T d3 e4 (by rw[ON]at hle;omega) λσ4 H4 Y t4 vk4 hD4 hd4=>?_;exact⟨Y,W.trans t4,vk4.sub s1 s2,hD4,hd4⟩
    |false=>
     rw[Ot OE]at e4⊢;cases e4;exact⟨a,W,(v.tr U).sub s1 s2,T,by rw[Pf];exact d3⟩
def ir(nv:Nat)(dc:List Nat)(it:Dn->M (List Pu.D))(tg:m_)(tt:Dn->M Bool)(b:Dn->M (List (List Pu.D))):Dn->M (List (List Pu.D)):=λδ β=>match it δ β with
 |none=>Oi
 |some (.error C,β1)=>on (.error C,β1)
 |some (.ok ds,β1)=>match nX tg tt b ds (lm nv dc δ) β1 with
  |some (.ok os,β2)=>if os.length<=OS then on (.ok os,β2)else Oi
  |_=>Oi
theorem qD{dr:List Pj}{dc:List Nat}{it:Dn->M (List Pu.D)}{g:TG}{tg:m_}{tt:Dn->M Bool}{I:Oq->TB}{b:Dn->M (List (List Pu.D))}(U:ci K g tg)(W:di tg)(Y:∀D,pU K D (I D) b){L:St}{H:Hp}{Q:VK}(h:YN K (ir dr.length dc it tg tt b) E L H Q):
  oy dr dc (iV K it E) (λD J=>cL J g (hE K tt E0) (I D)) L H Q:=by
 obtain⟨F,δ,β,fr,N,r,k,e,h⟩:=h;unfold ir at e;refine⟨F,δ,β,fr,N,?_⟩;split at e
 .cases e
 .rename_i C β1 q
  cases e;exact⟨.error C,_,q,h⟩
 .rename_i ds β1 q
  split at e
  .rename_i os β2 q2
   split at e
   .rename_i Z
    cases e;refine⟨.ok ds,β1,q,λJ f t hJ D d=>?_⟩;have i:¬F.A D:=t.fr.fresh d;have nb:∀b l,F.bg=on (b,l)->D≠b/\D≠l:=λb l z=>⟨λw=>i (w▸(fr.bgA b l z).1),λw=>i (w▸(fr.bgA b l z).2.1)⟩;have O:=t.fr.upd (.lst []) d;have m:Fr ⟨λa=>F.A a\/a=D,F.bg⟩ (upd f D (.lst [])) β1:=by
     refine⟨λa ha z=>?_,λb l z=>let ⟨x,y,w⟩:=fr.bgA b l z;⟨.inl x,.inl y,w⟩,O.fr.bag⟩
     rcases ha with ha|ha
     .exact O.fr.occ a ha z
     .subst ha;rw[aj]at z;cases z
    have j:Tr F f ⟨λa=>F.A a\/a=D,F.bg⟩ (upd f D (.lst [])):=⟨λa ha hs z=>by
     rcases z with z|z
     .exact ha z
     .subst z;exact hs d,λa o ha z=>by rw[b_ (aw z d)];exact z,rfl⟩
    have cv:∀c,H c≠Oi->upd f D (.lst []) c≠Oi:=λc hc z=>by
     by_cases w:c=D
     .subst w;rw[aj]at z;cases z
     .rw[b_ w]at z;exact hc (t.none z)
    refine JB (D:=D) (H0:=H) (as:=[]) (os:=os) U W (Y D) m (.inr rfl) nb (λb l z=>⟨fr.occ _ (fr.bgA b l z).1,fr.occ _ (fr.bgA b l z).2.1⟩) (pQ (N.tr ((t.tr fr).trans j))) aj ⟨cv,[],rfl,by simp,trivial⟩ (hJ.tr j) q2 (by simpa using Z) λσ1 R T u vk3 v B=>?_;have tf:To F f R k:=by
     refine⟨λa o z n=>u.kp a o (by rw[b_ (aw z d)];exact z) (aw z d) n,λa ha z=>u.fr.occ a (QY ha) z,fr.bgA,u.fr.bag⟩
    obtain⟨_,rs,ea,nd,rl⟩:=B;subst ea;exact h _ R (t.trans tf) ⟨D,rs,rfl,t.none d,v,nd,ee.tr (F:=⟨λa=>F.A a\/a=D,F.bg⟩) ⟨λa ha _ z=>ha (QY z),λa o _ z=>z,rfl⟩ rl λr xs _ p q=>⟨p,q⟩⟩
   .cases e
  .cases e
section
variable{elt cp iter:Expr}{ifs:List Expr}{rest:List Qp}{scope:Scope}{pos:TD}{Nc dr:List Pj}{dc:List Nat}{g:TG}{tb:Oq->TB}
theorem yY(c:X.calm=On)(S:dt X scope Nc dr dc)(d:PI X cp iter (iV X.K it E))
  (e:∀(cl:List (Pj×Oq)) (C:Oq) (a:List Oq) (s:OB) (H:Hp),PG (az X Nc scope cl C a s H) cp g/\dm (az X Nc scope cl C a s H) ifs (hE X.K tt E0)/\∀D,PB (az X Nc scope cl C a s H) elt (⟨cp,iter,ifs,0⟩::rest) scope pos 0 D (tb D))
  (f:ci X.K g tg) (i:di tg) (j:∀D,iY X.K D (tb D) b) (hs:∀x,Pz iter X.env x=QR x:=by intro _;rfl):PE X (.ListComp elt (⟨cp,iter,ifs,0⟩::rest) scope pos) (x_ X.K (eL dr.length dc it tg tt b) E):=
 (mn c S d e hs).imp λk H Q h=>x6 f i j h
theorem LG(c:X.calm=On)(S:dt X scope Nc dr dc)(d:PI X cp iter (iV X.K it E))
  (e:∀(cl:List (Pj×Oq)) (C:Oq) (a:List Oq) (s:OB) (H:Hp),PG (az X Nc scope cl C a s H) cp g/\dm (az X Nc scope cl C a s H) ifs (hE X.K tt E0)/\∀D,PB (az X Nc scope cl C a s H) elt (⟨cp,iter,ifs,0⟩::rest) scope pos 0 D (tb D))
  (f:ci X.K g tg) (i:di tg) (j:∀D,pU X.K D (tb D) b) (hs:∀x,Pz iter X.env x=QR x:=by intro _;rfl):PE X (.ListComp elt (⟨cp,iter,ifs,0⟩::rest) scope pos) (YN X.K (ir dr.length dc it tg tt b) E):=
 (mn c S d e hs).imp λk H Q h=>qD f i j h
end
mutual
noncomputable def noL:D->Bool
 | .int _=>On
 | .bl _=>On
 | .str _=>On
 | .non=>On
 | .tup ds=>noLs ds
 |_=>Os
noncomputable def noLs:List D->Bool
 |[]=>On
 |d::ds=>noL d&&noLs ds
end
mutual
theorem vC{F b:Fx}(hF:∀c,b.A c->F.A c\/J_ H c):∀(d:D) (v:V),noL d=On->c4 K F H d v->c4 K b H d v
 | .int i,v,_,h=>h
 | .bl i,v,_,h=>h
 | .str i,v,_,h=>h
 | .non,v,_,h=>h
 | .tup ds,v,n,h=>by
  obtain⟨a,xs,e,h1,f⟩:=h;refine⟨a,xs,e,?_,noLs_den hF ds xs (by simpa[noL]using n) f⟩;rcases h1 with⟨h1,r⟩|h1
  .refine .inl ⟨λz=>?_,r⟩
   rcases hF a z with z|⟨ys,z⟩|⟨ys,z⟩
   .exact h1 z
   .rcases r with r|⟨o,r⟩<;>rw[z]at r<;>cases r
   .rcases r with r|⟨o,r⟩<;>rw[z]at r<;>cases r
  .exact .inr h1
 | .lst _,_,n,_=>by simp[noL]at n
 | .scr _,_,n,_=>by simp[noL]at n
 | .ty _,_,n,_=>by simp[noL]at n
 | .txt,_,n,_=>by simp[noL]at n
 | .obj _ _ _,_,n,_=>by simp[noL]at n
 | .bag,_,n,_=>by simp[noL]at n
 | .adr _,_,n,_=>by simp[noL]at n
 | .dct _ _ _,_,n,_=>by simp[noL]at n
theorem noLs_den{F a:Fx}(hF:∀c,a.A c->F.A c\/J_ H c):∀(ds:List D) (xs:List V),noLs ds=On->bb K F H ds xs->bb K a H ds xs
 |[],xs,_,h=>h
 |d::ds,xs,n,h=>by
  have b:noL d=On/\noLs ds=On:=by simpa[noLs]using n
  obtain⟨x,f,e,g,i⟩:=h;exact⟨x,f,e,vC hF d x b.1 g,noLs_den hF ds f b.2 i⟩
end
theorem ee.noL{F b:Fx}{P d:Oq->Prop}(hF:∀c,b.A c->F.A c\/J_ H c):∀{ba:List (List D)} {rs:List Oq},(∀ds∈ba,noLs ds=On)->ee K F H P ba rs->(∀r∈rs,d r)->ee K b H d ba rs
 |[],[],_,_,_=>trivial
 |ds::ba,r::rs,n,h,p=>by
  obtain⟨i,⟨xs,e,f⟩,g⟩:=h;exact⟨p r Ox,⟨xs,e,noLs_den hF _ _ (n ds Ox) f⟩,ee.noL hF (λx a=>n x (Op _ a)) g λx a=>p x (Op _ a)⟩
 |[],_::_,_,h,_=>h.elim
 |_::_,[],_,h,_=>h.elim
theorem gs.newGrd{δ:Ds}{W:St}(ok:gs K H₀ B bg H δ β W)(t:To (eo B bg) H H' β')(hn:∀ds∈ba,noLs ds=On)(hv:gv K (eo B bg) H H' ba v):
  ∃X,gs K H₀ X bg H' (δ.set i (on (.grd ba))) β' (W.set i (on v))/\hY B H X H':=by
 classical
 obtain⟨a,rs,rfl,n0,O,nd,J⟩:=hv;have m:∀c,c=a\/c∈rs->H c=Oi:=λc hc=>by
  rcases hc with rfl|hc
  .exact n0
  .exact(J.all c hc).1
 have hB:∀c,c=a\/c∈rs->B c=Oi:=λc hc=>R3 λz=>ok.fr.occ c z (m c hc);have Y:∀b l,bg=on (b,l)->¬(b=a\/b∈rs)/\¬(l=a\/l∈rs):=λb l e=>by
  obtain⟨b1,b2⟩:=ok.bgt b l e;exact⟨λz=>(by rw[hB b z]at b1;cases b1),λz=>(by rw[hB l z]at b2;cases b2)⟩
 obtain⟨A,Z⟩:=ok.to rfl t;have L:hY B H (λc=>if c=a\/c∈rs then on (i+2)else B c) H':=by
  refine⟨Z.kp,λc hc=>?_,λc o h n=>?_,Z.al⟩
  .have:¬(c=a\/c∈rs):=λz=>by rw[hB c z]at hc;rcases hc with hc|hc<;>cases hc
   simp only[Ot this]
  .have:¬(c=a\/c∈rs):=λz=>by rw[m c z]at h;cases h
   simp only[Ot this];exact n
 have tr:Tr (eo B bg) H (eo (λc=>if c=a\/c∈rs then on (i+2)else B c) bg) H':=L.tr;refine⟨λc=>if c=a\/c∈rs then on (i+2)else B c,⟨⟨λc hc z=>?_,λb l e=>?_,A.fr.bag⟩,λb l e=>?_,by rw[Pl,Pl,ok.len],A.cov,λc k hc=>(by
  have f:(if c=a\/c∈rs then on (i+2)else B c)=on (k+2):=hc;by_cases z:c=a\/c∈rs
  .cases w:H₀ c with
   |none=>rfl
   |some o=>exact OX (m c z) (ok.cov c (by rw[w];simp))
  .rw[Ot z]at f;exact ok.new c k f),λc k hc=>(by
  have f:(if c=a\/c∈rs then on (i+2)else B c)=on (k+2):=hc;by_cases z:c=a\/c∈rs
  .rcases z with rfl|z
   .exact .inl ⟨_,O⟩
   .exact .inl (J.all c z).2
  .rw[Ot z]at f;exact A.lst c k f),λj s e=>?_⟩,L⟩
 .by_cases q:c=a\/c∈rs
  .rcases q with rfl|q
   .rw[O]at z;cases z
   .obtain⟨_,xs,w⟩:=J.all c q
    rw[w]at z;cases z
  .have f:(if c=a\/c∈rs then on (i+2)else B c)≠Oi:=hc
   rw[Ot q]at f;exact A.fr.occ c f z
 .obtain⟨Q,R⟩:=Y b l e
  obtain⟨b1,b2⟩:=ok.bgt b l e;refine⟨?_,?_,(ok.fr.bgA b l e).2.2⟩
  .show(if b=a\/b∈rs then on (i+2)else B b)≠Oi
   rw[Ot Q,b1];simp
  .show(if l=a\/l∈rs then on (i+2)else B l)≠Oi
   rw[Ot R,b2];simp
 .obtain⟨Q,R⟩:=Y b l e
  simp only[Ot Q,Ot R];exact ok.bgt b l e
 .rw[Pp]at e
  rw[Pp];by_cases q:i=j
  .subst q
   rw[OA rfl]at e⊢;split at e
   .rename_i hl
    cases e;rw[OA (by rw[<-ok.len];exact hl)];refine⟨_,rfl,a,rs,rfl,OA (.inl rfl),O,nd,ee.noL (F:=eo B bg) (λc hc=>?_) hn J λr hr=>OA (.inr hr)⟩;have f:(if c=a\/c∈rs then on (i+2)else B c)≠Oi:=hc;by_cases w:c=a\/c∈rs
    .rcases w with rfl|w
     .exact .inr (.inl ⟨_,O⟩)
     .exact .inr (.inl (J.all c w).2)
    .rw[Ot w]at f
     exact .inl f
   .cases e
  .rw[Ot q]at e⊢
   obtain⟨w,T,C⟩:=ok.tell j s e;refine⟨w,T,?_⟩;cases s with
   |sh d=>exact c4.tr tr _ _ C
   |own cs=>
    obtain⟨c,ys,N,g,u,U⟩:=C;have I:¬(c=a\/c∈rs):=λz=>by rw[m c z]at u;cases u
    exact⟨c,ys,N,by simp only[Ot I];exact g,t.kp c _ u (λb l z=>⟨λy=>(by subst y;rw[(ok.bgt _ _ z).1]at g;cases g),λy=>(by subst y;rw[(ok.bgt _ _ z).2]at g;cases g)⟩),bb.tr tr _ _ U⟩
   |grd rows2=>
    obtain⟨c,qs,N,g,u,U,e5⟩:=C;have I:∀c,H c≠Oi->¬(c=a\/c∈rs):=λc hc z=>hc (m c z);have kk:∀c o,H c=on o->B c=on (j+2)->H' c=on o:=λc o T C=>t.kp c o T (λb l z=>⟨λy=>(by subst y;rw[(ok.bgt _ _ z).1]at C;cases C),λy=>(by subst y;rw[(ok.bgt _ _ z).2]at C;cases C)⟩);exact⟨c,qs,N,by simp only[Ot (I c (by rw[u];simp))];exact g,kk c _ u g,U,ee.tr tr e5 λr xs _ p y=>⟨by simp only[Ot (I r (by rw[y];simp))];exact p,kk r _ y p⟩⟩
   |odc b ks vs=>
    obtain⟨c,N,g,u⟩:=C;have I:¬(c=a\/c∈rs):=λz=>u.ne (m c z);exact⟨c,N,by simp only[Ot I];exact g,u.tr tr λo u=>t.kp c _ u (λb l z=>⟨λy=>(by subst y;rw[(ok.bgt _ _ z).1]at g;cases g),λy=>(by subst y;rw[(ok.bgt _ _ z).2]at g;cases g)⟩)⟩
end
section
variable{X:Cx}{E:St->XK}{K:OU}{st:Qe}{H₀:Hp}{B:Ow}{bg:Option (Oq×Oq)}{H H':Hp}{δ:Ds}{β β':Bg}{σ:St}
theorem gs.newOwnE(ok:gs K H₀ B bg H δ β σ)(t:To (eo B bg) H H' β')(hv:cw K (eo B bg) H H' ds v):
  ∃W,gs K H₀ W bg H' (δ.set i (on (.own ds))) β' (σ.set i (on v))/\hY B H W H':=by
 classical
 obtain⟨a,xs,rfl,I,N,dl⟩:=hv;have hB:B a=Oi:=R3 λz=>ok.fr.occ a z I;have Y:∀b l,bg=on (b,l)->b≠a/\l≠a:=λb l e=>by
  obtain⟨b1,b2⟩:=ok.bgt b l e;exact⟨λz=>(by rw[z,hB]at b1;cases b1),λz=>(by rw[z,hB]at b2;cases b2)⟩
 obtain⟨g,Z⟩:=ok.to rfl t;have C:hY B H (λc=>if c=a then on (i+2)else B c) H':=by
  refine⟨Z.kp,λc hc=>?_,λc o h n=>?_,Z.al⟩
  .have:c≠a:=λz=>by rw[z,hB]at hc;rcases hc with hc|hc<;>cases hc
   simp only[Ot this]
  .have:c≠a:=λz=>by rw[z,I]at h;cases h
   simp only[Ot this];exact n
 have tr:Tr (eo B bg) H (eo (λc=>if c=a then on (i+2)else B c) bg) H':=C.tr;refine⟨λc=>if c=a then on (i+2)else B c,⟨⟨λc hc z=>?_,λb l e=>?_,g.fr.bag⟩,λb l e=>?_,by rw[Pl,Pl,ok.len],g.cov,λc k hc=>(by
  have f:(if c=a then on (i+2)else B c)=on (k+2):=hc;by_cases z:c=a
  .cases w:H₀ c with
   |none=>rfl
   |some o=>exact OX (z▸I) (ok.cov c (by rw[w];simp))
  .rw[Ot z]at f;exact ok.new c k f),λc k hc=>(by
  have f:(if c=a then on (i+2)else B c)=on (k+2):=hc;by_cases z:c=a
  .subst z;exact .inl ⟨xs,N⟩
  .rw[Ot z]at f;exact g.lst c k f),λj s e=>?_⟩,C⟩
 .by_cases q:c=a
  .subst q;rw[N]at z;cases z
  .have f:(if c=a then on (i+2)else B c)≠Oi:=hc
   rw[Ot q]at f;exact g.fr.occ c f z
 .obtain⟨O,Q⟩:=Y b l e
  obtain⟨b1,b2⟩:=ok.bgt b l e;refine⟨?_,?_,(ok.fr.bgA b l e).2.2⟩
  .show(if b=a then on (i+2)else B b)≠Oi
   rw[Ot O,b1];simp
  .show(if l=a then on (i+2)else B l)≠Oi
   rw[Ot Q,b2];simp
 .obtain⟨O,Q⟩:=Y b l e
  simp only[Ot O,Ot Q];exact ok.bgt b l e
 .rw[Pp]at e
  rw[Pp];by_cases q:i=j
  .subst q
   rw[OA rfl]at e⊢;split at e
   .rename_i hl
    cases e;rw[OA (by rw[<-ok.len];exact hl)];have R:Tr ((eo B bg).but a) H' (eo (λc=>if c=a then on (i+2)else B c) bg) H':=⟨λc h _ z=>h (by
     have f:(if c=a then on (i+2)else B c)≠Oi:=z;by_cases w:c=a
     .exact .inr w
     .rw[Ot w]at f
      exact .inl f),λ_ _ _ h=>h,rfl⟩
    exact⟨_,rfl,a,xs,rfl,OA rfl,N,bb.tr R _ _ dl⟩
   .cases e
  .rw[Ot q]at e⊢
   obtain⟨w,T,m⟩:=ok.tell j s e;refine⟨w,T,?_⟩;have J:∀c,H c≠Oi->c≠a:=λc hc z=>hc (z▸I);have L:∀c o,H c=on o->B c=on (j+2)->H' c=on o:=λc o T m=>t.kp c o T (λb l z=>⟨λy=>(by subst y;rw[(ok.bgt _ _ z).1]at m;cases m),λy=>(by subst y;rw[(ok.bgt _ _ z).2]at m;cases m)⟩);cases s with
   |sh d=>exact c4.tr tr _ _ m
   |own cs=>
    obtain⟨c,ys,F,u,A,U⟩:=m;exact⟨c,ys,F,by simp only[Ot (J c (by rw[A];simp))];exact u,L c _ A u,bb.tr tr _ _ U⟩
   |grd rows2=>
    obtain⟨c,qs,F,u,A,U,e5⟩:=m;exact⟨c,qs,F,by simp only[Ot (J c (by rw[A];simp))];exact u,L c _ A u,U,ee.tr tr e5 λr xs _ p y=>⟨by simp only[Ot (J r (by rw[y];simp))];exact p,L r _ y p⟩⟩
   |odc b ks vs=>
    obtain⟨c,F,u,A⟩:=m;exact⟨c,F,by simp only[Ot (J c A.ne)];exact u,A.tr tr λo z=>L c o z u⟩
def rW(i:Nat)(f:FL):G:=λδ β=>match f (vw δ) β with
 |some (.ok ds,β1)=>on (.nx (δ.set i (on (.own ds))),β1)
 |some (.error C,β1)=>on (.ex C δ,β1)
 |none=>Oi
theorem Kx(h:PS X st (ff (x_ X.K f E) (dC i))):PS X st (tG X.K X.H₀ (rW i f) E):=h.imp λD σ H d=>by
 obtain⟨B,bg,δ,β,o,β',ok,e,q⟩:=d;refine⟨eo B bg,vw δ,β,ok.fr,ok.view,?_⟩;unfold rW at e;split at e
 .rename_i ds β1 b
  cases e;refine⟨.ok ds,_,b,λv H' t hd=>?_⟩;obtain⟨g,a,c⟩:=ok.newOwnE (i:=i) t hd;exact q _ _ _ c a
 .rename_i C β1 b
  cases e;refine⟨.error C,_,b,λH' t=>?_⟩;obtain⟨a,c⟩:=ok.to rfl t;exact q _ B H' c a
 .cases e
def ur(i:Nat)(f:Dn->M (List (List D))):G:=λδ β=>match f (vw δ) β with
 |some (.ok ba,β1)=>if(ba.all noLs)=On then on (.nx (δ.set i (on (.grd ba))),β1)else Oi
 |some (.error C,β1)=>on (.ex C δ,β1)
 |none=>Oi
theorem HC(h:PS X st (ff (YN X.K f E) (dC i))):PS X st (tG X.K X.H₀ (ur i f) E):=h.imp λD σ H g=>by
 obtain⟨B,bg,δ,β,o,β',ok,e,q⟩:=g;refine⟨eo B bg,vw δ,β,ok.fr,ok.view,?_⟩;unfold ur at e;split at e
 .rename_i ba β1 b
  split at e
  .rename_i hn
   cases e;refine⟨.ok ba,_,b,λv H' t hd=>?_⟩;obtain⟨j,a,c⟩:=ok.newGrd (i:=i) t (λds d=>Sc.mp hn ds d) hd;exact q _ _ _ c a
  .cases e
 .rename_i C β1 b
  cases e;refine⟨.error C,_,b,λH' t=>?_⟩;obtain⟨a,c⟩:=ok.to rfl t;exact q _ B H' c a
 .cases e
theorem ee.put{H:Hp}{P:Oq->Prop}(t:Tr F H F (upd H r (.lst xs)))(hd:bb K F (upd H r (.lst xs)) ds xs):∀{ba:List (List D)} {rs:List Oq} (j:Nat),ee K F H P ba rs->rs.Nodup->rs[j]?=on r->ee K F (upd H r (.lst xs)) P (ba.set j ds) rs
 |d0::ba,r0::rs,0,h,nd,e=>by
  obtain rfl:r0=r:=by simpa using e
  have ne:∀a∈rs,a≠r0:=λa b z=>(Pt.mp nd).1 (z▸b);exact⟨h.1,⟨xs,aj,hd⟩,ee.tr t h.2.2 λa ys b p q=>⟨p,by rw[b_ (ne a b)];exact q⟩⟩
 |d0::ba,r0::rs,j+1,h,nd,e=>by
  have c:rs[j]?=on r:=by simpa using e
  obtain⟨d,⟨ys,f,g⟩,i⟩:=h;have ne:r0≠r:=λz=>(Pt.mp nd).1 (z▸OQ c);exact⟨d,⟨ys,by rw[b_ ne];exact f,bb.tr t _ _ g⟩,ee.put t hd j i (Pt.mp nd).2 c⟩
 |[],[],_,_,_,e=>by simp at e
 |[],_::_,_,h,_,_=>h.elim
 |_::_,[],_,h,_,_=>h.elim
theorem ee.at{H:Hp}{P:Oq->Prop}:∀{ba:List (List D)} {rs:List Oq} {j:Nat} {ds:List D},ee K F H P ba rs->ba[j]?=on ds->∃r xs,rs[j]?=on r/\P r/\H r=on (.lst xs)/\bb K F H ds xs
 |d0::ba,r0::rs,0,ds,h,e=>by
  obtain rfl:d0=ds:=by simpa using e
  obtain⟨a,⟨ys,b,c⟩,g⟩:=h;exact⟨r0,ys,rfl,a,b,c⟩
 |d0::ba,r0::rs,j+1,ds,h,e=>by
  obtain⟨r,xs,d,f⟩:=ee.at h.2.2 (j:=j) (ds:=ds) (by simpa using e);exact⟨r,xs,by simpa using d,f⟩
 |[],[],_,_,_,e=>by simp at e
 |[],_::_,_,_,h,_=>h.elim
 |_::_,[],_,_,h,_=>h.elim
theorem gs.writeRow{rs:List Oq}{ba:List (List D)}(ok:gs K H₀ B bg H δ β σ)(hs:σ[i]?=on (on (.ref a)))(hB:B a=on (i+2))(ha:H a=on (.lst (rs.map V.ref)))(nd:(a::rs).Nodup)(N:ee K (eo B bg) H (λr=>B r=on (i+2)) ba rs)(O:rs[j]?=on r)(W:H r=on (.lst ys))(hd:bb K (eo B bg) H ds xs):
  gs K H₀ B bg (upd H r (.lst xs)) (δ.set i (on (.grd (ba.set j ds)))) β σ/\hY B H B (upd H r (.lst xs)):=by
 have t:r∈rs:=OQ O;have g:B r=on (i+2):=(N.all r t).1;have m:hY B H B (upd H r (.lst xs)):=by
  refine⟨λc o h n=>?_,λ_ _=>rfl,λ_ _ _ n=>n,λc u=>?_⟩
  .rw[b_]
   .exact h
   .intro z;subst z;rw[g]at n;rcases n with n|n<;>cases n
  .by_cases z:c=r
   .subst z;rw[aj];simp
   .rw[b_ z];exact u
 have tr:Tr (eo B bg) H (eo B bg) (upd H r (.lst xs)):=m.tr;refine⟨⟨⟨λc u z=>?_,ok.fr.bgA,λb l e=>?_⟩,ok.bgt,by rw[Pl,ok.len],λa ha=>m.al a (ok.cov a ha),ok.new,λc k u=>(by
  by_cases z:c=r
  .subst z;exact .inl ⟨xs,aj⟩
  .exact(ok.lst c k u).imp λo y=>by rw[b_ z];exact y),λk s e=>?_⟩,m⟩
 .by_cases q:c=r
  .subst q;rw[aj]at z;cases z
  .rw[b_ q]at z;exact ok.fr.occ c u z
 .obtain⟨b1,b2⟩:=ok.bgt b l e
  rw[b_ (λz=>by subst z;rw[g]at b1;cases b1),b_ (λz=>by subst z;rw[g]at b2;cases b2)];exact ok.fr.bag b l e
 .rw[Pp]at e
  by_cases q:i=k
  .subst q
   rw[OA rfl]at e;split at e
   .cases e
    have J:a≠r:=λz=>(Pt.mp nd).1 (z▸t);exact⟨_,hs,a,rs,rfl,hB,by rw[b_ J];exact ha,nd,ee.put tr (bb.tr tr _ _ hd) j N (Pt.mp nd).2 O⟩
   .cases e
  .rw[Ot q]at e
   obtain⟨v,R,F⟩:=ok.tell k s e;refine⟨v,R,?_⟩;have I:∀c,B c=on (k+2)->c≠r:=λc f z=>by subst z;rw[g]at f;cases f;exact q rfl
   cases s with
   |sh d=>exact c4.tr tr _ _ F
   |own cs=>
    obtain⟨c,Q,A,f,C,L⟩:=F;exact⟨c,Q,A,f,by rw[b_ (I c f)];exact C,bb.tr tr _ _ L⟩
   |grd rows2=>
    obtain⟨c,T,A,f,C,L,U⟩:=F;exact⟨c,T,A,f,by rw[b_ (I c f)];exact C,L,ee.tr tr U λr Q _ p q=>⟨p,by rw[b_ (I r p)];exact q⟩⟩
   |odc b ks vs=>
    obtain⟨c,A,f,C⟩:=F;exact⟨c,A,f,C.tr tr λo z=>by rw[b_ (I c f)];exact z⟩
def lC(f:Dn->M (List (List D))):G:=λδ β=>match f (vw δ) β with
 |some (.ok ba,β1)=>on (.rg ba,β1)
 |some (.error C,β1)=>on (.ex C δ,β1)
 |none=>Oi
theorem Jd(h:PS X (.Return (on e) pos) (ng (YN X.K f E))):PS X (.Return (on e) pos) (tG X.K X.H₀ (lC f) E):=h.imp λD σ H j=>by
 obtain⟨B,bg,δ,β,o,β',ok,e,q⟩:=j;refine⟨eo B bg,vw δ,β,ok.fr,ok.view,?_⟩;unfold lC at e;split at e
 .rename_i ba β1 d
  cases e;refine⟨.ok ba,_,d,λv H' t hd=>?_⟩;obtain⟨b,g⟩:=ok.to rfl t;have i:∀c,H c=Oi->X.H₀ c=Oi:=λc k=>by
   cases w:X.H₀ c with
   |none=>rfl
   |some o=>exact OX k (ok.cov c (by rw[w];simp))
  obtain⟨a,rs,rfl,l,m,nd,n⟩:=hd;exact q _ B H' g b.fr ⟨a,rs,rfl,i a l,m,nd,ee.tr (Tr.refl _ _) n λr xs _ p y=>⟨i r p,y⟩⟩
 .rename_i C β1 d
  cases e;refine⟨.error C,_,d,λH' t=>?_⟩;obtain⟨b,g⟩:=ok.to rfl t;exact q _ B H' g b
 .cases e
def ZD(K:OU)(n:Nat)(m:List D->M (List (List D))):Sp:=λvs H Q E=>vs.length=n/\∃F ds β,Fr F H β/\bb K F H ds vs/\run (gv K F H) F (λ_=>E) [] (m ds) H Q β
def mP(n:Nat)(g:G):List D->M (List (List D)):=λds β=>match g (ni n ds) β with
 |some (.rg ba,β')=>on (.ok ba,β')
 |some (.ex C _,β')=>on (.error C,β')
 |_=>Oi
variable{P:Pc}{w:Pk}{mg:Pj->Option Ov}{base:P4}
theorem JR{st:Qe}{N ps:List Pj}(n m:Nat)(g:G)(F:d5 K x qual st f fd)(S:c_ N ps (af st))(L:ps.length=n)(O:N.length=m)
  (j:∀(c:Ov) (A:PU) (outer:List VJ) (s:OB) (H:Hp) (E:XK),en k (A.deeper (SS qual (af st) s.heap.objs.size f c))->
   PSs (eF (hO P w) P w K mg base N qual (af st) f c A outer s H E) (bX st) (tG K H g (λ_=>E))):fw P w K mg base (hO P w) (k+1) f fd ps (ZD K n (mP m g)):=by
 subst L O;refine F.okE S (λvs H Q E h=>h.1) λc A outer s H vs Q E hr h=>?_;obtain⟨hl,u,ds,β,fr,hd,r,β',e,h⟩:=h;refine⟨_,j c A outer s H E hr,?_⟩;obtain⟨B,ok,R,h1,hn⟩:=oA (N:=N) fr hd;have J:∀{I:Ow} {H':Hp},hY B H I H'->Fr (eo I u.bg) H' β'->To u H H' β'/\Tr (eo I u.bg) H' u H':=λ{I H'} s i=>by
  have hs:∀a,u.A a->I a≠Oi:=λa ha=>by
   rw[s.tg a (R a ha)];rcases R a ha with z|z<;>rw[z]<;>simp
  refine⟨⟨λa o ha n=>s.kp a o ha ?_,λa ha=>i.occ a (hs a ha),λb l e=>fr.bgA b l e,i.bag⟩,λa ha _ z=>ha (hs a z),λ_ _ _ h=>h,rfl⟩;cases q:B a with
  |none=>exact .inl rfl
  |some t=>
   have:=R a (hn a (by rw[q];simp));rcases this with z|z
   .rw[q]at z;exact .inr z
   .obtain⟨b,l,e,w⟩:=h1 a z
    obtain⟨T,n2⟩:=n b l e;rcases w with w|w
    .exact OX w T
    .exact OX w n2
 unfold mP at e;split at e
 .rename_i d β1 U
  cases e;refine⟨B,u.bg,ni N.length ds,β,.rg d,β',ok,U,λv I H' s i hv=>?_⟩;obtain⟨W,t2⟩:=J s i;obtain⟨a,rs,ev,n0,T,nd,rl⟩:=hv;exact h v H' W ⟨a,rs,ev,n0,T,nd,ee.tr t2 rl λr xs _ p y=>⟨p,y⟩⟩
 .rename_i C Y β1 U
  cases e;refine⟨B,u.bg,ni N.length ds,β,.ex C Y,β',ok,U,λσ' I H' s Z=>?_⟩;obtain⟨W,t2⟩:=J s Z.fr;exact h H' W
 .cases e
variable{e:Expr}{es:List Expr}{pos p:TD}{x:Pj}{k n:Nat}{f:Oq}{fd:O5}{ps:List Pj}
def uz(m:List D->M (List (List D)))(g:FL):Dn->M (List (List D)):=λδ=>M.bind (g δ) λas=>m as
theorem gv.pre{K:OU}{H b H':Hp}(t:To F H b β1)(h:gv K F b H' ba v):gv K F H H' ba v:=by
 obtain⟨a,rs,c,d,g,nd,i⟩:=h;exact⟨a,rs,c,t.none d,g,nd,ee.tr (Tr.refl _ _) i λr xs _ p y=>⟨t.none p,y⟩⟩
theorem LH(G:fw X.prog X.w X.K X.mg X.base (hO X.prog X.w) k f fd ps (ZD X.K n m))(q:en k X.A)(u:Gl X x)(hm:X.mg x=on (.ref f))(y:Uo X.K (.ref f)=On)(I:aC X.K fd ps [])(J:cK (hO X.prog X.w) X E)
  (ha:PA X (e::es) (j1 X.K g E)) (hn:∀δ β r β',g δ β=on (.ok r,β')->r.length=n) (a:(x==("__debug__":Pj))=Os:=by decide) (L:OJ (e::es) X.env=(Os,PZ e X.env)::OJ es X.env:=by rfl) (b:(QX pos (OJ es X.env)).any (·.1)=Os:=by rfl):
  PE X (.Call (.Name x p) (e::es) [] pos) (YN X.K (uz m g) E):=
 (mo G q u hm y I .nil J ha a L b).imp λσ H Q N=>lk N λF δ β fr O r=>⟨F,δ,β,fr,O,by
  obtain⟨r0,c,h,i⟩:=run.bind (R:=bb X.K F) r;refine⟨r0,c,h,?_⟩;cases r0 with
  |error C=>exact i
  |ok ds=>
   intro vs T t hd;obtain⟨d',β1,j,d,r1⟩:=i vs T t hd;have U:=hn _ _ _ _ h;refine⟨by rw[Pf,<-hd.length,U],F,d',β1,j.fr,by rw[Pf];exact d,?_⟩;obtain⟨l,β2,W,o⟩:=r1;refine⟨l,β2,W,?_⟩;cases l with
   |ok ba=>exact λv H' Y Z=>o v H' Y (gv.pre j Z)
   |error C=>exact o⟩
variable{elt cp iter:Expr}{ifs:List Expr}{rest:List Qp}{scope:Scope}{Nc dr:List Pj}{dc:List Nat}{g:TG}{tb:Oq->TB}
theorem Ky{x:Pj}{a c:TD}(m:X.N.Nodup)(d:X.N[i]?=on x)(o:A_ X.env.scope x)(q:X.calm=On)(S:dt X scope Nc dr dc)(r:PI X cp iter (iV X.K it E))
  (t:∀(cl:List (Pj×Oq)) (C:Oq) (l:List Oq) (s:OB) (H:Hp),PG (az X Nc scope cl C l s H) cp g/\dm (az X Nc scope cl C l s H) ifs (hE X.K tt E0)/\∀D,PB (az X Nc scope cl C l s H) elt (⟨cp,iter,ifs,0⟩::rest) scope pos 0 D (tb D))
  (u:ci X.K g tg) (v:di tg) (y:∀D,pU X.K D (tb D) b)
  (j:Ts (.ListComp elt (⟨cp,iter,ifs,0⟩::rest) scope pos) (on (.Name x a)) c.line X.env=QR On:=by rfl)
  (hs:∀x,Pz iter X.env x=QR x:=by intro _;rfl) (A:X.fn x=On\/X.env.scope.names.lookup x=on .local:=by first|exact .inl rfl|exact .inr rfl|assumption):
  PS X (.Assign [.Name x a] (.ListComp elt (⟨cp,iter,ifs,0⟩::rest) scope pos) c) (tG X.K X.H₀ (ur i (ir dr.length dc it tg tt b)) E):=
 HC ((vj m d o q S r t j hs A).imp λD σ H h=>qD u v y h)
end
end L2.Pu
namespace L2
open PySem PySem.Spec PyProof.Rows
section
variable{X:Cx}
theorem DX{bs:List Bool}{its:List Ov}(r:au (bs.map V.bl) its){i:Nat}{v:Ov}(h:its.toArray[i]?=on v):v= .bool (bs.getD i Os):=by
 have h':its[i]?=on v:=by simpa using h
 have a:=r.length;rw[Oh]at a;have b:i<bs.length:=by rw[a];exact(OF.mp h').1
 obtain⟨u,c,d⟩:=r.get (i:=i) (x:=V.bl bs[i]) (by rw[Ou,Oo b];rfl);rw[h']at c;cases c;rw[Om,Oo b];exact d
theorem yB{α:Type}(f:Bool->Bool)(bs:List Bool):(Oz bs.length).map (λi=>bs.getD i Os)=bs:=by
 apply Yc;intro i;rw[Ou];by_cases h:i<bs.length
 .rw[Py h,Oo h]
  simp[Om,Oo h]
 .rw[SV (by simpa using h),SV (by omega)];rfl
theorem yC(bs:List Bool):((Oz bs.length).any λi=>bs.getD i Os)=bs.any id:=by
 conv=>rhs;rw[<-yB (α:=Bool) id bs]
 rw[WI];rfl
theorem lN(l:X.calm=On):cM X (.builtin "any") (λxs H Q=>∃(a:Oq) (bs:List Bool),xs=[.ref a]/\fy X.K H a (bs.map V.bl)/\Q (.bl (bs.any id)) H):=by
 intro j s B H xs us Q I r h;obtain⟨a,bs,rfl,m,q⟩:=h;cases r with
 |cons r1 n=>
  cases r1;cases n;obtain⟨its,k,p,C⟩:=I.list m;have f:=p.isList;have c:its.toArray.size=bs.length:=by rw[OR,<-k.length,Oh]
  have d:∀b o,s.heap.get? b=on o->b≠s.heap.objs.size:=λb o e z=>by
   rw[z,Xf (OD _)]at e;cases e
  have g:a≠s.heap.objs.size:=by
   obtain⟨o,e,_⟩:=f;exact d a o e
  have W:=Walks.list (prog:=X.prog) (w:=X.w) (A:=X.A.in1) (show X.A.in1.handled=Oi from I.ok.hd l) s.heap.objs.size a g its.toArray;refine call_any_walk (UD f ⟨s.heap.objs.size,[s.heap.objs.size,a],[s.heap.objs.size],its.toArray.size,_,_,λi=>bs.getD i Os,rfl,W,⟨⟨_,OI s.heap rfl,rfl,rfl⟩,f.push _⟩,λi v s' F J t u=>?_,λh' L y=>?_⟩)
  .rw[DX k t]
   exact P7 u
  .rw[c,yC]
   exact⟨.bl (bs.any id),H,I.kept λb o e=>y b o (λz=>d b o e (by simpa using z)) (Ol _ e),rfl,q⟩
end
end L2
namespace L2.Pu
open PySem PySem.Spec PyProof.Rows
noncomputable def dJ:List D->Option (List Bool)
 |[]=>on []
 | .bl b::r=>(dJ r).map (b::·)
 |_=>Oi
theorem m7{K:OU}:∀{ds:List D} {xs:List V} {bs:List Bool},dJ ds=on bs->bb K F H ds xs->xs=bs.map V.bl
 |[],xs,bs,e,h=>by
  cases e;cases h;rfl
 |d::ds,xs,bs,e,h=>by
  obtain⟨x,f,rfl,a,c⟩:=h;cases d<;>first
   |(rename_i b
     cases q:dJ ds with
     |none=>simp[dJ,q]at e
     |some r=>
     simp[dJ,q]at e;subst e;cases a.bl;rw[m7 q c];rfl)
   |simp[dJ]at e
def xI:List D->Option D
 |[.lst ds]=>(dJ ds).map λbs=> .bl (bs.any id)
 |_=>Oi
variable{K:OU}
theorem xb:dD K (λxs H Q=>∃(a:Oq) (bs:List Bool),xs=[.ref a]/\fy K H a (bs.map V.bl)/\Q (.bl (bs.any id)) H) xI:=λF H β Q ds d vs fr h e k=>by
 unfold xI at e;split at e
 .obtain⟨v,rfl,g⟩:=bb.one h
  obtain⟨a,xs,rfl,r,b⟩:=c4.sqL g;obtain⟨bs,q,e⟩:=Uv.mp e;subst e;rw[m7 q b]at r;exact⟨a,bs,rfl,r,k _ H (To.refl fr) rfl⟩
 .cases e
end L2.Pu
namespace L2
open PySem PySem.Spec PyProof.Rows
section
variable{X:Cx}{a b c d:Expr}{ta tb tc td:TE}{pos:TD}
def Ng(i e:R2)(tc td:TE)(y:V):TE:=λf H Q=>tc f H λw j=>i y w j λk g=>∃h,k= .bl h/\(if h=On then td f g λl m=>e w l m Q else Q (.bl Os) g)
def uY(r h e:R2)(ta tb tc td:TE):TE:=λf H Q=>ta f H λx i=>tb f i λy j=>r x y j λz g=>∃k,z= .bl k/\(if k=On then Ng h e tc td y f g Q else Q (.bl Os) g)
theorem yH(J:g_ X (P6 op) r)(l:g_ X (P6 op') r')(i:g_ X (P6 op'') r'')(ha:PE X a ta)(L:PE X b tb)(N:PE X c tc)(hd:PE X d td)
  (hm:X5 [op,op',op''] [b,c,d]=Os:=by with_unfolding_all rfl):PT X (.Compare a [op,op',op''] [b,c,d] pos) (wr (uY r r' r'' ta tb tc td)):=by
 intro f s g H Q I h;refine isTrue_chain (e_ (ha f s g H _ I h) λv O ⟨x,R,T,r1,q1⟩=>test_link (e_ (L f O g R _ T q1) λu U ⟨y,W,Y,o,q2⟩=>
  e_ (J f U g W x y v u _ Y r1 o q2) λZ s3 ⟨z,p,q,r3,k,e,q3⟩=>?_)) hm
 subst e;cases r3;refine P7 ?_;cases k with
 |false=>
  obtain⟨m,j,n⟩:=q3;cases j;exact ite_ff ⟨p,q,n⟩
 |true=>
  refine ite_tt (test_link (e_ (N f s3 g p _ q q3) λt s4 ⟨A,H4,I4,B,q4⟩=>e_ (l f s4 g H4 y A u t _ I4 o B q4) λZ s5 ⟨z',C,F,r5,m,j,q5⟩=>?_));subst j;cases r5;refine P7 ?_;cases m with
  |false=>
   obtain⟨m,j,n⟩:=q5;cases j;exact ite_ff ⟨C,F,n⟩
  |true=>
   refine ite_tt (test_last (e_ (hd f s5 g C _ F q5) λw' s6 ⟨z2,H6,I6,r6,q6⟩=>e_ (i f s6 g H6 A z2 t w' _ I6 B r6 q6) λd' s7 ⟨z3,H7,I7,r7,k3,e3,q7⟩=>?_));subst e3;cases r7;exact P7 ⟨H7,I7,q7⟩
end
end L2
namespace L2.Pu
open PySem PySem.Spec PyProof.Rows
section
variable{X:Cx}{E:St->XK}{a b c d:Expr}{pos:TD}{K:OU}
def Iu(f e:D->D->Option D)(h i:FD)(y:D):FD:=λδ=>M.bind (h δ) λw=>M.bind (M.ofO (f y w)) λz=>M.bind (M.ofO (asB z)) λc=>if c=On then M.bind (i δ) (λg=>M.ofO (e w g))else M.ret (.bl Os)
def mJ(o j e:D->D->Option D)(f g h i:FD):FD:=λδ=>M.bind (f δ) λa=>M.bind (g δ) λb=>M.bind (M.ofO (o a b)) λz=>M.bind (M.ofO (asB z)) λc=>if c=On then Iu j e h i b δ else M.ret (.bl Os)
theorem run.later{α i:Type}{R:Hp->α->i->Prop}{F:Fx}{j:St}{m:M α}{H k:Hp}{Q:i->Hp->Prop}{β:Bg}(t:To F H k β)(h:run R F E j m H Q β):run R F E j m k Q β:=by
 obtain⟨l,f,e,q⟩:=h;refine⟨l,f,e,?_⟩;cases l with
 |ok d=>exact λv g tt=>q v g (t.trans tt)
 |error C=>exact λg tt=>q g (t.trans tt)
theorem wx(l:aX K r o)(l':aX K r' o')(O:aX K r'' o'')(T:tV K (mJ o o' o'' f g h i) E σ H Q):uY r r' r'' (tV K f E) (tV K g E) (tV K h E) (tV K i E) σ H Q:=by
 obtain⟨F,δ,β,fr,U,T⟩:=T;refine⟨F,δ,β,fr,U,(run.bind (R:=c4 K F) T).mono λv H1 n=>o0 n λd β1 t hd r1=>⟨F,δ,β1,t.fr,U.tr (t.tr fr),(run.bind (R:=c4 K F) r1).mono λv2 H2 n=>o0 n λd2 β2 p u r2=>?_⟩⟩;obtain⟨z,ez,r3⟩:=run.ofO_bind r2;obtain⟨c,ec,L⟩:=run.ofO_bind r3;rw[iA ec]at ez;have W:=U.tr ((t.tr fr).trans (p.tr t.fr));refine l F H2 β2 _ d d2 _ v v2 p.fr (c4.tr (p.tr t.fr) _ _ hd) u ez λvz H3 j hz=>⟨c,hz,?_⟩;cases c with
 |true=>
  rw[OA rfl]at L;have Y:=c4.tr (j.tr p.fr) _ _ u;have y:=W.tr (j.tr p.fr);have r5:=run.later j L;refine⟨F,δ,β2,j.fr,y,(run.bind (R:=c4 K F) r5).mono λw H4 n=>o0 n λdw A B C r6=>?_⟩;obtain⟨z',I,r7⟩:=run.ofO_bind r6;obtain⟨c',Z,N⟩:=run.ofO_bind r7;rw[iA Z]at I;refine l' F H4 A _ d2 dw _ v2 w B.fr (c4.tr (B.tr j.fr) _ _ Y) C I λvz' H5 m hz'=>⟨c',hz',?_⟩;cases c' with
  |true=>
   rw[OA rfl]at N;refine⟨F,δ,A,m.fr,y.tr ((B.tr j.fr).trans (m.tr B.fr)),(run.bind (R:=c4 K F) (run.later m N)).mono λw' H6 ⟨dw',β6,t6,J,r9⟩=>?_⟩;obtain⟨d3,e3,k⟩:=run.ofO r9;exact O F H6 β6 Q dw dw' d3 w w' t6.fr (c4.tr ((m.tr B.fr).trans (t6.tr m.fr)) _ _ C) J e3 k
  |false=>
   rw[Ot OE]at N;obtain⟨rr,β',e,q⟩:=N;cases e;exact q _ H5 m rfl
 |false=>
  rw[Ot OE]at L;obtain⟨rr,β',e,q⟩:=L;cases e;exact q _ H3 j rfl
theorem AW(m:g_ X (P6 op) r)(j:g_ X (P6 op') r')(e:g_ X (P6 op'') r'')(l:aX X.K r o)(n:aX X.K r' o')(k:aX X.K r'' o'')(ha:PE X a (tV X.K f E))(p:PE X b (tV X.K g E))(t:PE X c (tV X.K h E))(hd:PE X d (tV X.K i E))(hm:X5 [op,op',op''] [b,c,d]=Os:=by with_unfolding_all rfl):
  PT X (.Compare a [op,op',op''] [b,c,d] pos) (hE X.K (fB (mJ o o' o'' f g h i)) E):=(yH m j e ha p t hd hm).imp λu H Q q=>wx l n k (nc q)
variable{st:Qe}{H₀:Hp}{B:Ow}{bg:Option (Oq×Oq)}{H H':Hp}{δ:Ds}{β β':Bg}{σ:St}
theorem gs.AtoB(ok:gs K H₀ B bg H δ β σ):∀c,(eo B bg).A c->(qk B bg).A c\/J_ H c:=λc f=>by
 have e:B c≠Oi:=f;cases q:B c with
 |none=>exact OX q e
 |some k=>
  match k,q with
  |0,q=>exact .inl (.inl q)
  |1,q=>exact .inl (.inr q)
  |k+2,q=>exact .inr (ok.lst c k q)
theorem gs.noB{d:D}(ok:gs K H₀ B bg H δ β σ)(hn:noL d=On)(h:c4 K (qk B bg) H d v):c4 K (eo B bg) H d v:=vC ok.AtoB d v hn h
def rV(i:Nat)(f:FD):G:=λδ β=>match f (j0 δ) β with
 |some (.ok d,β1)=>if noL d=On then on (.nx (δ.set i (on (.sh d))),β1)else Oi
 |some (.error C,β1)=>on (.ex C δ,β1)
 |none=>Oi
theorem Kw(h:PS X st (ff (tV X.K f E) (dC i))):PS X st (tG X.K X.H₀ (rV i f) E):=h.imp λD σ H l=>by
 obtain⟨B,bg,δ,β,o,β',ok,e,q⟩:=l;refine⟨qk B bg,j0 δ,β,ok.frA,ok.viewA,?_⟩;unfold rV at e;split at e
 .rename_i d β1 j
  split at e
  .rename_i hn
   cases e;refine⟨.ok d,_,j,λv H' t hd=>?_⟩;obtain⟨g,k⟩:=ok.to rfl t;exact q _ B H' k (g.set (g.noB hn hd))
  .cases e
 .rename_i C β1 j
  cases e;refine⟨.error C,_,j,λH' t=>?_⟩;obtain⟨g,k⟩:=ok.to rfl t;exact q _ B H' k g
 .cases e
def pC(i:Nat)(e f g:FD):G:=λδ β=>match g (j0 δ) β with
 |some (.ok d,β1)=>match e (j0 δ) β1 with
  |some (.ok (.int ka),β2)=>match f (j0 δ) β2 with
   |some (.ok (.int kb),β3)=>match δ.getD i Oi with
    |some (.grd ba)=>match ra ba.length ka with
     |some ja=>match ba[ja]? with
      |some ds=>match ra ds.length kb with
       |some jb=>if noL d=On then on (.nx (δ.set i (on (.grd (ba.set ja (ds.set jb d))))),β3)else Oi
       |none=>Oi
      |none=>Oi
     |none=>Oi
    |_=>Oi
   |_=>Oi
  |_=>Oi
 |_=>Oi
theorem s0(h:PS X st (ff (tV X.K fv E) (DJ (Wi (tE X.K) (jI i) (tV X.K fa E)) (tV X.K fb E) HG))):PS X st (tG X.K X.H₀ (pC i fa fb fv) E):=h.imp λD σ H h_=>by
 obtain⟨B,bg,δ,β,o,β',ok,e,q⟩:=h_;refine⟨qk B bg,j0 δ,β,ok.frA,ok.viewA,?_⟩;unfold pC at e;split at e
 .rename_i d β1 e1
  refine⟨.ok d,_,e1,λv H1 t1 hd=>?_⟩;obtain⟨f,s1⟩:=ok.to rfl t1;split at e
  .rename_i ka β2 e2
   split at e
   .rename_i kb β3 e3
    split at e
    .rename_i ba Q
     split at e
     .rename_i ja ea
      split at e
      .rename_i ds er
       split at e
       .rename_i jb eb
        split at e
        .rename_i R
         cases e;have hd:=f.noB R hd;obtain⟨w,N,a,rs,rfl,hB,ha,nd,rl⟩:=f.tell i _ (getD_some Q);refine⟨_,N,qk B bg,j0 δ,β1,f.frA,f.viewA,.ok (.int ka),β2,e2,λy H2 t2 hy=>?_⟩;cases hy;obtain⟨j,s2⟩:=f.to (F:=qk B bg) rfl t2;obtain⟨w2,h2,a2,g,ew,k,m,nd2,n⟩:=j.tell i _ (getD_some Q);rw[N]at h2;cases h2;cases ew;obtain⟨r,xs,T,hp,hx,dl⟩:=n.at er;refine⟨a,g.map V.ref,ka,.ref r,rfl,rfl,fy.of m,?_,?_⟩
         .unfold o1
          rw[Oh,<-n.len,ea];show(g.map V.ref)[ja]?=_;rw[Ou,T];rfl
         .refine⟨qk B bg,j0 δ,β2,j.frA,j.viewA,.ok (.int kb),_,e3,λz H3 t3 hz=>?_⟩
          cases hz;obtain⟨p,s3⟩:=j.to (F:=qk B bg) rfl t3;obtain⟨w3,h3,a3,t,U,W,u,Y,A⟩:=p.tell i _ (getD_some Q);rw[N]at h3;cases h3;cases U;have Z:g=t:=by
           have O:H3 a=on (.lst (g.map V.ref)):=t3.kp a _ m (λb l y=>⟨λw=>(by subst w;rw[(ok.bgt _ _ y).1]at k;cases k),λw=>(by subst w;rw[(ok.bgt _ _ y).2]at k;cases k)⟩);rw[u]at O;have k2:t.map V.ref=g.map V.ref:=by injection O with O;injection O
           exact(Vd (λa b q=>by cases q;rfl)|>.mp k2).symm
          subst Z;obtain⟨r',C,I,hp',J,L⟩:=A.at er;rw[T]at I;cases I;have hv3:c4 X.K (eo B bg) H3 d v:=c4.tr (s3.tr) _ _ (c4.tr (s2.tr) _ _ hd);refine⟨r,C,kb,jb,rfl,rfl,J,by rw[<-L.length];exact eb,?_⟩;obtain⟨ok4,s4⟩:=p.writeRow (ds:=ds.set jb d) (xs:=C.set jb v) N W u Y A T J (bb.set jb L hv3);exact q _ _ _ (s1.trans (s2.trans (s3.trans s4))) ok4
        .cases e
       .cases e
      .cases e
     .cases e
    .cases e
   .cases e
  .cases e
 .cases e
variable{e:Expr}{es:List Expr}
def o2(op:D->D->Option (List D))(f g:FD):FL:=λδ=>M.bind (f δ) λa=>M.bind (g δ) λb=>M.ofO (op a b)
noncomputable def Zs(K:OU)(l:Oq):It:=
 ⟨λi H=>∃xs x,fy K H l xs/\xs[i]?=on x,
  λi H v H'=>∃p x,H p=Oi/\v= .ref p/\H'=upd H p (.tup [.int (i:Int),x])/\∀xs,fy K H l xs->xs[i]?=on x,
  λi H=>∃xs,fy K H l xs/\xs.length=i⟩
theorem xY{P:Pc}{w:Pk}{K:OU}{x1}{pos:TD}(l e it:Oq)(t:e≠it):
  oa P w K (.Tuple elts x1 pos) (Zs K l) [e,it] e (λi h=>(∃f,IsEnum h e it (i:Int) f)/\h.IsListIter it l i) where
 mem:=by simp
 obj:=λi h st b j=>by
  obtain⟨⟨f,m⟩,p⟩:=st;simp only[OK,Qc,SD]at j;rcases j with rfl|rfl
  .exact⟨_,m,λv q=>by cases q⟩
  .obtain⟨o,q,_,d⟩:=p
   exact⟨o,q,λv z=>by rw[d]at z;cases z⟩
 keep:=λi h h' st k=>by
  obtain⟨⟨f,m⟩,p⟩:=st;exact⟨⟨f,k e (by simp) _ m⟩,p.at λo q=>k it (by simp) o q⟩
 item:=by
  intro X L N O Q i r s σ H E I y st R;subst L N O;obtain⟨xs,x,q1,T⟩:=R;obtain⟨⟨f,m⟩,p⟩:=st;obtain⟨g,r1,U⟩:=dk.src (b:=On) I q1;have hd:=I.ok.hd Q;have ne:l≠e:=dk.src_ne (b:=On) I q1 (y e (by simp));have W:l≠it:=dk.src_ne (b:=On) I q1 (y it (by simp));have k1:i<g.toArray.size:=by
   rw[OR,<-r1.length];exact(OF.mp T).1
  refine wpAny_pyNext_enum_itemD (Xp (show(X.A.in1).handled=Oi from hd) it l W g.toArray) m ⟨p,U⟩ k1 t (by simp[t,ne.symm]) λu h' Y pu fo f1 fT sz kp=>?_;refine⟨_,rfl,wpAny_letOwnedTupleGo_enum (s:={s with heap:=h',toks:=Y+1}) fo λC F J=>?_⟩
  replace J:Pa e h' C:=J
  have zT:s.heap.objs.size≠e:=Rb (OZ m);obtain⟨u',Z,ru⟩:=r1.get T;have eu:u=u':=by
   have:g[i]?=on u:=by simpa using pu
   rw[this]at Z;exact O8 Z
  subst eu;have kk:∀b o,b∉[e,it]->s.heap.get? b=on o->C.get? b=on o:=λb o j q=>by
   simp only[OK,Qc,SD,Yn]at j;exact J.extBut b o j.1 (kp b o j.1 j.2 q)
  have I2:dk X r σ (upd H s.heap.objs.size (.tup [.int (i:Int),x])) {s with heap:=C,toks:=Y+1}:=by
   refine dk.turnNew I y kk (OD _) ⟨by show 2<=OS;decide,[.int i Y,u],.cons ⟨_,rfl⟩ (.cons ru .nil),_,J.extBut _ _ zT fT,rfl,_,rfl⟩
  refine⟨.ref s.heap.objs.size,_,I2,rfl,⟨s.heap.objs.size,x,I.hok.fresh (OD _),rfl,rfl,λas h1=>by rw[dk.src_inj (b:=On) I h1 q1];exact T⟩,⟨⟨_,by simpa using F⟩,?_⟩,λb j=>?_⟩
  .exact f1.1.at λo q=>J.extBut _ _ t.symm q
  .rw[b_]
   .exact(y b j).1
   .intro q
    have ol:∃o,s.heap.get? b=on o:=by
     simp only[OK,Qc,SD]at j;rcases j with rfl|rfl
     .exact⟨_,m⟩
     .obtain⟨o,z,_⟩:=p;exact⟨o,z⟩
    obtain⟨o,z⟩:=ol;exact OX (OZ z) (by rw[q];exact PF _)
 done:=by
  intro X L N O Q i r s σ H E I y st R;subst L N O;obtain⟨xs,q1,hl⟩:=R;obtain⟨⟨f,m⟩,p⟩:=st;obtain⟨g,r1,U⟩:=dk.src (b:=On) I q1;have hd:=I.ok.hd Q;have W:l≠it:=dk.src_ne (b:=On) I q1 (y it (by simp));have g1:g.toArray.size=i:=by rw[OR,<-r1.length,hl]
  refine wpAny_pyNext_enum_endD (n:=g.toArray.size) (Xp (show(X.A.in1).handled=Oi from hd) it l W g.toArray) m (by rw[g1];exact⟨p,U⟩) λh' kp=>⟨rfl,?_⟩;refine dk.turnL (t':=s.toks) I y λb o j q=>?_;simp only[OK,Qc,SD,Yn]at j;exact kp b o j.2 q
 self:=λ_ _ _ _ _ st h=>by
  obtain⟨⟨f,m⟩,p⟩:=st;exact wpAny_pyIter_enum m h
def iEn(K:OU)(g:TA):TI:=λσ H R=>g σ H λvs f=>∃l xs,vs=[.ref l]/\fy K f l xs/\R (Zs K l) f
theorem Jm{a:Expr}{p pos:TD}{x1}(o:Gl X "enumerate")(hm:X.mg "enumerate"=Oi)(ha:PA X [a] ta)(hs:OJ [a] X.env=[(Os,PZ a X.env)]:=by rfl):
  PI X (.Tuple elts x1 tpos) (.Call (.Name "enumerate" p) [a] [] pos) (iEn X.K ta):=by
 intro f s σ H R I h;refine Call_ (fF I o hm PyProof.Rows.Boot.«enumerate» (Qh (e_ (ha pos f s σ H _ I h) λus g ⟨vs,k,j,r1,q1⟩=>?_) (by rw[hs];rfl) (by rfl)));obtain⟨l,xs,e,q1,q⟩:=q1;subst e;cases r1 with
 |cons r t=>
  cases t;cases r;obtain⟨u,C,v⟩:=dk.src (b:=On) j q1;refine call_enumerate_list v λh' m y sz kp=>?_;refine wpAny_pyIter_enum (s:={g with heap:=h'}) m ?_;have A:dk X f σ k {g with heap:=h'}:=j.kept (t':=g.toks) kp;refine⟨_,[g.heap.objs.size+1,g.heap.objs.size],_,Zs X.K l,k,rfl,A,xY l (g.heap.objs.size+1) g.heap.objs.size (Nat.succ_ne_self _),⟨⟨_,m⟩,y⟩,λc n=>?_,q⟩;have i:g.heap.objs.size<=c:=by
   simp only[OK,Qc,SD]at n;rcases n with rfl|rfl
   .exact Ry _ _
   .exact OD _
  exact j.fpOk i (j.hok.fresh i)
noncomputable def cg:Nat->List D->List D
 |_,[]=>[]
 |n,x::xs=> .tup [.int (n:Int),x]::cg (n+1) xs
theorem iT:∀(n:Nat) (xs:List D),(cg n xs).length=xs.length
 |_,[]=>rfl
 |n,x::xs=>by
  show(cg (n+1) xs).length+1=xs.length+1;rw[iT (n+1) xs]
theorem lF:∀{n:Nat} {xs:List D} {i:Nat} {d:D},(cg n xs)[i]?=on d->∃x,xs[i]?=on x/\d= .tup [.int ((n+i:Nat):Int),x]
 |n,[],i,d,h=>by simp[cg]at h
 |n,x::xs,0,d,h=>by
  simp[cg]at h;exact⟨x,rfl,by rw[<-h];simp⟩
 |n,x::xs,i+1,d,h=>by
  have h':(cg (n+1) xs)[i]?=on d:=by simpa[cg]using h
  obtain⟨a,f,g⟩:=lF h';exact⟨a,by simpa using f,by rw[g,show n+1+i=n+(i+1) by omega]⟩
def Iw:List D->Option (List D)
 |[.lst xs]=>on (cg 0 xs)
 |_=>Oi
theorem DB{H:Hp}(o:∀g f,Tr F H g f->∃xs,fy K f l xs/\bb K g f ds xs):v_ K (Zs K l) F H (cg 0 ds):=λg f β2 t fr i=>by
 obtain⟨xs,h,d1⟩:=o g f t;refine⟨λd hd=>?_,λj=>?_⟩
 .obtain⟨x,q,rfl⟩:=lF hd
  obtain⟨u,k,du⟩:=d1.get q;refine⟨⟨xs,u,h,k⟩,λz y r=>?_⟩;obtain⟨p,A,m,rfl,rfl,v⟩:=r;have n:=v xs h;rw[k]at n;cases n;rw[QJ];exact⟨bG.upd m,c4.newT fr m (bb.cons rfl (bb.cons du bb.nil))⟩
 .rw[iT]at j
  exact⟨xs,h,by rw[<-d1.length,j]⟩
def HP(g:FL):FL:=cX Iw g
theorem jv{a:Expr}{p pos:TD}{x1}(q:Gl X "enumerate")(hm:X.mg "enumerate"=Oi)(ha:PA X [a] (j1 X.K g E))(hs:OJ [a] X.env=[(Os,PZ a X.env)]:=by rfl):
  PI X (.Tuple elts x1 tpos) (.Call (.Name "enumerate" p) [a] [] pos) (iV X.K (HP g) E):=
 (Jm q hm ha hs).imp λσ H R j=>lk j λF δ β fr r h=>⟨F,δ,β,fr,r,(run.bind (R:=bb X.K F) h).mono λvs f j=>by
  obtain⟨ds,β1,t,hd,r1⟩:=j;obtain⟨l,e,k⟩:=run.ofO r1;unfold Iw at e;split at e
  .rename_i xs
   cases e;obtain⟨v,rfl,o⟩:=bb.one hd;have z:∃a,v= .ref a/\∀m i,Tr F f m i->∃ys,fy X.K i a ys/\bb X.K m i xs ys:=by
    obtain⟨a,ys,rfl,_⟩:=c4.sqL o;refine⟨a,rfl,λm i u=>?_⟩;obtain⟨I,n,y,sq,A⟩:=c4.sqL (c4.tr u _ _ o);cases y;exact⟨n,sq,A⟩
   obtain⟨a,rfl,z⟩:=z;obtain⟨us,C,_⟩:=z F f (Tr.refl F f);exact⟨a,us,rfl,C,k _ f (To.refl t.fr) (DB z)⟩
  .cases e⟩
def dE(K:OU)(g:O5)(ps:List Pj)(h:List D):Prop:=∃ds f,aC K g ps ds/\au f ds/\∀F H,bb K F H h f
inductive Sr (α:Type) where
 |kw (j:Nat)|df (a:α)
noncomputable def Sr.pick{α:Type}(z:α)(f:List α):Sr α->α
 | .kw j=>f.getD j z
 | .df a=>a
def gK{α:Type}(z:α)(n k:Nat)(src:List (Sr α))(us f:List α):List α:=if us.length=n/\f.length=k then us++src.map (Sr.pick z f)else[]
inductive lQ {α γ:Type} (R:α->γ->Prop):List (Sr α)->List (Sr γ)->Prop where
 |nil:lQ R [] []
 |kw {j:Nat} {a:List (Sr α)} {c:List (Sr γ)}:lQ R a c->lQ R (.kw j::a) (.kw j::c)
 |df {x:α} {y:γ} {a:List (Sr α)} {c:List (Sr γ)}:R x y->lQ R a c->lQ R (.df x::a) (.df y::c)
theorem au.getD:∀{f:List V} {g:List Ov} (j:Nat),au f g->aI (f.getD j .non) (g.getD j .none)
 |_,_,_,.nil=>rfl
 |_,_,0,.cons r _=>r
 |_,_,j+1,.cons _ t=>au.getD j t
theorem lQ.vals(r:au zs ws):∀{a:List (Sr V)} {c:List (Sr Ov)},lQ aI a c->au (a.map (Sr.pick .non zs)) (c.map (Sr.pick .none ws))
 |_,_,.nil=> .nil
 |_,_,.kw (j:=j) h=> .cons (au.getD j r) (lQ.vals r h)
 |_,_,.df q h=> .cons q (lQ.vals r h)
theorem bb.getD{K:OU}{H:Hp}:∀{ds:List D} {f:List V} (j:Nat),bb K F H ds f->c4 K F H (ds.getD j .non) (f.getD j .non)
 |[],f,j,h=>by have q:f=[]:=h;subst q;rfl
 |d::ds,f,0,h=>by
  obtain⟨x,r,e,g,i⟩:=h;subst e;exact g
 |d::ds,f,j+1,h=>by
  obtain⟨x,r,e,g,i⟩:=h;subst e;exact bb.getD j i
theorem lQ.den{K:OU}{H:Hp}(r:bb K F H ds zs):∀{a:List (Sr D)} {c:List (Sr V)},lQ (λd v=>∀F H,c4 K F H d v) a c->bb K F H (a.map (Sr.pick .non ds)) (c.map (Sr.pick .non zs))
 |_,_,.nil=>bb.nil
 |_,_,.kw (j:=j) h=>bb.cons (bb.getD j r) (lQ.den r h)
 |_,_,.df q h=>bb.cons (q F H) (lQ.den r h)
theorem lQ.len{α f:Type}{R:α->f->Prop}:∀{a:List (Sr α)} {c:List (Sr f)},lQ R a c->a.length=c.length
 |_,_,.nil=>rfl
 |_,_,.kw h=>by rw[OO,OO,lQ.len h]
 |_,_,.df _ h=>by rw[OO,OO,lQ.len h]
structure D_ (K:OU) (fd:O5) (ps ks:List Pj) (n:Nat) (src:List (Sr D)):Prop where
 ex:∃(sv:List (Sr Ov)) (sx:List (Sr V)),lQ aI sx sv/\lQ (λd v=>∀F H,c4 K F H d v) src sx/\∀(s:OB) (us ws:List Ov),K.In s.heap->us.length=n->ws.length=ks.length->Vm s fd ⟨us,ks.zip ws⟩ (ps.zip (us++sv.map (Sr.pick .none ws)))
 len:ps.length=n+src.length
 pos:0<ps.length
theorem D_.kb{K:OU}{ps ks:List Pj}(h:D_ K fd ps ks n src):∃(sv:List (Sr Ov)) (f:List (Sr V)),lQ (λd v=>∀F H,c4 K F H d v) src f/\E_ K fd ps ks (gK .none n ks.length sv) (gK .non n ks.length f):=by
 obtain⟨sv,f,r1,l,b⟩:=h.ex;refine⟨sv,f,l,λs us k m g=>?_,λ{vs us o k} i j=>?_⟩
 .unfold gK at g⊢
  split at g
  .rename_i q
   rw[OA q];exact b s us k m q.1 q.2
  .exact OX g (by have:=h.pos;simp;omega)
 .unfold gK
  by_cases q:vs.length=n/\o.length=ks.length
  .rw[OA q,OA (by rw[<-i.length,<-j.length];exact q)]
   exact i.append (lQ.vals j r1)
  .rw[Ot q,Ot (by rw[<-i.length,<-j.length];exact q)]
   exact .nil
variable{p kpos:TD}{x:Pj}{k n:Nat}{f:Oq}{fd:O5}{ps ks:List Pj}{kws:List Vo}{nm:Option Pj}
def LO(m:List D->M D)(g:FL)(h:List D):FD:=λδ=>M.bind (g δ) λas=>m (as++h)
theorem IL{h:List D}(G:fw X.prog X.w X.K X.mg X.base (hO X.prog X.w) k f fd ps (F3 X.K n m))(y:en k X.A)(I:Gl X x)(hm:X.mg x=on (.ref f))(J:Uo X.K (.ref f)=On)(L:dE X.K fd ps h)(N:cK (hO X.prog X.w) X E)
  (ha:PA X (e::es) (j1 X.K g E)) (hn:∀δ β r β',g δ β=on (.ok r,β')->r.length+h.length=n) (i:(x==("__debug__":Pj))=Os:=by decide) (O:OJ (e::es) X.env=(Os,PZ e X.env)::OJ es X.env:=by rfl) (j:(QX pos (OJ es X.env)).any (·.1)=Os:=by rfl):
  PE X (.Call (.Name x p) (e::es) [] pos) (tV X.K (LO m g h) E):=by
 obtain⟨ds,T,b,U,rd⟩:=L;refine(mo G y I hm J b U N ha i O j).imp λσ H Q W=>lk W λF δ β fr Y r=>⟨F,δ,β,fr,Y,?_⟩;obtain⟨r0,l,u,v⟩:=run.bind (R:=bb X.K F) r;refine⟨r0,l,u,?_⟩;cases r0 with
 |error C=>exact v
 |ok as=>
  intro vs o t hd;obtain⟨d',β1,Z,q,r1⟩:=v vs o t hd;have hl:=hn _ _ _ _ u;have hz:=(rd F o).length;refine⟨by rw[ON,<-hd.length,<-hz,hl],F,d'++h,β1,Z.fr,bb.append q (rd F o),run.toE r1⟩
theorem J9:PK X [] (j1 X.K aF E):=λpos g s σ H Q I h=>by obtain⟨F,δ,β,fr,i,r⟩:=h;exact KY pos g s σ H Q I (run.ret fr r bb.nil)
theorem IG{f:FD}(ha:PE X e (tV X.K f E))(m:PK X kws (j1 X.K g E)):PK X (⟨nm,e,kpos⟩::kws) (j1 X.K (ag f g) E):=λpos h s σ H Q I ⟨F,δ,β,fr,j,r⟩=>
 Jk ha m pos h s σ H Q I ⟨F,δ,β,fr,j,(run.bind (R:=c4 X.K F) r).mono λv u ⟨d,β1,t,hd,r1⟩=>
  ⟨F,δ,β1,t.fr,j.tr (t.tr fr),(run.bind (R:=bb X.K F) r1).mono λvs y o=>o0 o λds β2 l i q=>run.ret l.fr q (bb.cons (c4.tr (l.tr t.fr) _ _ hd) i)⟩⟩
def Gw(g:G)(δ:Ds)(β:Bg)(Q:tx->Bg->Prop):Prop:=∃o β',g δ β=on (o,β')/\Q o β'
end
section
variable{g h a b g1 g2:G}{δ δ1:Ds}{β β1 β2 β3:Bg}{Q R:tx->Bg->Prop}{i:Nat}{f fa fb fv:FD}{fl:FL}{fg:Dn->M (List (List D))}{d x y z:D}{ds as:List D}{t:Dn->M Bool}{c:Bool}{C:Oq}{K:OU}
theorem Gw.mono(k:Gw g δ β R)(q:∀o β,R o β->Q o β):Gw g δ β Q:=let ⟨o,β',e,r⟩:=k;⟨o,β',e,q _ _ r⟩
theorem Jb:aN g gNil=g:=by
 funext δ β;unfold aN gNil;split
 .rename_i δ1 β1 e;exact e.symm
 .rfl
theorem aq(k:Gw (aN g gNil) δ β Q):Gw g δ β Q:=by rw[Jb]at k;exact k
theorem aY(q:Q (.nx δ) β):Gw gNil δ β Q:=⟨_,_,rfl,q⟩
theorem dn(e:g δ β=on (.nx δ1,β1))(k:Gw h δ1 β1 Q):Gw (aN g h) δ β Q:=by
 obtain⟨o,j,l,q⟩:=k;exact⟨o,j,by unfold aN;rw[e];exact l,q⟩
theorem jg(k:Gw (aN a (aN b h)) δ β Q):Gw (aN (aN a b) h) δ β Q:=by
 obtain⟨o,j,l,q⟩:=k;refine⟨o,j,?_,q⟩;rw[<-l];unfold aN;split<;>rename_i e<;>(split at e<;>simp_all)
theorem bn(k:Gw h δ β Q):Gw (aN gNil h) δ β Q:=dn rfl k
theorem wj(k:Gw g (fz i δ) β Q):Gw (fzG i g) δ β Q:=k
theorem aB(e:f (vw δ) β=on (.ok d,β1))(k:Gw h (δ.set i (on (.sh d))) β1 Q):Gw (aN (lB i f) h) δ β Q:=dn (by unfold lB;rw[e]) k
theorem J5(e:f (j0 δ) β=on (.ok d,β1))(k:Gw h (δ.set i (on (.sh d))) β1 Q)(j:noL d=On:=by rfl):Gw (aN (rV i f) h) δ β Q:=dn (by unfold rV;simp only[e,j,PM]) k
theorem oi(e:f (j0 δ) β=on (.ok d,β1))(k:Gw h δ β1 Q):Gw (aN (pE f) h) δ β Q:=dn (by unfold pE;rw[e]) k
theorem gx(e:t (j0 δ) β=on (.ok c,β1))(k:Gw (aN (if c=On then g1 else g2) h) δ β1 Q):Gw (aN (y4 t g1 g2) h) δ β Q:=by
 obtain⟨o,j,l,q⟩:=k;refine⟨o,j,?_,q⟩;rw[<-l];unfold aN y4;rw[e];cases c<;>rfl
theorem M5(e:t (j0 δ) β=on (.ok On,β1))(k:Gw (aN g1 h) δ β1 Q):Gw (aN (y4 t g1 g2) h) δ β Q:=gx e k
theorem dy(e:t (j0 δ) β=on (.ok Os,β1))(k:Gw (aN g2 h) δ β1 Q):Gw (aN (y4 t g1 g2) h) δ β Q:=gx e k
theorem aT(e:f (j0 δ) β=on (.ok d,β1))(q:Q (.rt d) β1):Gw (aN (i9 f) h) δ β Q:=⟨_,_,by unfold aN i9;rw[e],q⟩
theorem IF(e:fg (vw δ) β=on (.ok ba,β1))(q:Q (.rg ba) β1):Gw (aN (lC fg) h) δ β Q:=⟨_,_,by unfold aN lC;rw[e],q⟩
theorem GN{ba:List (List D)}(e:fg (vw δ) β=on (.ok ba,β1))(hn:ba.all noLs=On)(k:Gw h (δ.set i (on (.grd ba))) β1 Q):Gw (aN (ur i fg) h) δ β Q:=dn (by unfold ur;simp only[e,hn,PM]) k
theorem GM{ba:List (List D)}(e:fv (j0 δ) β=on (.ok d,β1))(j:fa (j0 δ) β1=on (.ok (.int ka),β2))(l:fb (j0 δ) β2=on (.ok (.int kb),β3))(m:δ.getD i Oi=on (.grd ba))
  (n:ra ba.length ka=on ja) (o:ba[ja]?=on ds) (p:ra ds.length kb=on jb) (hn:noL d=On) (k:Gw h (δ.set i (on (.grd (ba.set ja (ds.set jb d))))) β3 Q):Gw (aN (pC i fa fb fv) h) δ β Q:=
 dn (by unfold pC;simp only[e,j,l,m,n,o,p,hn,PM]) k
theorem lW(e:fl (vw δ) β=on (.ok ds,β1))(j:ds.length<=OS)(k:Gw h (δ.set i (on (.own ds))) β1 Q):Gw (aN (xo i fl) h) δ β Q:=dn (by unfold xo;simp only[e,j,PM]) k
theorem jF{cs:List D}(j:δ.getD i Oi=on (.own cs))(e:fl (vw δ) β=on (.ok [d],β1))(l:cs.length<OS)(k:Gw h (δ.set i (on (.own (cs++[d])))) β1 Q):Gw (aN (xu i fl) h) δ β Q:=
 dn (by unfold xu;simp only[j,e,l,PM]) k
theorem GO(e:f (vw δ) β=on (.ok d,β1))(j:tg d δ=on δ1)(k:Gw h δ1 β1 Q):Gw (aN (xt f tg) h) δ β Q:=dn (by unfold xt;simp only[e,j,QK]) k
def Tn(I:Ds->Bg->Prop)(h:G)(Q:tx->Bg->Prop):tx->Bg->Prop:=λo β=>match o with
 | .nx δ=>I δ β
 | .ct δ=>I δ β
 | .bk δ=>Gw h δ β Q
 |o=>Q o β
theorem br(e:it δ β=on (.ok ds,β1))(u:Nat->Ds->Bg->Prop)(N:u 0 δ β1)(step:∀i d δ β,ds[i]?=on d->u i δ β->∃δ1,tg d δ=on δ1/\Gw g δ1 β (Tn (u (i+1)) h Q))(k:∀δ β,u ds.length δ β->Gw h δ β Q):
  Gw (aN (mG it tg g) h) δ β Q:=by
 have gen:∀(es:List D) (j:Nat) (δ:Ds) (β:Bg),es=ds.drop j->j+es.length=ds.length->u j δ β->Gw (aN (pa tg g es) h) δ β Q:=by
  intro es
  induction es with
  |nil=>
   intro j δ β _ B F;simp at B;exact dn (g:=pa tg g []) rfl (k δ β (B▸F))
  |cons d es ih=>
   intro j δ β L B F;have O:ds[j]?=on d:=by
    have:=Px (λl=>l[0]?) L;simpa[TL]using this.symm
   obtain⟨δ1,v,o,β2,A,q⟩:=step j d δ β O F;have H:es=ds.drop (j+1):=by
    have:=Px List.tail L;simpa[List.tail_drop]using this
   have go:∀m,u (j+1) m β2->Gw (aN (pa tg g es) h) m β2 Q:=λm I=>ih (j+1) m β2 H (by simp at B;omega) I;have n:∀{r:G} {m:Ds},Gw (aN r h) m β2 Q->pa tg g (d::es) δ β=r m β2->Gw (aN (pa tg g (d::es)) h) δ β Q:=λ{r m} ⟨T,p,J,U⟩ W=>⟨T,p,by rw[<-J];unfold aN;rw[W],U⟩;cases o with
   |nx m=>exact n (r:=pa tg g es) (go m q) (by rw[pa];simp only[v,A])
   |ct m=>exact n (r:=pa tg g es) (go m q) (by rw[pa];simp only[v,A])
   |bk m=>exact n (r:=gNil) (bn q) (by rw[pa];simp only[v,A];rfl)
   |rt d'=>exact⟨_,β2,by unfold aN;rw[pa];simp only[v,A],q⟩
   |rg d'=>exact⟨_,β2,by unfold aN;rw[pa];simp only[v,A],q⟩
   |ex C m=>exact⟨_,β2,by unfold aN;rw[pa];simp only[v,A],q⟩
 obtain⟨o,p,J,q⟩:=gen ds 0 δ β1 (by simp) (by simp) N;refine⟨o,p,?_,q⟩;rw[<-J];unfold aN mG;rw[e]
theorem pR{S:Except Oq D->Bg->Prop}(k:Gw g (ni n ds) β (λo j=>match o with| .rt d=>S (.ok d) j| .nx _=>S (.ok .non) j| .ex C _=>S (.error C) j|_=>False)):∃r j,fK n g ds β=on (r,j)/\S r j:=by
 obtain⟨o,j,e,q⟩:=k;cases o with
 |rt d=>exact⟨.ok d,j,by unfold fK;rw[e],q⟩
 |nx δ=>exact⟨.ok .non,j,by unfold fK;rw[e],q⟩
 |ex C δ=>exact⟨.error C,j,by unfold fK;rw[e],q⟩
 |_=>exact q.elim
theorem JY{S:List (List D)->Bg->Prop}(k:Gw g (ni n ds) β (λo j=>match o with| .rg d=>S d j|_=>False)):∃r j,mP n g ds β=on (.ok r,j)/\S r j:=by
 obtain⟨o,j,e,q⟩:=k;cases o with
 |rg d=>exact⟨d,j,by unfold mP;rw[e],q⟩
 |_=>exact q.elim
theorem aO(k:Gw g (ni n ds) β (λo j=>j=β/\(match o with| .rt d=>r= .ok d| .nx _=>r= .ok .non| .ex C _=>r= .error C|_=>False))):fK n g ds β=on (r,β):=by
 obtain⟨l,j,e,q1,q2⟩:=pR (S:=λl j=>j=β/\r=l) (n:=n) (ds:=ds) (β:=β) (k.mono λo j h=>by
  cases o<;>first|exact h|exact h.2)
 subst q1 q2;exact e
theorem JZ(k:Gw g (ni n ds) β (λo j=>j=β/\(match o with| .rg d=>r=d|_=>False))):mP n g ds β=on (.ok r,β):=by
 obtain⟨l,j,e,q1,q2⟩:=JY (S:=λl j=>j=β/\r=l) (n:=n) (ds:=ds) (β:=β) (k.mono λo j h=>by
  cases o<;>first|exact h|exact h.2)
 subst q1 q2;exact e
theorem ak{δ:Dn}(e:fl δ β=on (.ok as,β1))(j:m as β1=on r):eV m fl δ β=on r:=by unfold eV M.bind;rw[e];exact j
theorem IC{δ:Dn}(e:fl δ β=on (.ok as,β1))(j:m as β1=on r):uz m fl δ β=on r:=by unfold uz M.bind;rw[e];exact j
theorem eg{δ:Dn}(e:fa δ β=on (.ok x,β1))(j:fb δ β1=on (.ok y,β2))(k:op x y=on z):f2 op fa fb δ β=on (.ok z,β2):=by unfold f2 M.bind;rw[e];simp only[j,M.ofO,k]
theorem x_1{δ:Dn}(e:fa δ β=on (.ok x,β1))(j:op x=on z):f1 op fa δ β=on (.ok z,β1):=by unfold f1 M.bind;rw[e];simp only[M.ofO,j]
theorem ae{δ:Dn}(e:fl δ β=on (.ok as,β1))(j:op as=on z):aP op fl δ β=on (.ok z,β1):=by unfold aP M.bind;rw[e];simp only[M.ofO,j]
theorem aa{δ:Dn}(e:fa δ β=on (.ok x,β1))(j:fl δ β1=on (.ok as,β2)):ag fa fl δ β=on (.ok (x::as),β2):=by unfold ag M.bind;rw[e];simp only[j,M.ret]
theorem bw{δ:Dn}(e:fl δ β=on (.ok as,β1))(j:op as=on ds):cX op fl δ β=on (.ok ds,β1):=by unfold cX M.bind;rw[e];simp only[j,M.ofO]
theorem cB{δ:Dn}(e:fa δ β=on (.ok x,β1))(j:cW x=on ds):dg fa δ β=on (.ok ds,β1):=by unfold dg M.bind;rw[e];simp only[j,M.ofO]
theorem i_{δ:Dn}(e:fa δ β=on (.ok (.bl c),β1)):fB fa δ β=on (.ok c,β1):=by unfold fB M.bind;rw[e];rfl
theorem lV{δ:Dn}(e:fa δ β=on (.ok x,β1))(j:AU x=on c):uy fa δ β=on (.ok c,β1):=by unfold uy M.bind;rw[e];simp only[M.ofO,j]
theorem n9{δ:Dn}(e:t δ β=on (.ok c,β1)):xz t δ β=on (.ok (!c),β1):=by unfold xz M.bind;rw[e];rfl
theorem bz(ok:β.ok)(k:0<lot)(l:lot<1073741824):∃v e,jX [.bag,.int lot] β=on (.ok (.int v),e)/\0<=v/\v<lot/\e.ok:=by
 obtain⟨m,a1,j⟩:=vg ok k;exact⟨_,_,CK ok k l,m,a1,j⟩
theorem ly{n:Nat}{k:Int}(e:0<=k)(j:k<n):ra n k=on k.toNat:=by unfold ra;rw[OA e,OA j]
theorem zA{k:Int}{d:D}(e:0<=k)(h:xs[k.toNat]?=on d):la (.lst xs) (.int k)=on d:=by
 have j:k.toNat<xs.length:=(OF.mp h).1;show o1 xs k=on d;unfold o1;rw[ly e (by omega)];exact h
theorem ug{x y:D}:la (.tup [x,y]) (.int 0)=on x:=rfl
theorem Lx{x y:D}:la (.tup [x,y]) (.int 1)=on y:=rfl
end
section
variable{β β1 β2:Bg}{f g h i:FD}{t u:Dn->M Bool}{δ:Dn}{c e:Bool}{x y z w:Int}{d:D}
theorem M1(a:t δ β=on (.ok On,β1)):lE t u δ β=on (.ok On,β1):=by
 unfold lE M.bind;rw[a];rfl
theorem n6(a:t δ β=on (.ok Os,β1))(b:u δ β1=on (.ok e,β2)):lE t u δ β=on (.ok e,β2):=by
 unfold lE M.bind;rw[a];simp[b]
theorem xP(a:t δ β=on (.ok Os,β1)):mK t u δ β=on (.ok Os,β1):=by
 unfold mK M.bind;rw[a];rfl
theorem sw(a:t δ β=on (.ok On,β1))(b:u δ β1=on (.ok e,β2)):mK t u δ β=on (.ok e,β2):=by
 unfold mK M.bind;rw[a];simp[b]
theorem uT(a:f δ β=on (.ok (.bl On),β1))(b:g δ β1=on (.ok d,β2)):xA f g δ β=on (.ok d,β2):=by
 unfold xA M.bind;rw[a];simp[asB,M.ofO,b]
theorem le_int:X_ (.int x) (.int y)=on (.bl (decide (x<=y))):=rfl
theorem lt_int:YR (.int x) (.int y)=on (.bl (decide (x<y))):=rfl
theorem gt_int:gtD (.int x) (.int y)=on (.bl (decide (y<x))):=rfl
theorem ge_int:Z3 (.int x) (.int y)=on (.bl (decide (y<=x))):=rfl
theorem uU(a:f δ β=on (.ok (.int x),β))(b:g δ β=on (.ok (.int y),β))(j:h δ β=on (.ok (.int z),β)):pG X_ X_ f g h δ β=on (.ok (.bl (decide (x<=y)&&decide (y<=z))),β):=by
 unfold pG M.bind;rw[a];simp only[b,le_int,M.ofO,asB];by_cases q:x<=y
 .simp only[q,decide_true,PM,j,le_int,S5]
 .simp only[q,decide_false,OT,PD,M.ret,TF]
theorem AL(a:f δ β=on (.ok (.int x),β))(b:g δ β=on (.ok (.int y),β))(j:h δ β=on (.ok (.int z),β))(k:i δ β=on (.ok (.int w),β)):mJ X_ X_ X_ f g h i δ β=on (.ok (.bl (decide (x<=y)&&decide (y<=z)&&decide (z<=w))),β):=by
 unfold mJ Iu M.bind;rw[a];simp only[b,le_int,M.ofO,asB];by_cases q:x<=y
 .simp only[q,decide_true,PM,j,le_int,S5]
  by_cases q2:y<=z
  .simp only[q2,decide_true,PM,k,le_int,S5]
  .simp only[q2,decide_false,OT,PD,M.ret,TF]
 .simp only[q,decide_false,OT,PD,M.ret,TF]
theorem GL{g h:G}{δ:Ds}{β:Bg}(P:Ds->Bg->Prop)(a:Gw g δ β (λo β1=>∃δ1,o= .nx δ1/\P δ1 β1))(b:∀δ1 β1,P δ1 β1->Gw h δ1 β1 Q):Gw (aN g h) δ β Q:=by
 obtain⟨o,β1,e,δ1,rfl,p⟩:=a;exact dn e (b δ1 β1 p)
theorem hV{δ:Ds}{β:Bg}{P:Ds->Bg->Prop}(p:P δ β):Gw gNil δ β (λo β1=>∃δ1,o= .nx δ1/\P δ1 β1):=aY ⟨_,rfl,p⟩
noncomputable abbrev gI(ba:LI):List (List D):=ba.map λr=>r.map D.int
noncomputable abbrev lG(ba:List (List D)):D:= .lst (ba.map D.lst)
abbrev f_(ba:LI):D:=lG (gI ba)
noncomputable def pD(p:Int×Int):D:= .tup [.int p.1,.int p.2]
abbrev gP(b:LP):List (List D):=b.map λr=>r.map pD
abbrev c7(b:LP):D:=lG (gP b)
def k_{α:Type}(r c:Nat)(m:List (List α)):Prop:=m.length=r/\∀row∈m,row.length=c
noncomputable def tot(ba:LI):Int:=(ba.map Qq).sum
theorem bo(h:n<=1000):n<=OS:=OP h (by decide)
theorem iO:∀r:List Int,noLs (r.map D.int)=On
 |[]=>rfl
 |x::r=>by
  show(noL (.int x)&&noLs (r.map D.int))=On;rw[iO r];rfl
theorem oZ:∀r:List (Int×Int),noLs (r.map pD)=On
 |[]=>rfl
 |x::r=>by
  show(noL (pD x)&&noLs (r.map pD))=On;rw[oZ r];rfl
theorem Lg(b:LP):(gP b).all noLs=On:=by
 rw[Sc];intro x a;obtain⟨r,_,rfl⟩:=OC.mp a;exact oZ r
theorem k_.map{α a:Type}{f:α->a}{r c:Nat}{m:List (List α)}(h:k_ r c m):k_ r c (m.map λx=>x.map f):=⟨by rw[Oh,h.1],λrow b=>by
 obtain⟨x,j,rfl⟩:=OC.mp b;rw[Oh];exact h.2 x j⟩
theorem k_.set{α:Type}{r c i j:Nat}{m:List (List α)}{row:List α}{v:α}(h:k_ r c m)(b:m[i]?=on row):k_ r c (m.set i (row.set j v)):=⟨by rw[Pl,h.1],λx a=>by
 rcases QO a with a|rfl
 .exact h.2 x a
 .rw[Pl];exact h.2 row (OQ b)⟩
theorem k_.at{α:Type}{r c i:Nat}{m:List (List α)}(h:k_ r c m)(b:i<r):∃row,m[i]?=on row/\row.length=c:=by
 have a:i<m.length:=by rw[h.1];exact b
 exact⟨m[i],Oo a,h.2 _ (Pq a)⟩
theorem Iy{α:Type}{l:List α}{i:Nat}(h:i<l.length):∃x,l[i]?=on x:=⟨l[i],Oo h⟩
theorem ji:∀{xs:List Int} {j:Nat} {x v:Int},xs[j]?=on x->(xs.set j v).sum=xs.sum-x+v
 |[],j,x,v,h=>by simp at h
 |y::xs,0,x,v,h=>by
  simp at h;subst h;simp only[List.set_cons_zero,O3];omega
 |y::xs,j+1,x,v,h=>by
  have h':xs[j]?=on x:=by simpa using h
  simp only[List.set_cons_succ,O3,ji h'];omega
theorem IN{ba:LI}{i j:Nat}{row:List Int}{x v:Int}(a:ba[i]?=on row)(b:row[j]?=on x):tot (ba.set i (row.set j v))=tot ba-x+v:=by
 unfold tot;rw[Tv,ji (x:=row.sum) (by rw[Ou,a];rfl),ji b];omega
theorem Lh{ba:LI}{i j:Nat}{row:List Int}(h:∀r∈ba,∀x∈r,0<=x)(k:ba[i]?=on row)(l:0<=v):∀r∈ba.set i (row.set j v),∀x∈r,0<=x:=λr a x b=>by
 rcases QO a with a|rfl
 .exact h r a x b
 .rcases QO b with b|rfl
  .exact h row (OQ k) x b
  .exact l
theorem kG:∀{xs:List Int},(∀x∈xs,0<=x)->0<=xs.sum
 |[],_=>by simp
 |y::xs,h=>by
  have:=kG (xs:=xs) λx a=>h x (Op _ a);have:=h y Ox;simp only[O3];omega
theorem ud:∀{xs:List Int},(∀x∈xs,0<=x)->∀x∈xs,x<=xs.sum
 |[],_,x,hx=>by cases hx
 |y::xs,h,x,hx=>by
  have:=kG (xs:=xs) λx hx=>h x (Op _ hx);have:=h y Ox;rcases OK.mp hx with rfl|hx
  .simp only[O3];omega
  .have:=ud (xs:=xs) (λx hx=>h x (Op _ hx)) x hx
   simp only[O3];omega
theorem Lq(h:∀r∈ba,∀x∈r,0<=x):∀r∈ba,∀x∈r,x<=tot ba:=λr a x b=>by
 have k:=ud (h r a) x b;have l:=ud (xs:=ba.map Qq) (λs hs=>by
  obtain⟨q,j,rfl⟩:=OC.mp hs;exact kG (h q j)) r.sum (OC.mpr ⟨r,a,rfl⟩)
 unfold tot;omega
structure YB (r c:Nat) (ba:LI):Prop where
 shp:k_ r c ba
 nn:∀row∈ba,∀x∈row,0<=x
 tot:tot ba<=40
 r0:1<=r
 r1:r<=4
 c0:1<=c
 c1:c<=6
theorem d7(ns:List Int):fi [.lst (ns.map D.int)]=on (.int ns.sum):=by
 show((dW (ns.map D.int)).map λl=>D.int l.sum)=_;have:∀ns:List Int,dW (ns.map D.int)=on ns:=λns=>by
  induction ns with
  |nil=>rfl
  |cons n ns ih=>simp[dW,ih]
 rw[this];rfl
theorem F_{n:Int}(a:0<=n)(h:n<=10^9):fR [.int n]=on (aZ 0 n.toNat):=by
 have q:(decide (-(2^62)<=n)&&decide (n<2^62))=On:=by
  simp only[O9,Po];omega
 show(if(decide (-(2^62)<=n)&&decide (n<2^62))=On then on (aZ 0 n.toNat)else Oi)=_;rw[OA q]
theorem HE{d:D}(h:(aZ 0 n)[k]?=on d):k<n/\d= .int (k:Int):=by
 unfold aZ at h;have a:k<n:=by
  have:=(OF.mp h).1;simpa using this
 rw[Ou,Py a]at h;exact⟨a,by cases h;simp⟩
theorem tq(n:Nat):(aZ 0 n).length=n:=by simp[aZ]
theorem bh{α:Type}{f:FD}{δ:Dn}{β:Bg}(xs:List α)(u v:α->D)(a:it δ β=on (.ok (xs.map u),β))
  (b:∀x∈xs,∃δ1,tg (u x) (lm nv dc δ)=on δ1/\f δ1 β=on (.ok (v x),β)) (j:xs.length<=OS):cf nv dc it tg (λ_=>M.ret On) (lq f) δ β=on (.ok (.lst (xs.map v)),β):=by
 refine qr a ?_ (by rw[Oh];exact j);have gen:∀xs:List α,(∀x∈xs,∃δ1,tg (u x) (lm nv dc δ)=on δ1/\f δ1 β=on (.ok (v x),β))->nw tg (λ_=>M.ret On) (lq f) (xs.map u) (lm nv dc δ) β=on (.ok (xs.map v),β):=by
  intro xs
  induction xs with
  |nil=>intro _;rfl
  |cons x xs ih=>
   intro h;obtain⟨δ1,k,l⟩:=h x Ox;have m:=ih λy n=>h y (Op _ n);rw[OG,nw];simp only[k,M.bind,M.ret,reduceIte,lq,l,m,OG,Sd,Q3]
 exact gen xs b
theorem rb{α:Type}{f:FL}{δ:Dn}{β:Bg}(xs:List α)(u:α->D)(v:α->List D)(a:it δ β=on (.ok (xs.map u),β))
  (b:∀x∈xs,∃δ1,tg (u x) (lm nv dc δ)=on δ1/\f δ1 β=on (.ok (v x),β)) (j:xs.length<=OS):ir nv dc it tg (λ_=>M.ret On) (uJ f) δ β=on (.ok (xs.map v),β):=by
 have gen:∀xs:List α,(∀x∈xs,∃δ1,tg (u x) (lm nv dc δ)=on δ1/\f δ1 β=on (.ok (v x),β))->nX tg (λ_=>M.ret On) (uJ f) (xs.map u) (lm nv dc δ) β=on (.ok (xs.map v),β):=by
  intro xs
  induction xs with
  |nil=>intro _;rfl
  |cons x xs ih=>
   intro h;obtain⟨δ1,k,l⟩:=h x Ox;have m:=ih λy n=>h y (Op _ n);rw[OG,nX];simp only[k,M.bind,M.ret,reduceIte,uJ,l,m,OG,Sd,Q3]
 unfold ir;simp only[a,gen xs b,Oh,j,PM]
theorem zX{α:Type}{f:FD}{δ:Dn}{β:Bg}(xs:List α)(u:α->D)(v:α->D)(a:it δ β=on (.ok (xs.map u),β))
  (b:∀x∈xs,∃δ1,tg (u x) (lm nv dc δ)=on δ1/\f δ1 β=on (.ok (v x),β)) (j:xs.length<=OS):eL nv dc it tg (λ_=>M.ret On) (lq f) δ β=on (.ok (xs.map v),β):=by
 have gen:∀xs:List α,(∀x∈xs,∃δ1,tg (u x) (lm nv dc δ)=on δ1/\f δ1 β=on (.ok (v x),β))->nw tg (λ_=>M.ret On) (lq f) (xs.map u) (lm nv dc δ) β=on (.ok (xs.map v),β):=by
  intro xs
  induction xs with
  |nil=>intro _;rfl
  |cons x xs ih=>
   intro h;obtain⟨δ1,k,l⟩:=h x Ox;have m:=ih λy n=>h y (Op _ n);rw[OG,nw];simp only[k,M.bind,M.ret,reduceIte,lq,l,m,OG,Sd,Q3]
 unfold eL;simp only[a,gen xs b,Oh,j,PM]
theorem KM{ds:List D}{c:Nat}(a:ds.length<=OS)(b:ds.length*c<=OS)(j:c<=1000000):tu ds (.int (c:Int))=on (OY c ds).flatten:=by
 have q:(decide (-(2^63)<=(c:Int))&&decide ((c:Int)<2^63)&&decide (ds.length<=OS)&&decide (ds.length*(c:Int).toNat<=OS))=On:=by
  simp only[O9,Po];exact⟨⟨⟨by omega,by omega⟩,a⟩,by rw[P0];exact b⟩
 unfold tu;simp only[q,PM];rw[P0]
theorem uv{α:Type}(x:α):∀c:Nat,(OY c [x]).flatten=OY c x
 |0=>rfl
 |c+1=>by rw[Qs,Rq,uv x c];rfl
theorem NF{f:FD}{g:FD}{x:D}{c:Nat}{δ:Dn}{β:Bg}(b:f δ β=on (.ok x,β))(j:g δ β=on (.ok (.int (c:Int)),β))(k:c<=1000):BZ (ag f aF) g δ β=on (.ok (OY c x),β):=by
 have a:[x].length<=OS:=by rw[PH];decide
 have l:[x].length*c<=OS:=by rw[PH,Nat.one_mul];exact bo k
 have r:=KM (ds:=[x]) (c:=c) a l (by omega);rw[uv]at r;have s:YE [x]=on [x]:=by
  unfold YE;rw[OA a]
 have m:ag f aF δ β=on (.ok [x],β):=aa b rfl;unfold BZ;rw[M.bind_ok m,s,M.bind_some,M.bind_ok j,r];rfl
theorem AA(bs:List Bool):dJ (bs.map D.bl)=on bs:=by
 induction bs with
 |nil=>rfl
 |cons b bs ih=>simp[dJ,ih]
theorem any_map{α:Type}(xs:List α)(p:α->Bool):xI [.lst (xs.map λx=>D.bl (p x))]=on (.bl (xs.any p)):=by
 show(dJ _).map _=_;rw[show(xs.map λx=>D.bl (p x))=(xs.map p).map D.bl by rw[Oy];rfl,AA];simp only[QK,WI];rfl
theorem iP{α:Type}(r:Nat)(x:α):(Oz r).map (λ_=>x)=OY r x:=by rw[List.map_const',OW]
theorem cA{xs:List D}(h:xs.length=r):eY [.lst xs]=on (.int (r:Int)):=by subst h;rfl
theorem zq{ba:List (List D)}(h:ba.length=r):eY [lG ba]=on (.int (r:Int)):=cA (by rw[Oh,h])
theorem rP{ba:List (List D)}{k:Nat}{row:List D}(h:ba[k]?=on row):la (lG ba) (.int (k:Int))=on (.lst row):=zA (by omega) (by rw[P0,Ou,h];rfl)
theorem bR{xs:List D}{k:Nat}{d:D}(h:xs[k]?=on d):la (.lst xs) (.int (k:Int))=on d:=zA (by omega) (by rw[P0];exact h)
theorem eC{x y:D}:fE [x,y]=on (.tup [x,y]):=by
 unfold fE;rw[OA (show[x,y].length<=OS by rw[OO,PH];decide)]
theorem CM:jV []=on (.lst []):=by
 unfold jV;rw[OA (show([]:List D).length<=OS by rw[VO];decide)]
theorem jY{x:D}:jV [x]=on (.lst [x]):=by
 unfold jV;rw[OA (show[x].length<=OS by rw[PH];decide)]
theorem tY{x y:Int}:tX [.int x,.int y]=on (.int (RK x y)):=by
 unfold tX;simp only;congr 2;split<;>omega
theorem CG{x y:Int}:wU [.int x,.int y]=on (.int (WN x y)):=by
 unfold wU;simp only;congr 2;split<;>omega
theorem eq_int{x y:Int}:nS (.int x) (.int y)=on (.bl (decide (x=y))):=by rw[Ob]
theorem ne_int{x y:Int}:i8 (.int x) (.int y)=on (.bl (!decide (x=y))):=by rw[Oa]
theorem mM{i:Nat}{d:D}(h:(cg 0 xs)[i]?=on d):∃x,xs[i]?=on x/\d= .tup [.int (i:Int),x]:=by
 obtain⟨x,b,a⟩:=lF h;rw[QJ]at a;exact⟨x,b,a⟩
theorem bv{α a:Type}{f:α->a}{xs:List α}{i:Nat}{d:a}(h:(xs.map f)[i]?=on d):∃x,xs[i]?=on x/\d=f x:=by
 rw[Ou]at h;cases q:xs[i]? with
 |none=>rw[q]at h;cases h
 |some x=>rw[q]at h;exact⟨x,rfl,by cases h;rfl⟩
noncomputable abbrev mH(r c:Nat):LP:=OY r (OY c (0,40))
theorem zP(r c:Nat):k_ r c (mH r c):=⟨by simp,λrow h=>by rw[(QT.mp h).2];simp⟩
noncomputable def y_{α:Type}(m:List (List α))(i j:Nat):Option α:=(m[i]?).bind λrow=>row[j]?
theorem PJ{α:Type}{m:List (List α)}{i j k l:Nat}{row:List α}{v x:α}(a:m[i]?=on row)(h:y_ (m.set i (row.set j v)) k l=on x):(k=i/\l=j/\x=v)\/(y_ m k l=on x/\¬(k=i/\l=j)):=by
 unfold y_ at h⊢;rw[Pp]at h;by_cases q:i=k
 .subst q
  rw[OA rfl]at h;split at h
  .simp only[Q9]at h
   rw[Pp]at h;by_cases w:j=l
   .subst w
    rw[OA rfl]at h;split at h
    .exact .inl ⟨rfl,rfl,(O8 h).symm⟩
    .cases h
   .rw[Ot w]at h
    exact .inr ⟨by rw[a];exact h,λz=>w z.2.symm⟩
  .cases h
 .rw[Ot q]at h
  exact .inr ⟨h,λz=>q z.1.symm⟩
theorem wb{α:Type}{m:List (List α)}{i j:Nat}{x:α}(h:y_ m i j=on x):∃row∈m,x∈row:=by
 unfold y_ at h;cases q:m[i]? with
 |none=>rw[q]at h;cases h
 |some row=>rw[q]at h;exact⟨row,OQ q,OQ h⟩
theorem lP{α:Type}{m:List (List α)}{i j:Nat}{row:List α}{x:α}(a:m[i]?=on row)(b:row[j]?=on x):y_ m i j=on x:=by unfold y_;rw[a];exact b
structure pj (p:Int×Int):Prop where
 l:0<=p.1
 m:p.1<=p.2
 h:p.2<=40
def Kp(ba:LI)(b:LP):Prop:=∀i j x p,y_ ba i j=on x->y_ b i j=on p->p.1<=x/\x<=p.2
structure u_ (r c:Nat) (b:LP):Prop where
 shp:k_ r c b
 ok:∀row∈b,∀p∈row,pj p
theorem u_.set{r c i j:Nat}{b:LP}{row:List (Int×Int)}(h:u_ r c b)(l:b[i]?=on row)(m:pj p):u_ r c (b.set i (row.set j p)):=⟨h.shp.set l,λq k x a=>by
 rcases QO k with k|rfl
 .exact h.ok q k x a
 .rcases QO a with a|rfl
  .exact h.ok row (OQ l) x a
  .exact m⟩
theorem u_.free(r c:Nat):u_ r c (mH r c):=⟨zP r c,λrow b p a=>by
 rw[(QT.mp b).2]at a;rw[(QT.mp a).2];exact⟨by decide,by decide,by decide⟩⟩
theorem YB.le40{r c:Nat}(t:YB r c ba):∀row∈ba,∀x∈row,0<=x/\x<=40:=λrow a x b=>⟨t.nn row a x b,by
 have:=Lq t.nn row a x b;have:=t.tot;omega⟩
theorem Kp.free{r c:Nat}(t:YB r c ba):Kp ba (mH r c):=λi j x p k l=>by
 obtain⟨row,m,b⟩:=wb k;obtain⟨q,n,a⟩:=wb l;rw[(QT.mp n).2]at a;rw[(QT.mp a).2];exact t.le40 row m x b
theorem Kp.set{b:LP}{i j:Nat}{row:List (Int×Int)}{p:Int×Int}{x:Int}(h:Kp ba b)(n:b[i]?=on row)(o:y_ ba i j=on x)(r:p.1<=x)(v:x<=p.2):Kp ba (b.set i (row.set j p)):=λk l y q a m=>by
 rcases PJ n m with⟨rfl,rfl,rfl⟩|⟨m,_⟩
 .rw[o]at a
  cases a;exact⟨r,v⟩
 .exact h k l y q a m
theorem JV{α:Type}{δ:Dn}{β:Bg}(xs:List α)(u:α->D)(o:α->List D)(a:it δ β=on (.ok (xs.map u),β))
  (j:∀x∈xs,∃δ1,tg (u x) (lm nv dc δ)=on δ1/\b δ1 β=on (.ok (o x),β)) (k:(xs.flatMap o).length<=OS):cf nv dc it tg (λ_=>M.ret On) b δ β=on (.ok (.lst (xs.flatMap o)),β):=by
 refine qr a ?_ k;have gen:∀xs:List α,(∀x∈xs,∃δ1,tg (u x) (lm nv dc δ)=on δ1/\b δ1 β=on (.ok (o x),β))->nw tg (λ_=>M.ret On) b (xs.map u) (lm nv dc δ) β=on (.ok (xs.flatMap o),β):=by
  intro xs
  induction xs with
  |nil=>intro _;rfl
  |cons x xs ih=>
   intro h;obtain⟨δ1,l,m⟩:=h x Ox;have n:=ih λy p=>h y (Op _ p);rw[OG,nw];simp only[l,M.bind,M.ret,reduceIte,m,n,PL]
 exact gen xs j
theorem yZ{α:Type}{f:FD}{δ:Dn}{β:Bg}(xs:List α)(u v:α->D)(a:it δ β=on (.ok (xs.map u),β))
  (b:∀x∈xs,∃δ1,tg (u x) δ=on δ1/\f δ1 β=on (.ok (v x),β)):YH it tg (λ_=>M.ret On) (lq f) δ β=on (.ok (xs.map v),β):=by
 have gen:∀xs:List α,(∀x∈xs,∃δ1,tg (u x) δ=on δ1/\f δ1 β=on (.ok (v x),β))->nw tg (λ_=>M.ret On) (lq f) (xs.map u) δ β=on (.ok (xs.map v),β):=by
  intro xs
  induction xs with
  |nil=>intro _;rfl
  |cons x xs ih=>
   intro h;obtain⟨δ1,j,k⟩:=h x Ox;have l:=ih λy m=>h y (Op _ m);rw[OG,nw];simp only[j,M.bind,M.ret,reduceIte,lq,k,l,OG,Sd,Q3]
 unfold YH;rw[M.bind_ok a];exact gen xs b
theorem g9{α a:Type}(u:α->D)(v:a->D):∀(xs:List α) (ys:List a),c9 (xs.map u) (ys.map v)=(xs.zip ys).map λp=>D.tup [u p.1,v p.2]
 |[],ys=>by simp[c9]
 |x::xs,[]=>by simp[c9]
 |x::xs,y::ys=>by simp[c9,g9 u v xs ys]
theorem DQ{xs:List D}(h:0<xs.length):iw xs Oi (on (-1))=xs.dropLast:=by
 unfold iw HT.sIx;simp;rw[WP];congr 1;omega
theorem kh{xs:List D}{k:Nat}:iw xs (on (k:Int)) Oi=xs.drop k:=by
 unfold iw;rw[HT.sIx_none,HT.sIx_nat];by_cases h:k<=xs.length
 .rw[show RK k xs.length=k by omega]
  rw[Q8 (by rw[Sf];omega)]
 .rw[RB (by omega),RB (by omega)]
  simp
theorem iC{f g:FD}{δ:Dn}{β:Bg}(a:f δ β=on (.ok (.lst xs),β))(b:g δ β=on (.ok (.int k),β)):Z9 f (on g) Oi δ β=on (.ok (.lst (iw xs (on k) Oi)),β):=by
 unfold Z9 j9;simp only[M.bind,a,b,M.ret,M.ofO,uM,slD]
theorem mS{xs ys:List D}(h:xs.length+ys.length<=1000):jd (.lst xs) (.lst ys)=on (.lst (xs++ys)):=by
 unfold jd;simp only;rw[OA (bo h)]
def jB:List D->List Ov->Prop
 |[],[]=>True
 | .int i::ds,.int j _::vs=>i=j/\jB ds vs
 | .str x::ds,.str y _::vs=>x=y/\jB ds vs
 | .bl x::ds,.bool y::vs=>x=y/\jB ds vs
 | .non::ds,.none::vs=>jB ds vs
 |_,_=>False
theorem gm{K:OU}:∀{ds:List D} {vs:List Ov},jB ds vs->∃xs,au xs vs/\∀F H,bb K F H ds xs
 |[],[],_=>⟨[],.nil,λ_ _=>bb.nil⟩
 | .int i::ds,.int j t::vs,h=>by
  obtain⟨e,h⟩:=h;subst e;obtain⟨xs,a,b⟩:=gm (K:=K) h;exact⟨.int i::xs,.cons ⟨t,rfl⟩ a,λF H=>bb.cons rfl (b F H)⟩
 | .str i::ds,.str j t::vs,h=>by
  obtain⟨e,h⟩:=h;subst e;obtain⟨xs,a,b⟩:=gm (K:=K) h;exact⟨.str i::xs,.cons ⟨t,rfl⟩ a,λF H=>bb.cons rfl (b F H)⟩
 | .bl i::ds,.bool j::vs,h=>by
  obtain⟨e,h⟩:=h;subst e;obtain⟨xs,a,b⟩:=gm (K:=K) h;exact⟨.bl i::xs,.cons rfl a,λF H=>bb.cons rfl (b F H)⟩
 | .non::ds,.none::vs,h=>by
  obtain⟨xs,a,b⟩:=gm (K:=K) (ds:=ds) (vs:=vs) h;exact⟨.non::xs,.cons rfl a,λF H=>bb.cons rfl (b F H)⟩
def YX(K:OU)(d:D)(u:Ov):Prop:=∃v,aI v u/\∀F H,c4 K F H d v
theorem lX{K:OU}{i:Int}{t:Tok}:YX K (.int i) (.int i t):=⟨.int i,⟨t,rfl⟩,λ_ _=>rfl⟩
theorem IH{K:OU}{q3:Array Ov}(a:K.lookup p=on ⟨q1,q2,.seq q3 q4,q5⟩)(b:q1= .type "tuple")(j:q3.size<=OS)(k:jB ds q3.toList):YX K (.tup ds) (.ref p):=by
 obtain⟨xs,l,m⟩:=gm (K:=K) k;exact⟨.ref p,rfl,λF H=>⟨p,xs,rfl,.inr ⟨_,q3,q4,a,b,rfl,j,l⟩,m F H⟩⟩
theorem pL{K:OU}{mg:Pj->Option Ov}{x:Pj}{d:D}{u:Ov}(h:mg x=on u)(v:YX K d u):mT K mg x d:=let ⟨w,h1,h2⟩:=v;⟨u,w,h,h1,h2⟩
theorem LV{K:OU}{ps:List Pj}{us:List Ov}(n:Nat)(l:ps.length=n+us.length)(b:∀(s:OB) (vs:List Ov),K.In s.heap->vs.length=n->Vm s fd ⟨vs,[]⟩ (ps.zip (vs++us)))(h:∃vs,au vs us/\∀F H,bb K F H dd vs):dE K fd ps dd:=
 let ⟨vs,h1,h2⟩:=h
 ⟨us,vs,λs a j k=>b s a j (by rw[ON]at k;omega),h1,h2⟩
theorem LT{K:OU}:∃vs,au vs []/\∀F H,bb K F H [] vs:=⟨[],.nil,λ_ _=>bb.nil⟩
theorem JT{K:OU}{d:D}{u:Ov}(v:YX K d u)(h:∃vs,au vs us/\∀F H,bb K F H ds vs):∃vs,au vs (u::us)/\∀F H,bb K F H (d::ds) vs:=by
 obtain⟨w,a,b⟩:=v;obtain⟨vs,j,k⟩:=h;exact⟨w::vs,.cons a j,λF H=>bb.cons (b F H) (k F H)⟩
inductive KX (K:OU):List (Sr D)->List (Sr Ov)->Prop where
 |nil:KX K [] []
 |kw {j:Nat} {a:List (Sr D)} {c:List (Sr Ov)}:KX K a c->KX K (.kw j::a) (.kw j::c)
 |df {x:D} {y:Ov} {a:List (Sr D)} {c:List (Sr Ov)}:YX K x y->KX K a c->KX K (.df x::a) (.df y::c)
theorem KX.mid{K:OU}:∀{a:List (Sr D)} {c:List (Sr Ov)},KX K a c->∃b:List (Sr V),lQ aI b c/\lQ (λd v=>∀F H,c4 K F H d v) a b
 |_,_,.nil=>⟨[],.nil,.nil⟩
 |_,_,.kw (j:=j) h=>let ⟨b,h1,h2⟩:=KX.mid h;⟨.kw j::b,.kw h1,.kw h2⟩
 |_,_,.df v h=>let ⟨b,h1,h2⟩:=KX.mid h;let ⟨w,g1,g2⟩:=v;⟨.df w::b,.df g1 h1,.df g2 h2⟩
theorem NU{K:OU}{ps ks:List Pj}{src:List (Sr D)}{sv:List (Sr Ov)}(h:KX K src sv)(j:ps.length=n+src.length)(k:0<ps.length)(b:∀(s:OB) (us a:List Ov),K.In s.heap->us.length=n->a.length=ks.length->Vm s fd ⟨us,ks.zip a⟩ (ps.zip (us++sv.map (Sr.pick .none a)))):D_ K fd ps ks n src:=
 ⟨let ⟨sx,h1,h2⟩:=h.mid;⟨sv,sx,h1,h2,b⟩,j,k⟩
variable{X:Cx}{E:St->XK}{K:OU}{st:Qe}
end
section
variable{h:G}{δ:Ds}{β β1 β2 β3:Bg}{Q:tx->Bg->Prop}{i:Nat}{fa fb fv:FD}{fl:FL}{d d0 d1:D}{ds:List D}{op:D->D->Option D}
theorem M3{δ:Dn}{β β1:Bg}(a:t δ β=on (.ok On,β1))(b:f δ β1=on r):YG t f g δ β=on r:=by
 unfold YG M.bind;rw[a];exact b
theorem M4{δ:Dn}{β β1:Bg}(a:t δ β=on (.ok Os,β1))(b:g δ β1=on r):YG t f g δ β=on r:=by
 unfold YG M.bind;rw[a];exact b
theorem n5{d:D}{δ:Dn}{β:Bg}(e:δ.getD n Oi=on d):ah n δ β=on (.ok d,β):=by unfold ah;rw[e];rfl
end
section
variable{β β1 β2:Bg}{f g h:FD}{δ:Dn}{x y z:Int}
theorem o6{K:OU}{f:Pj}:∀{ns:List Pj} {ds:List D} {xs:List V},bb K F H ds xs->(ns.zip ds).lookup f=on d->∃v,(ns.zip xs).lookup f=on v/\c4 K F H d v
 |[],ds,xs,h,e=>by simp at e
 |n::ns,[],xs,h,e=>by simp at e
 |n::ns,c::ds,xs,h,e=>by
  obtain⟨x,r,q,a,b⟩:=h;subst q;rw[QU,Uu]at e⊢;split at e
  .rename_i z
   cases e;exact⟨x,rfl,a⟩
  .rename_i z
   exact o6 b e
theorem qS{α:Type}:∀{ns:List Pj} {xs:List α},m∉ns->(ns.zip xs).lookup m=Oi
 |[],xs,_=>by simp
 |n::ns,[],_=>by simp
 |n::ns,x::xs,h=>by
  rw[QU,Uu];have a:m≠n:=λz=>h (by rw[z];exact Ox);have b:m∉ns:=λz=>h (Op _ z);rw[show(m==n)=Os by simpa using a];exact qS b
theorem dE.nil{K:OU}(b:aC K fd ps []):dE K fd ps []:=⟨[],[],b,.nil,λ_ _=>bb.nil⟩
end
section
variable{X:Cx}{E:St->XK}{o e:Expr}{es:List Expr}{pos p apos kpos:TD}{x m:Pj}{k n:Nat}{f C:Oq}{fd:O5}{ps ks:List Pj}{kws:List Vo}
noncomputable def xw(C:Oq)(f:Pj):D->Option D
 | .obj C' ns ds=>if C'=C then(ns.zip ds).lookup f else Oi
 |_=>Oi
theorem l3{f:Pj}(c:ri X.K C)(n:dH X.K C f)(j:PE X e (tV X.K g E))(l:SJ e f X.env (PZ e X.env)=PZ e X.env:=by rfl):PE X (.Attribute e f pos) (tV X.K (f1 (xw C f) g) E):=
 (K5 j l).imp λL H Q i=>lk i λF δ β fr q h=>⟨F,δ,β,fr,q,(run.bind (R:=c4 X.K F) h).mono λv r i=>by
  obtain⟨d,β1,t,hd,r1⟩:=i;obtain⟨d3,b,k⟩:=run.ofO r1;cases d<;>first|cases b|skip
  rename_i u ns ds;unfold xw at b;simp only at b;split at b
  .rename_i z
   subst z;unfold c4 at hd;obtain⟨a,y,xs,rfl,N,A,O,B⟩:=hd;obtain⟨w,I,J⟩:=o6 B b;exact⟨a,u,y,_,w,rfl,A,c,n,I,k w r (To.refl t.fr) J⟩
  .cases b⟩
def mI{α:Type}(C:Oq)(m:Pj)(a:List D->M α)(b:FD)(g:FL)(c:List D):Dn->M α:=λδ=>M.bind (b δ) λd=>match d with
 | .obj C' ns _=>if C'=C/\m∉ns then M.bind (g δ) λas=>a (d::(as++c))else M.fail
 |_=>M.fail
def Y7{α:Type}(K:OU)(T:Fx->Hp->Hp->α->V->Prop)(n:Nat)(m:List D->M α):Sp:=λvs H Q E=>vs.length=n/\∃F ds β,Fr F H β/\bb K F H ds vs/\run (T F H) F (λ_=>E) [] (m ds) H Q β
theorem nK{α:Type}{T:Fx->Hp->Hp->α->V->Prop}{U:List D->M α}{W:FD}{g:FL}{j:List D}{K:OU}{b:List V}{l:St}{H:Hp}{Q:VK}(hT:∀{F H q u β d v},To F H q β->T F q u d v->T F H u d v)(rd:∀F H,bb K F H j b)(hn:∀δ β r c,g δ β=on (.ok r,c)->r.length+j.length+1=n)(h:∃F δ β,Fr F H β/\j2 K F H δ l/\run (T F H) F E l (mI C m U W g j δ) H Q β):wu C m (Y7 K T n U) b E (tV K W E) (j1 K g E) l H Q:=by
 obtain⟨F,δ,β,fr,Y,h⟩:=h;refine⟨F,δ,β,fr,Y,(run.bind (R:=c4 K F) h).mono λv q h_=>o0 h_ λd β1 t hd r1=>?_⟩;have fail:∀{y:M α},y=M.fail->run (T F H) F E l y q Q β1->False:=λ{y} e r=>by
  obtain⟨r,c,Z,_⟩:=r;rw[e]at Z;cases Z
 cases d<;>first|exact(fail rfl r1).elim|skip
 rename_i C' ns ds;simp only at r1;split at r1
 .rename_i z
  obtain⟨rfl,hm⟩:=z;have A:=hd;unfold c4 at hd;obtain⟨a,dx,xs,rfl,h1,h2,h3,B⟩:=hd;refine⟨a,dx,_,rfl,h2,qS hm,F,δ,β1,t.fr,Y.tr (t.tr fr),?_⟩;obtain⟨r0,I,e0,h0⟩:=run.bind (R:=bb K F) r1;refine⟨r0,I,e0,?_⟩;cases r0 with
  |error C=>exact h0
  |ok as=>
   intro vs J t2 i;obtain⟨d',β2,L,N,r3⟩:=h0 vs J t2 i;have hl:=hn _ _ _ _ e0;have hz:=(rd F J).length;refine⟨by rw[OO,ON,<-i.length,<-hz,hl],F,_::(d'++j),β2,L.fr,bb.cons (c4.tr (L.tr t.fr) _ _ A) (bb.append N (rd F J)),?_⟩;obtain⟨r4,O,e4,B⟩:=r3;refine⟨r4,O,e4,?_⟩;cases r4 with
   |error C=>exact B
   |ok d=>exact λv u t5 hv=>B v u t5 (hT (t.trans L) hv)
 .exact(fail rfl r1).elim
theorem oo{a:List D}(c:ri X.K C)(hm:pq X.K C m f)(G:fw X.prog X.w X.K X.mg X.base (hO X.prog X.w) k f fd ps (F3 X.K n mf))(l:en k X.A)(q:dE X.K fd ps a)(t:cK (hO X.prog X.w) X E)
  (u:PE X o (tV X.K fo E)) (ha:PA X (e::es) (j1 X.K g E)) (hn:∀δ β r j,g δ β=on (.ok r,j)->r.length+a.length+1=n)
  (d:OJ (e::es) X.env=(Os,PZ e X.env)::OJ es X.env:=by rfl) (i:(QX pos (OJ es X.env)).any (·.1)=Os:=by rfl)
  (v:PZ (.Call (.Attribute o m apos) (e::es) [] pos) X.env=(do
   let ov <-PZ o X.env
   Si apos.atName
   let (f,first) <-SN [ov] (UL ov m pl)
   W1 pos f first (QX pos (OJ (e::es) X.env)) (RI pos (QD [] X.env))):=by rfl):
  PE X (.Call (.Attribute o m apos) (e::es) [] pos) (tV X.K (mI C m mf fo g a) E):=by
 obtain⟨ds,y,b,B,rd⟩:=q;exact(vq (pl:=pl) u c hm G l b B t ha d i v).imp λI H Q h=>nK (T:=λF _=>c4 _ F) (λ_ z=>z) rd hn h
theorem II{d:List D}(c:ri X.K C)(hm:pq X.K C m f)(G:fw X.prog X.w X.K X.mg X.base (hO X.prog X.w) k f fd ps (F3 X.K n mf))(i:en k X.A)(j:dE X.K fd ps d)(l:cK (hO X.prog X.w) X E)
  (q:PE X o (tV X.K fo E)) (hn:d.length+1=n)
  (t:PZ (.Call (.Attribute o m apos) [] [] pos) X.env=(do
   let ov <-PZ o X.env
   Si apos.atName
   let (f,first) <-SN [ov] (UL ov m pl)
   W1 pos f first (QX pos (OJ [] X.env)) (RI pos (QD [] X.env))):=by rfl):
  PE X (.Call (.Attribute o m apos) [] [] pos) (tV X.K (mI C m mf fo aF d) E):=by
 obtain⟨ds,u,b,y,rd⟩:=j;refine(BT (pl:=pl) q c hm G i b y l t).imp λW H Q h=>?_;obtain⟨F,δ,β,fr,B,h⟩:=nK (T:=λF _=>c4 _ F) (λ_ z=>z) rd (λδ β r I e=>by cases e;simpa using hn) h;refine⟨F,δ,β,fr,B,h.mono λv Y ⟨a,J,fs,L,ha,N,Z,O,β2,g,R,U⟩=>⟨a,J,fs,L,ha,N,?_⟩⟩;exact run.ret g U bb.nil
structure Zl (F:Fx) (x:Oq) (H H':Hp) (β':Bg):Prop where
 kp:∀a o,a≠x->H a=on o->(∀b l,F.bg=on (b,l)->a≠b/\a≠l)->H' a=on o
 fr:Fr F H' β'
def Y8(K:OU)(C:Oq)(ns:List Pj)(n:Nat)(g:List D->M (List D)):Sp:=λvs H Q E=>∃x rest F ds β d,vs= .ref x::rest/\rest.length=n/\Fr F H β/\F.A x/\(∀b l,F.bg=on (b,l)->x≠b/\x≠l)/\H x=on (.ins C d [])/\bb K F H ds rest/\
 ∃r a,g ds β=on (r,a)/\match r with
  | .ok es=>∀c xs,Zl F x H c a->c x=on (.ins C d (ns.zip xs))->ns.length=xs.length->bb K F c es xs->Q .non c
  | .error Ce=>∀c,Zl F x H c a->E (.ref Ce) Oi c
variable{ns:List Pj}
theorem CH{K:OU}{vs:List V}(fr:Fr F H2 β2)(R:vs.length=n)(hd:bb K F H2 ds vs)(r:run (c4 K F) F E σ (M.bind (mi ds) λfs=>M.ret (.obj C ns fs)) H2 Q β2):
  ∀x c,H2 x=Oi->H2 c=Oi->c≠x->Y8 K C ns n mi (.ref x::vs) (upd (upd H2 c (.own x)) x (.ins C c [])) (λv T=>v= .non/\Q (.ref x) T) (E σ):=by
 intro x c H I ne;have J:¬F.A x:=fr.fresh H;have same:bG H2 (upd (upd H2 c (.own x)) x (.ins C c [])):=λa o h=>by
  rw[b_ (aw h H),b_ (aw h I)];exact h
 have t:=fr.same same;have L:Fr (F.but x) (upd (upd H2 c (.own x)) x (.ins C c [])) β2:=⟨λa ha z=>(by
  rcases ha with ha|ha
  .exact t.fr.occ a ha z
  .subst ha;rw[aj]at z;cases z),λb l q=>let ⟨z1,z2,z3⟩:=fr.bgA b l q;⟨.inl z1,.inl z2,z3⟩,t.fr.bag⟩
 have U:∀b l,F.bg=on (b,l)->x≠b/\x≠l:=λb l q=>⟨λz=>J (z▸(fr.bgA b l q).1),λz=>J (z▸(fr.bgA b l q).2.1)⟩;have N:Tr F H2 (F.but x) (upd (upd H2 c (.own x)) x (.ins C c [])):=⟨λa W Y z=>by
  rcases z with z|z
  .exact W z
  .subst z;exact Y H,λa o _ h=>same a o h,rfl⟩
 obtain⟨Z,d,g,h⟩:=r;refine⟨x,vs,F.but x,ds,β2,c,rfl,R,L,.inr rfl,U,aj,bb.tr N _ _ hd,?_⟩;have u:∀{i:Hp} {d:Bg},Zl (F.but x) x (upd (upd H2 c (.own x)) x (.ins C c [])) i d->To F H2 i d:=λ{i d} j=>⟨λa o ha n=>j.kp a o (aw ha H) (same a o ha) n,⟨λa ha=>j.fr.occ a (.inl ha),fr.bgA,j.fr.bag⟩⟩;cases q:mi ds β2 with
 |none=>unfold M.bind at g;rw[q]at g;cases g
 |some z=>
  obtain⟨r1,β1⟩:=z;refine⟨r1,β1,rfl,?_⟩;cases r1 with
  |error Ce=>
   rw[M.bind_err q]at g;cases g;exact λi j=>h i (u j)
  |ok fs=>
   rw[M.bind_ok q]at g;cases g;refine λi xs j O y B=>⟨rfl,h (.ref x) i (u j) ⟨x,c,xs,rfl,J,O,y,bb.tr Fx.tr_of _ _ B⟩⟩
def zQ(C:Oq)(ns:List Pj)(a:List D->M (List D))(g b:FL)(src:List (Sr D)):FD:=λδ=>M.bind (g δ) λas=>M.bind (b δ) λks=>M.bind (a (as++src.map (Sr.pick .non ks))) λfs=>M.ret (.obj C ns fs)
def Kg(C:Oq)(sp:Sp)(d:List V->List V->List V)(E:St->XK)(t g:TA):TE:=λb H Q=>t b H λvs h=>g b h λi c=>∀x a,c x=Oi->c a=Oi->a≠x->
 sp (d (.ref x::vs) i) (upd (upd c a (.own x)) x (.ins C a [])) (λv j=>v= .non/\Q (.ref x) j) (E b)
theorem BU(M:Mk X.K C f)(F:fw X.prog X.w X.K X.mg X.base CX k f fd ps sp)(U:en (k+1) X.A)(Y:Gl X x)(hm:X.mg x=on (.ref C))(O:E_ X.K fd ps ks g gV)(Z:cK CX X E)
  (ha:PA X (e::es) t) (B:PK X kws tk) (i:(RI pos (QD kws X.env)).all (·.1.isSome)=On:=by rfl) (J:(RI pos (QD kws X.env)).filterMap (·.1)=ks:=by rfl)
  (L:(x==("__debug__":Pj))=Os:=by decide) (he:OJ (e::es) X.env=(Os,PZ e X.env)::OJ es X.env:=by rfl)
  (N:((QX pos (OJ (e::es) X.env)).any (·.1)||(RI pos (QD kws X.env)).any (·.1.isNone))=Os:=by rfl):
  PE X (.Call (.Name x p) (e::es) kws pos) (Kg C sp gV E t tk):=by
 intro a s l H Q I h;refine Uq (qi I Y hm ?_ L);refine PySem.W.callWith_KW (h₀:=X.base) I.ok.mod.kin M.kp i (e_ (ha pos a s l H _ I h) λus s1 ⟨vs,H1,I1,r,q⟩=>?_) N he;refine e_ (B pos a s1 l H1 _ I1 q) λd c ⟨zs,H2,j,rz,q2⟩=>⟨j.kIn,?_⟩;rw[J];have R:=q2 (c.heap.objs.size+1) c.heap.objs.size (j.hok.fresh (Ui _)) (j.hok.fresh (OD _)) (Pr (VD _));have y:=dk.made (C:=C) j;have T:=O.rel (.cons (show aI (V.ref (c.heap.objs.size+1)) (OM (c.heap.objs.size+1))from rfl) r) rz;have hl:(g (OM (c.heap.objs.size+1)::us) d).length=ps.length:=by rw[<-T.length];exact F.len _ _ _ _ R
 refine wpAny_call (CI (f:=f) j.kIn M.makes M.init (beq_iff_eq.mp M.fn) (Ud (F.run _ X.stack _ _ ⟨OM (c.heap.objs.size+1)::us,ks.zip d⟩ (g (OM (c.heap.objs.size+1)::us) d) _ _ (E l) (U.make C us (ks.zip d))
  (y.env0.make C us (ks.zip d)) (O.to _ (OM (c.heap.objs.size+1)::us) d y.kIn hl) T R) λr s' b=>?_))
 cases r with
 |error e=>exact Z a l _ _ e s' y b
 |ok fl=>
  cases fl with
  |ret u=>
   obtain⟨v,H',I4,rv,ev,q4⟩:=y.after b;subst ev;exact⟨rv,⟨V.ref (c.heap.objs.size+1),H',I4,rfl,q4⟩⟩
  |next=>exact Rf b
  |brk=>exact Rf b
  |cont=>exact Rf b
theorem IJ{src:List (Sr D)}(Mm:Mk X.K C f)(G:fw X.prog X.w X.K X.mg X.base (hO X.prog X.w) k f fd ps (Y8 X.K C ns n mi))(hr:en (k+1) X.A)(hg:Gl X x)(hm:X.mg x=on (.ref C))(hb:D_ X.K fd ps ks (n1+1) src)(hx:cK (hO X.prog X.w) X E)
  (ha:PA X (e::es) (j1 X.K g E)) (c:PK X kws (j1 X.K gk E)) (hn:∀δ β r a,g δ β=on (.ok r,a)->r.length=n1) (d:∀δ β r a,gk δ β=on (.ok r,a)->r.length=ks.length) (h3:n1+src.length=n)
  (b:(RI pos (QD kws X.env)).all (·.1.isSome)=On:=by rfl) (h:(RI pos (QD kws X.env)).filterMap (·.1)=ks:=by rfl)
  (i:(x==("__debug__":Pj))=Os:=by decide) (he:OJ (e::es) X.env=(Os,PZ e X.env)::OJ es X.env:=by rfl)
  (j:((QX pos (OJ (e::es) X.env)).any (·.1)||(RI pos (QD kws X.env)).any (·.1.isNone))=Os:=by rfl):
  PE X (.Call (.Name x p) (e::es) kws pos) (tV X.K (zQ C ns mi g gk src) E):=by
 obtain⟨sv,J,rd,kb⟩:=hb.kb;refine(BU Mm G hr hg hm kb hx ha c b h i he j).imp λσ H Q h_=>lk h_ λF δ β fr L r=>⟨F,δ,β,fr,L,?_⟩;obtain⟨r0,l,N,O⟩:=run.bind (R:=bb X.K F) r;refine⟨r0,l,N,?_⟩;cases r0 with
 |error C=>exact O
 |ok as=>
  intro vs H1 t hd;obtain⟨d',β1,q,u,r1⟩:=O vs H1 t hd;refine⟨F,δ,β1,q.fr,L.tr (q.tr fr),?_⟩;obtain⟨T,β2,U,W⟩:=run.bind (R:=bb X.K F) r1;refine⟨T,β2,U,?_⟩;cases T with
  |error C=>exact W
  |ok bs=>
   intro v Y t2 Z;obtain⟨d2,β3,t3,B,r3⟩:=W v Y t2 Z;have l1:=hn _ _ _ _ N;have l2:=d _ _ _ _ U;have I:bb X.K F Y d' vs:=bb.tr (t3.tr q.fr) _ _ u;intro y dx;have g1:gK V.non (n1+1) ks.length J (.ref y::vs) v= .ref y::(vs++J.map (Sr.pick .non v)):=OA ⟨by rw[OO,<-hd.length,l1],by rw[<-Z.length,l2]⟩;rw[g1];exact CH t3.fr (by rw[ON,Oh,<-hd.length,l1,<-rd.len,h3]) (bb.append I (lQ.den B rd)) r3 y dx
abbrev IP:=Ds->List D->Bg->Option (Except Oq (List D)×Bg)
noncomputable def HZ:IP:=λ_ done β=>on (.ok done,β)
noncomputable def mD(g:G)(a:IP):IP:=λδ done β=>match g δ β with
 |some (.nx δ1,β1)=>match δ[0]?,δ1[0]? with
  |some (on (Sl.sh (D.adr x))),on (on (Sl.sh (D.adr y)))=>if x=y then a δ1 done β1 else Oi
  |_,_=>Oi
 |some (.ex C _,β1)=>on (.error C,β1)
 |_=>Oi
def iR(f:FD)(a:IP):IP:=λδ done β=>match f (vw δ) β with
 |some (.ok d,β1)=>a δ (done++[d]) β1
 |some (.error C,β1)=>on (.error C,β1)
 |none=>Oi
structure ot (x:Oq) (B:Ow) (H:Hp) (B':Ow) (H':Hp):Prop where
 kp:∀a o,a≠x->H a=on o->(B a=Oi\/B a=on 0)->H' a=on o
 tg:∀a,B a=on 0\/B a=on 1->B' a=B a
 nn:∀a o,a≠x->H a=on o->B a=Oi->B' a=Oi
 al:∀a,H a≠Oi->H' a≠Oi
end
theorem hY.x{x:Oq}{B b:Ow}{H c:Hp}(s:hY B H b c):ot x B H b c:=⟨λa o _=>s.kp a o,s.tg,λa o _=>s.nn a o,s.al⟩
theorem ot.trans(a:ot x B H B1 H1)(b:ot x B1 H1 B2 H2):ot x B H B2 H2:=by
 refine⟨λc o ne h n=>b.kp c o ne (a.kp c o ne h n) ?_,λc h=>?_,λc o ne h n=>b.nn c o ne (a.kp c o ne h (.inl n)) (a.nn c o ne h n),λc h=>b.al c (a.al c h)⟩
 .rcases n with n|n
  .exact .inl (a.nn c o ne h n)
  .exact .inr ((a.tg c (.inl n)).trans n)
 .have e:=a.tg c h
  rw[<-e]at h;exact(b.tg c h).trans e
def jC(K:OU)(bg:Option (Oq×Oq))(E:St->XK)(Dn:pw)(B:Ow)(H:Hp)(x C e:Oq)(all:List Pj)(r:Except Oq (List D))(d:Bg):Prop:=match r with
 | .ok ds=>∀b c a vs,ot x B H c a->Fr (eo c bg) a d->a x=on (.ins C e (all.zip vs))->all.length=vs.length->bb K (eo c bg) a ds vs->Dn.nx b a
 | .error Ce=>∀b c a,ot x B H c a->Fr (eo c bg) a d->E b (.ref Ce) Oi a
theorem jC.pre{K:OU}{E:St->XK}{Dn:pw}(s:ot x B H B1 H1)(h:jC K bg E Dn B H x C dx all r β'):jC K bg E Dn B1 H1 x C dx all r β':=by
 cases r with
 |ok ds=>exact λa b c vs t=>h a b c vs (s.trans t)
 |error d=>exact λa b c t=>h a b c (s.trans t)
def tI(K:OU)(H₀:Hp)(C:Oq)(a names:List Pj)(f:IP)(E:St->XK):TS:=λDn g H=>∃B bg δ β x e b c r d,gs K H₀ B bg H δ β g/\δ[0]?=on (on (.sh (.adr x)))/\B x=on 0/\H x=on (.ins C e (a.zip b))/\a.length=b.length/\bb K (eo B bg) H c b/\f δ c β=on (r,d)/\jC K bg E Dn B H x C e (a++names) r d
theorem qQ:∀{ns:List Pj} {vs:List V},ns.length=vs.length->f∉ns->db f y (ns.zip vs)=(ns++[f]).zip (vs++[y])
 |[],[],_,_=>rfl
 |n::ns,v::vs,h,hf=>by
  have a:¬n=f:=λz=>hf (by rw[z];exact Ox);show(if n=f then(n,y)::ns.zip vs else(n,v)::db f y (ns.zip vs))=_;rw[Ot a,qQ (by simpa using h) λz=>hf (Op _ z)];rfl
 |[],_::_,h,_=>by simp at h
 |_::_,[],h,_=>by simp at h
theorem gs.upd0{K:OU}(ok:gs K H₀ B bg H δ β σ)(g:B x=on 0):gs K H₀ B bg (upd H x o) δ β σ/\ot x B H B (upd H x o):=by
 have al:∀c,H c≠Oi->upd H x o c≠Oi:=λc f=>by
  by_cases z:c=x
  .subst z;rw[aj];simp
  .rw[b_ z];exact f
 have t:∀b l,bg=on (b,l)->b≠x/\l≠x:=λb l e=>by
  obtain⟨b1,b2⟩:=ok.bgt b l e;exact⟨λz=>(by rw[z,g]at b1;cases b1),λz=>(by rw[z,g]at b2;cases b2)⟩
 have tr:Tr (eo B bg) H (eo B bg) (upd H x o):=⟨λ_ h _=>h,λc u f e=>by
  rw[b_]
  .exact e
  .intro z;subst z;exact f (by show B c≠Oi;rw[g];simp),rfl⟩
 refine⟨⟨⟨λc f=>al c (ok.fr.occ c f),ok.fr.bgA,λb l e=>?_⟩,ok.bgt,ok.len,λc f=>al c (ok.cov c f),ok.new,λc k f=>?_,λi s e=>?_⟩,λc u ne h _=>by rw[b_ ne];exact h,λ_ _=>rfl,λ_ _ _ _ n=>n,al⟩
 .obtain⟨A,C⟩:=ok.fr.bag b l e
  obtain⟨F,I⟩:=t b l e;exact⟨by rw[b_ F];exact A,by rw[b_ I];exact C⟩
 .exact(ok.lst c k f).imp λo h=>by rw[b_];exact h;intro z;subst z;rw[g]at f;cases f
 .obtain⟨v,J,j⟩:=ok.tell i s e
  refine⟨v,J,?_⟩;cases s with
  |sh d=>exact c4.tr tr _ _ j
  |own ds=>
   obtain⟨a,xs,rfl,hB,ha,hd⟩:=j;exact⟨a,xs,rfl,hB,(by rw[b_];exact ha;intro z;subst z;rw[g]at hB;cases hB),bb.tr tr _ _ hd⟩
  |grd ba=>
   obtain⟨a,rs,rfl,hB,ha,nd,L⟩:=j;refine⟨a,rs,rfl,hB,(by rw[b_];exact ha;intro z;subst z;rw[g]at hB;cases hB),nd,ee.tr tr L λr xs _ p q=>⟨p,?_⟩⟩;rw[b_]
   .exact q
   .intro z;subst z
    have m:B r=on (i+2):=p;rw[g]at m;cases m
  |odc b ks vs=>
   obtain⟨a,rfl,hB,N⟩:=j;exact⟨a,rfl,hB,N.tr tr λo z=>by rw[b_];exact z;intro y;subst y;rw[g]at hB;cases hB⟩
section
variable{X:Cx}{E:St->XK}{st:Qe}{sts:List Qe}{C:Oq}{ns0 names:List Pj}{ip:IP}
theorem N1:PSs X [] (tI X.K X.H₀ C ns0 [] HZ E):=ml.imp λDn b H c=>by
 obtain⟨B,bg,δ,β,x,i,a,d,r,f,ok,j,l,g,h,hd,e,k⟩:=c;cases e;rw[Pf]at k;exact k b B H a (hY.refl B H).x ok.fr g h hd
theorem Im(m:PS X st (tG X.K X.H₀ g E))(n:PSs X sts (tI X.K X.H₀ C ns0 names ip E)):PSs X (st::sts) (tI X.K X.H₀ C ns0 names (mD g ip) E):=(cm m n).imp λDn y H o=>by
 obtain⟨B,bg,δ,β,x,p,c,d,r,f,ok,q,h,t,u,hd,e,k⟩:=o;unfold mD at e;split at e
 .rename_i δ1 β1 i
  split at e
  .rename_i A F q1 q2
   split at e
   .rename_i z
    subst z;rw[q]at q1;cases q1;refine⟨B,bg,δ,β,.nx δ1,β1,ok,i,λb j l s a=>?_⟩;exact⟨j,bg,δ1,β1,x,p,c,d,r,f,a,q2,(s.tg x (.inl h)).trans h,s.kp x _ t (.inr h),u,bb.tr s.tr _ _ hd,e,jC.pre s.x k⟩
   .cases e
  .cases e
 .rename_i v δ1 β1 i
  cases e;exact⟨B,bg,δ,β,.ex v δ1,_,ok,i,λb j l s a=>k b j l s.x a.fr⟩
 .cases e
theorem rR(c:ri X.K C)(n:dH X.K C f)(Q:f∉ns0)(L:ns0.length<1000)(R:PS X st (KD X.K (jI 0) (tV X.K fv E) f))(T:PSs X sts (tI X.K X.H₀ C (ns0++[f]) names ip E)):PSs X (st::sts) (tI X.K X.H₀ C ns0 (f::names) (iR fv ip) E):=(cm R T).imp λDn U H W=>by
 obtain⟨B,bg,δ,β,x,l,g,q,r,t,ok,N,m,Y,O,hd,e,k⟩:=W;refine⟨eo B bg,vw δ,β,ok.fr,ok.view,?_⟩;unfold iR at e;split at e
 .rename_i d β1 A
  refine⟨.ok d,β1,A,λy p F Z=>?_⟩;obtain⟨b,i⟩:=ok.to rfl F;obtain⟨v,g1,g2⟩:=b.tell 0 _ N;have hv:v= .ref x:=g2;subst hv;have I:=i.kp x _ Y (.inr m);refine⟨_,g1,x,C,l,_,rfl,I,c,n,?_,?_⟩
  .rw[SA];omega
  obtain⟨J,s2⟩:=b.upd0 (o:= .ins C l (db f y (ns0.zip g))) m;have j:Tr (eo B bg) p (eo B bg) (upd p x (.ins C l (db f y (ns0.zip g)))):=⟨λ_ h _=>h,λa u ha e=>by
   rw[b_]
   .exact e
   .intro z;subst z;exact ha (by show B a≠Oi;rw[m];simp),rfl⟩
  refine⟨B,bg,δ,β1,x,l,g++[y],q++[d],r,t,J,N,m,by rw[aj,qQ O Q],by simp[O],bb.append (bb.tr j _ _ (bb.tr i.tr _ _ hd)) (bb.cons (c4.tr j _ _ Z) bb.nil),e,?_⟩;rw[PY];exact jC.pre (i.x.trans s2) k
 .rename_i Ce β1 A
  cases e;refine⟨.error Ce,_,A,λp F=>?_⟩;obtain⟨b,i⟩:=ok.to rfl F;exact k U B p i.x b.fr
 .cases e
end
open Classical in
def mE(m:Nat)(a:IP):List D->M (List D):=λds β=>if h:∃r,∀x,a (ni m (.adr x::ds)) [] β=on r then on h.choose else Oi
theorem DD(h:∀x,ip (ni m (.adr x::ds)) [] β=on r):mE m ip ds β=on r:=by
 have a:∃r,∀x,ip (ni m (.adr x::ds)) [] β=on r:=⟨r,h⟩;unfold mE;rw[dif_pos a];have:=a.choose_spec 0;rw[h 0]at this;exact this.symm
theorem zJ(h:mE m ip ds β=on r):∀x,ip (ni m (.adr x::ds)) [] β=on r:=by
 unfold mE at h;split at h
 .rename_i a
  have:=a.choose_spec;cases h;exact this
 .cases h
section
variable{P:Pc}{w:Pk}{K:OU}{mg:Pj->Option Ov}{base:P4}
theorem JQ{st:Qe}{N ps names:List Pj}(n m:Nat)(ip:IP)(F:d5 K x qual st f fd)(S:c_ N ps (af st))(O:ps.length=n+1)(R:N.length=m)
  (p:∀(i:Ov) (A:PU) (outer:List VJ) (s:OB) (H:Hp) (E:XK),en k (A.deeper (SS qual (af st) s.heap.objs.size f i))->
   PSs (eF (hO P w) P w K mg base N qual (af st) f i A outer s H E) (bX st) (tI K H C [] names ip (λ_=>E))):fw P w K mg base (hO P w) (k+1) f fd ps (Y8 K C names n (mE m ip)):=by
 subst R;refine F.okE S (λvs H Q E h=>?_) λi A outer s H vs Q E hr h=>?_
 .obtain⟨y,rest,j,ds,β,dx,rfl,hl,_⟩:=h
  rw[OO,hl,O]
 obtain⟨y,rest,j,ds,β,dx,rfl,hl,fr,T,nb,hH,hd,r,d,e,h⟩:=h;refine⟨_,p i A outer s H E hr,?_⟩;have U:bb K j H (.adr y::ds) (.ref y::rest):=bb.cons rfl hd;obtain⟨B,ok,L,h1,hn⟩:=oA (N:=N) fr U;have hy:B y=on 0:=by
  rcases L y T with z|z
  .exact z
  .obtain⟨b,l,q,w⟩:=h1 y z
   obtain⟨W,X⟩:=nb b l q;rcases w with w|w
   .exact OX w W
   .exact OX w X
 have v:∀{u:Ow} {g:Hp} {d:Bg},ot y B H u g->Fr (eo u j.bg) g d->Zl j y H g d/\Tr (eo u j.bg) g j g:=λ{u g d} s c=>by
  have hs:∀a,j.A a->u a≠Oi:=λa ha=>by
   rw[s.tg a (L a ha)];rcases L a ha with z|z<;>rw[z]<;>simp
  refine⟨⟨λa o ne ha n=>s.kp a o ne ha ?_,λa ha=>c.occ a (hs a ha),λb l e=>fr.bgA b l e,c.bag⟩,λa ha _ z=>ha (hs a z),λ_ _ _ h=>h,rfl⟩;cases q:B a with
  |none=>exact .inl rfl
  |some t=>
   have:=L a (hn a (by rw[q];simp));rcases this with z|z
   .rw[q]at z;exact .inr z
   .obtain⟨b,l,e,w⟩:=h1 a z
    obtain⟨W,X⟩:=n b l e;rcases w with w|w
    .exact OX w W
    .exact OX w X
 refine⟨B,j.bg,ni N.length (.adr y::ds),β,y,dx,[],[],r,d,ok,rfl,hy,hH,rfl,bb.nil,zJ e y,?_⟩;cases r with
 |ok es=>
  intro Y u g vs s c Z I J;obtain⟨t1,t2⟩:=v s c;exact h g vs t1 Z I (bb.tr t2 _ _ J)
 |error Ce=>
  intro Y u g s c;exact h g (v s c).1
variable{X:Cx}{E:St->XK}{st:Qe}
variable{h:G}{δ:Ds}{β β1:Bg}{Q:tx->Bg->Prop}{i:Nat}{f:FD}
end
section
variable{C Ce:Oq}{m:Pj}{ns:List Pj}{mf:List D->M D}{mi:List D->M (List D)}{fo:FD}{g gk:FL}{dd fs as ks:List D}{src:List (Sr D)}{δ:Dn}{β β1 β2 β3:Bg}{r:Except Oq D×Bg}{d:D}{f:Pj}{h:G}{Q:tx->Bg->Prop}{i:Nat}{δs:Ds}
theorem hG{α:Type}{mf:List D->M α}{r:Except Oq α×Bg}(a:fo δ β=on (.ok (.obj C ns fs),β1))(b:g δ β1=on (.ok as,β2))(c:mf (.obj C ns fs::(as++dd)) β2=on r)(hm:m∉ns:=by decide):mI C m mf fo g dd δ β=on r:=by
 unfold mI;rw[M.bind_ok a];simp only[hm,not_false_eq_true,and_self,PM];rw[M.bind_ok b];exact c
theorem jD(a:x δ β=on (.ok (.obj C ns fs),β1))(b:(ns.zip fs).lookup f=on d):f1 (xw C f) x δ β=on (.ok d,β1):=by
 refine x_1 a ?_;unfold xw;simp only[PM];exact b
theorem J6{fl:FL}(e:fl (vw δs) β=on (.ok ds,β1))(k:Gw h (δs.set i (on (.own ds))) β1 Q):Gw (aN (rW i fl) h) δs β Q:=dn (by unfold rW;simp only[e]) k
theorem zF{g:G}{δ δ1:Ds}{r:Except Oq (List D)×Bg}(e:g δ β=on (.nx δ1,β1))(a:δ[0]?=on (on (.sh (.adr x))))(b:δ1[0]?=on (on (.sh (.adr x))))(k:ip δ1 done β1=on r):mD g ip δ done β=on r:=by
 unfold mD;simp only[e,a,b,PM];exact k
theorem ph{f:FD}{δ:Ds}{d:D}{r:Except Oq (List D)×Bg}(e:f (vw δ) β=on (.ok d,β1))(k:ip δ (done++[d]) β1=on r):iR f ip δ done β=on r:=by
 unfold iR;rw[e];exact k
noncomputable def vr{α:Type}(d:α)(c:Nat)(ba:List (List α)):List (List α):=(Oz c).map λj=>ba.map λrow=>row.getD j d
abbrev tp(c:Nat)(ba:LI):LI:=vr 0 c ba
theorem pZ{α:Type}{d:α}{r c:Nat}{ba:List (List α)}(h:ba.length=r):k_ c r (vr d c ba):=⟨by simp[vr],λrow a=>by
 obtain⟨j,_,rfl⟩:=OC.mp a;rw[Oh,h]⟩
theorem Ke{α:Type}{d:α}{ba:List (List α)}(h:j<c):(vr d c ba)[j]?=on (ba.map λrow=>row.getD j d):=by
 unfold vr;rw[Ou,Py h];rfl
theorem wH{d:Int}:∀(row:List Int),(Oz row.length).map (λj=>row.getD j d)=row:=λrow=>by
 refine Yc λi=>?_;rw[Ou];by_cases h:i<row.length
 .rw[Py h]
  show on (row.getD i d)=_;rw[Om,Oo h];rfl
 .rw[SV (by simpa using h),SV (by omega)];rfl
theorem p7{α:Type}(f g:α->Int):∀l:List α,(l.map λx=>f x+g x).sum=(l.map f).sum+(l.map g).sum
 |[]=>by simp
 |x::l=>by
  simp only[OG,O3,p7 f g l];omega
theorem nh{α:Type}:∀l:List α,(l.map λ_=>(0:Int)).sum=0
 |[]=>rfl
 |x::l=>by simp only[OG,O3,nh l];rfl
theorem x4:∀{ba:LI},(∀row∈ba,row.length=c)->tot (tp c ba)=tot ba
 |[],_=>by
  show((vr 0 c []).map Qq).sum=0;unfold vr;rw[Oy];exact nh (Oz c)
 |row::ba,h=>by
  have ih:=x4 (c:=c) (ba:=ba) λx b=>h x (Op _ b);have a:=h row Ox;unfold tot tp vr at ih⊢;rw[Oy]at ih⊢;have e:(λj=>(Qq ((row::ba).map λrow=>row.getD j 0)))=λj=>row.getD j 0+(ba.map λrow=>row.getD j 0).sum:=by
   funext j;rw[OG,O3]
  show((Oz c).map λj=>(Qq ((row::ba).map λrow=>row.getD j 0))).sum=_;rw[e,p7,<-a,wH,a,OG,O3];congr 1
theorem GU(h:∀row∈ba,∀x∈row,0<=x):∀row∈tp c ba,∀x∈row,0<=x:=λrow a x b=>by
 obtain⟨j,_,rfl⟩:=OC.mp a;obtain⟨q,k,rfl⟩:=OC.mp b;rw[Om];cases e:q[j]? with
 |none=>exact Xr 0
 |some y=>exact h q k y (OQ e)
end
end L2.Pu
namespace L2.Pu
open PySem PySem.Spec PyProof PyProof.Rows
section
variable{X:Cx}
variable{prog:Pc}{w:Pk}{A:PU}{E:Ov->OB->Prop}{s:OB}{l:Oq}{xs:Array (Int×Tok)}
variable{K:OU}
end
end L2.Pu
namespace L2
open PySem PySem.Spec PyProof.Rows
end L2
namespace L2.Pu
open PySem PySem.Spec PyProof.Rows
section
variable{X:Cx}{E:St->XK}{K:OU}{elt cp iter:Expr}{ifs:List Expr}{rest:List Qp}{scope:Scope}{pos:TD}{Nc dr:List Pj}{dc:List Nat}{g:TG}{tb:Oq->TB}
variable{st:Qe}{H₀:Hp}{B:Ow}{bg:Option (Oq×Oq)}{H H':Hp}{δ:Ds}{β β':Bg}{σ:St}
theorem ZT{us:List Ov}(h:us.length=1):∃a,us=[a]:=List.length_eq_one_iff.mp h
theorem ZS{us:List Ov}(h:us.length=2):∃c a1,us=[c,a1]:=by
 obtain⟨a,l,rfl⟩:=Se h;obtain⟨b,rfl⟩:=ZT (us:=l) (by simpa using h);exact⟨_,_,rfl⟩
theorem ZR{us:List Ov}(h:us.length=3):∃d a1 a2,us=[d,a1,a2]:=by
 obtain⟨a,l,rfl⟩:=Se h;obtain⟨b,c,rfl⟩:=ZS (us:=l) (by simpa using h);exact⟨_,_,_,rfl⟩
theorem lU4{us:List Ov}(h:us.length=4):∃e a1 a2 a3,us=[e,a1,a2,a3]:=by
 obtain⟨a,l,rfl⟩:=Se h;obtain⟨b,c,d,rfl⟩:=ZR (us:=l) (by simpa using h);exact⟨_,_,_,_,rfl⟩
end
section
variable{X:Cx}{E:St->XK}{e e1 e2 e3 e4 e5:Expr}{es:List Expr}{pos p:TD}{f1 f2 f3 f4 f5:FD}{g:FL}{k j n:Nat}{f:Oq}{fd:O5}{ps:List Pj}{x:Pj}{op:List D->Option D}{r:List V->Hp->VK->Prop}{id T:String}
theorem vv(i:Nat){x:Pj}(b:X.N[i]?=on x:=by rfl)(c:YW X.env.scope x:=by first|exact QY rfl|exact Sg (QY rfl)|exact Sg (Sg rfl))(hd:(x==("__debug__":Pj))=Os:=by decide)
  (a:(x==("__classdict__":Pj))=Os:=by decide):PE X (.Name x pos) (tV X.K (ah i) E):=M9 i (pv i b c hd a)
theorem d_(a:PE X e1 (tV X.K f1 E))(b:OJ [e1] X.env=(Os,PZ e1 X.env)::OJ [] X.env:=by rfl):PA X [e1] (j1 X.K (ag f1 aF) E):=lY a e9 b
theorem et(a:PE X e1 (tV X.K f1 E))(b:PE X e2 (tV X.K f2 E))(c:OJ [e1,e2] X.env=(Os,PZ e1 X.env)::OJ [e2] X.env:=by rfl)(d:OJ [e2] X.env=(Os,PZ e2 X.env)::OJ [] X.env:=by rfl):PA X [e1,e2] (j1 X.K (ag f1 (ag f2 aF)) E):=lY a (d_ b d) c
theorem ro(a:PE X e1 (tV X.K f1 E))(b:PE X e2 (tV X.K f2 E))(c:PE X e3 (tV X.K f3 E))(d:OJ [e1,e2,e3] X.env=(Os,PZ e1 X.env)::OJ [e2,e3] X.env:=by rfl)(h:OJ [e2,e3] X.env=(Os,PZ e2 X.env)::OJ [e3] X.env:=by rfl)(i:OJ [e3] X.env=(Os,PZ e3 X.env)::OJ [] X.env:=by rfl):PA X [e1,e2,e3] (j1 X.K (ag f1 (ag f2 (ag f3 aF))) E):=lY a (et b c h i) d
theorem F0(a:PE X e1 (tV X.K f1 E))(b:PE X e2 (tV X.K f2 E))(c:PE X e3 (tV X.K f3 E))(d:PE X e4 (tV X.K f4 E))(h:OJ [e1,e2,e3,e4] X.env=(Os,PZ e1 X.env)::OJ [e2,e3,e4] X.env:=by rfl)(i:OJ [e2,e3,e4] X.env=(Os,PZ e2 X.env)::OJ [e3,e4] X.env:=by rfl)(l:OJ [e3,e4] X.env=(Os,PZ e3 X.env)::OJ [e4] X.env:=by rfl)(m:OJ [e4] X.env=(Os,PZ e4 X.env)::OJ [] X.env:=by rfl):PA X [e1,e2,e3,e4] (j1 X.K (ag f1 (ag f2 (ag f3 (ag f4 aF)))) E):=lY a (ro b c d i l m) h
theorem zv(δ:Dn)(β:Bg)(r:List D)(a:Bg)(h:aF δ β=on (.ok r,a)):r.length=0:=FZ h
structure FB (P:Pc) (w:Pk) (K:OU) (mg:Pj->Option Ov) (base:P4) (k:Nat) (x:Pj) (f:Oq) (fd:O5) (ps:List Pj) (n:Nat) (m:List D->M D):Prop where
 ok:fw P w K mg base (hO P w) k f fd ps (F3 K n m)
 m:mg x=on (.ref f)
 kp:Uo K (.ref f)=On
 b:aC K fd ps []
theorem vc(G:FB X.prog X.w X.K X.mg X.base j x f fd ps n m)(h:en k X.A)(ha:PA X (e::es) (j1 X.K g E))(i:j<=k:=by decide)(l:cK (hO X.prog X.w) X E:=by first|exact f7|exact rK|assumption)(o:Gl X x:=by rfl)
  (hn:∀δ β r d,g δ β=on (.ok r,d)->r.length=n:=by repeat (first|exact zv|apply aS)) (a:(x==("__debug__":Pj))=Os:=by decide) (q:OJ (e::es) X.env=(Os,PZ e X.env)::OJ es X.env:=by rfl) (c:(QX pos (OJ es X.env)).any (·.1)=Os:=by rfl):
  PE X (.Call (.Name x p) (e::es) [] pos) (tV X.K (eV m g) E):=xU G.ok (h.mono i) o G.m G.kp G.b l ha hn a q c
theorem cx(hm:X.mg "len"=Oi)(ha:PA X (e::es) (j1 X.K g E))(b:Gl X "len":=by rfl)(c:OJ (e::es) X.env=(Os,PZ e X.env)::OJ es X.env:=by rfl)(a:(QX pos (OJ es X.env)).any (·.1)=Os:=by rfl):PE X (.Call (.Name "len" p) (e::es) [] pos) (tV X.K (aP eY g) E):=bE lM NR b hm PySem.boot_len ha (by decide) (by decide) c a
theorem fc(hm:X.mg "sum"=Oi)(ha:PA X (e::es) (j1 X.K g E))(b:Gl X "sum":=by rfl)(c:X.calm=On:=by rfl)(d:OJ (e::es) X.env=(Os,PZ e X.env)::OJ es X.env:=by rfl)(a:(QX pos (OJ es X.env)).any (·.1)=Os:=by rfl):PE X (.Call (.Name "sum" p) (e::es) [] pos) (tV X.K (aP fi g) E):=bE (z0 c) Lu b hm PyProof.Rows.Boot.«sum» ha (by decide) (by decide) d a
theorem kE(hm:X.mg "isinstance"=Oi)(ha:PA X (e::es) (j1 X.K g E))(b:Gl X "isinstance":=by rfl)(c:OJ (e::es) X.env=(Os,PZ e X.env)::OJ es X.env:=by rfl)(a:(QX pos (OJ es X.env)).any (·.1)=Os:=by rfl):PE X (.Call (.Name "isinstance" p) (e::es) [] pos) (tV X.K (aP iq g) E):=bE z5 NS b hm PyProof.Rows.Boot.«isinstance» ha (by decide) (by decide) c a
theorem i4{scope:Scope}(a dr:List Pj)(dc:List Nat)(k:scope.kind= .function:=by rfl)(nd:(scope.names.map (·.1)).Nodup:=by decide +kernel)
  (fr:(scope.names.all λy=>y.2 != .free||(X.env.scope.names.lookup y.1==on .cell||X.env.scope.names.lookup y.1==on .free))=On:=by rfl) (b:a=dr++dc.map (λj=>X.N.getD j Ss):=by rfl)
  (c:(dc.all λj=>decide (j<X.N.length)&&scope.names.lookup (X.N.getD j Ss)==on .free)=On:=by rfl):dt X scope a dr dc:=dt.ofB k nd fr b c
theorem g8{a:List Pj}(h:a.Nodup:=by decide +kernel):(az X a scope cl C fp s H).N.Nodup:=h
theorem ej(i:Nat){x:Pj}(a:X.N.Nodup)(b:X.N[i]?=on x:=by rfl)(c:A_ X.env.scope x:=by first|exact QY rfl|exact Sg rfl)(d:X.fn x=On\/X.env.scope.names.lookup x=on .local:=by first|exact .inl rfl|exact .inr rfl|assumption):PG X (.Name x pos) (dC i):=vp a b c d
theorem f0(i:Nat){x:Pj}{e:Expr}{pos a:TD}(b:X.N.Nodup)(c:PE X e te)(d:X.N[i]?=on x:=by rfl)(h:A_ X.env.scope x:=by first|exact QY rfl|exact Sg rfl)(hs:Ts e (on (.Name x a)) pos.line X.env=QR Os:=by rfl)(l:X.fn x=On\/X.env.scope.names.lookup x=on .local:=by first|exact .inl rfl|exact .inr rfl|assumption):PS X (.Assign [.Name x a] e pos) (ff te (dC i)):=oV b d h c hs l
theorem s9{Q:List Ov->Prop}(h:∀a,Q [a])(us:List Ov)(b:us.length=1):Q us:=by obtain⟨_,rfl⟩:=ZT b;exact h _
theorem PC{Q:List Ov->Prop}(h:∀a b,Q [a,b])(us:List Ov)(c:us.length=2):Q us:=by obtain⟨_,_,rfl⟩:=ZS c;exact h _ _
theorem sA{Q:List Ov->Prop}(h:∀a b c,Q [a,b,c])(us:List Ov)(d:us.length=3):Q us:=by obtain⟨_,_,_,rfl⟩:=ZR d;exact h _ _ _
theorem Zj{Q:List Ov->Prop}(h:∀a b c d,Q [a,b,c,d])(us:List Ov)(i:us.length=4):Q us:=by obtain⟨_,_,_,_,rfl⟩:=lU4 i;exact h _ _ _ _
theorem hU{N Q:List Pj}{c:Scope}(a:c.kind= .function:=by rfl)(b:c.isCoroutine=Os:=by rfl)(g:c.isGenerator=Os:=by rfl)(d:N.Nodup:=by decide +kernel)(e:N.take Q.length=Q:=by rfl)(f:∀x∈Q,c.names.lookup x=on .local\/c.names.lookup x=on .cell:=by decide +kernel)(h:∀y∈c.names,y.2≠ .free:=by decide +kernel):c_ N Q c:=⟨a,b,g,d,e,f,h⟩
end
end L2.Pu
namespace L2
open PySem PySem.Spec PyProof.Rows
section
variable{prog:Pc}{w:Pk}{A:PU}{E:Ov->OB->Prop}{s:OB}{K:OU}
variable{X:Cx}
end
namespace Pu
section
variable{X:Cx}{E:St->XK}
end
end Pu
end L2
namespace L2.Pu
open PySem PySem.Spec PyProof.Rows
section
variable{X:Cx}{E:St->XK}{a b:Expr}{pos:TD}{k:Nat}{f C:Oq}{fd:O5}{ps:List Pj}{K:OU}
structure IsC (K:OU) (C:Oq):Prop where
 cl:ri K C
 ha:SU K (.ref C) "__class__"=on (on (.builtin "object.__class__"))
 hn:specialIn K (.builtin "object.__class__") "__get__"=on (on (.builtin "getset_descriptor.__get__"))
 htk:XW K (.builtin "object.__class__")=on On
 hm:PySem.W.mroIn K C (.type "object")=on On
theorem Nf{r c:Nat}{ba:LI}(sh:k_ r c ba):tp r (tp c ba)=ba:=by
 obtain⟨e,g⟩:=sh;refine QC (by simp[vr,e]) λi n d=>?_;have h:ba[i].length=c:=g _ (Pq d);refine QC (by simp[vr,h]) λj o l=>?_;have m:j<c:=by omega
 simp[vr,Om,m,d,l]
variable{p1 p2 pos1 pos2:TD}
noncomputable def S(n:Nat)(f:Nat->Int):Int:=((Oz n).map f).sum
theorem MX(f:Nat->Int):S 0 f=0:=rfl
theorem fP(n:Nat)(f:Nat->Int):S (n+1) f=S n f+f n:=by
 unfold S;rw[Ro,Pd,VP];simp
theorem dj{f g:Nat->Int}(h:∀i<n,f i=g i):S n f=S n g:=by
 unfold S;rw[O1 λi c=>h i (OV.mp c)]
theorem se(n:Nat)(f g:Nat->Int):S n (λi=>f i+g i)=S n f+S n g:=p7 f g _
theorem lU(n:Nat):S n (λ_=>0)=0:=nh _
theorem Og(n:Nat)(f:Nat->Int):S n (λi=>-f i)=-S n f:=by
 induction n with
 |zero=>rfl
 |succ n ih=>rw[fP,fP,ih];omega
theorem AE(n m:Nat)(h:Nat->Nat->Int):S n (λi=>S m (λj=>h i j))=S m (λj=>S n (λi=>h i j)):=by
 induction n with
 |zero=>rw[MX];exact(lU m).symm
 |succ n ih=>
  rw[fP,ih,<-se];exact dj λj _=>(fP n _).symm
theorem nl{g:Nat->Int}:∀{l L:List Nat},l.Sublist L->L.Nodup->(l.map g).sum=(L.map λx=>if x∈l then g x else 0).sum
 |_,_,.slnil,_=>rfl
 |l,_,.cons a (l₂:=L) h,nd=>by
  have c:=(Pt.mp nd);have ha:a∉l:=λz=>c.1 (h.subset z);rw[OG,O3,Ot ha,nl h c.2,SQ]
 |_,_,.cons₂ a (l₁:=l) (l₂:=L) h,nd=>by
  have c:=(Pt.mp nd);rw[OG,OG,O3,O3,OA Ox,nl h c.2];congr 2;refine O1 λx e=>?_;have d:x≠a:=λz=>c.1 (z▸e);by_cases q:x∈l
  .rw[OA q,OA (Op _ q)]
  .rw[Ot q,Ot λz=>(OK.mp z).elim d q]
theorem l7{l:List Nat}(h:l.Sublist (Oz n)):(l.map g).sum=S n λx=>if x∈l then g x else 0:=nl h Vy
theorem vV{p:Nat->Bool}{g:Nat->Int}:∀l:List Nat,((l.filter p).map g).sum=(l.map λx=>if p x=On then g x else 0).sum
 |[]=>rfl
 |x::l=>by
  rw[SZ,OG,O3,<-vV l];by_cases q:p x=On
  .rw[OA q,OA q,OG,O3]
  .rw[Ot q,Ot q,SQ]
noncomputable abbrev nI(l:List Nat):List Int:=l.map λ(i:Nat)=>(i:Int)
noncomputable abbrev nL(l:List Nat):D:= .lst ((nI l).map D.int)
theorem vP:∀xs:List Int,Yt (.int i) (xs.map D.int)=decide (i∈xs)
 |[]=>rfl
 |x::xs=>by
  have ih:=vP (i:=i) xs;unfold Yt at ih⊢;rw[OG,S8,ih];show(decide (x=i)||_)=_;rw[Ti];simp only[Bool.or_eq_true,Po,OK];constructor
  .rintro(h|h)
   .exact .inl h.symm
   .exact .inr h
  .rintro(h|h)
   .exact .inl h.symm
   .exact .inr h
theorem qY:∀xs:List Int,(xs.map D.int).all eA=On
 |[]=>rfl
 |_::xs=>qY xs
theorem LA{xs:List Int}{neg:Bool}:O2 neg (.int i) (.lst (xs.map D.int))=on (.bl (if neg then !decide (i∈xs)else decide (i∈xs))):=by
 show(if(eA (.int i)&&(xs.map D.int).all eA)=On then _ else _)=_;rw[qY,Bool.and_true,OA (show eA (.int i)=On from rfl),vP]
theorem Lm{i:Nat}{l:List Nat}:((i:Int)∈nI l)↔i∈l:=by
 constructor
 .intro h
  obtain⟨j,c,e⟩:=OC.mp h;exact(Int.ofNat.inj e)▸c
 .intro h
  exact OC.mpr ⟨i,h,rfl⟩
theorem um{i:Nat}{l:List Nat}{neg:Bool}:O2 neg (.int (i:Int)) (nL l)=on (.bl (if neg then !decide (i∈l)else decide (i∈l))):=by
 rw[LA];simp only[Lm]
theorem ix{α:Type}{f:FD}(xs:List α)(u v:α->D)(p:α->Bool)(g:it δ β=on (.ok (xs.map u),β))
  (i:∀x∈xs,∃δ1,tg (u x) (lm nv dc δ)=on δ1/\tt δ1 β=on (.ok (p x),β)/\(p x=On->f δ1 β=on (.ok (v x),β))) (j:xs.length<=OS):cf nv dc it tg tt (lq f) δ β=on (.ok (.lst ((xs.filter p).map v)),β):=by
 refine qr g ?_ (by rw[Oh];exact OP (WR _ _) j);have gen:∀xs:List α,(∀x∈xs,∃δ1,tg (u x) (lm nv dc δ)=on δ1/\tt δ1 β=on (.ok (p x),β)/\(p x=On->f δ1 β=on (.ok (v x),β)))->nw tg tt (lq f) (xs.map u) (lm nv dc δ) β=on (.ok ((xs.filter p).map v),β):=by
  intro xs
  induction xs with
  |nil=>intro _;rfl
  |cons x xs ih=>
   intro h;obtain⟨δ1,d,c,l⟩:=h x Ox;have e:=ih λy m=>h y (Op _ m);rw[OG,nw,SZ];cases q:p x with
   |true=>
    rw[q]at c;simp only[d,M.bind,M.ret,c,lq,l q,e,OA,OG,Sd,Q3]
   |false=>
    rw[q]at c;simp only[d,M.bind,M.ret,c,e,OT,PD,Q3]
 exact gen xs i
theorem m5:∀(n:Nat) (xs:List D),cg n xs=(Oz xs.length).map λ(i:Nat)=>D.tup [.int ((n+i:Nat):Int),xs.getD i .non]
 |n,[]=>rfl
 |n,x::xs=>by
  rw[cg,m5 (n+1) xs,OO,WM,OG,Oy];congr 1;refine O1 λi _=>?_;simp only[TK];rw[show n+1+i=n+(i+1) by omega];rfl
noncomputable abbrev bI(b:LP)(i j:Nat):Int×Int:=(b.getD i []).getD j (0,0)
theorem k_.getD{α:Type}{m:List (List α)}(h:k_ r c m)(d:i<r):m[i]?=on (m.getD i [])/\(m.getD i []).length=c:=by
 obtain⟨row,e,l⟩:=h.at d;have:m.getD i []=row:=by rw[Om,e];rfl
 rw[this];exact⟨e,l⟩
theorem mR{α:Type}{l:List α}{i:Nat}{d:α}(h:i<l.length):l[i]?=on (l.getD i d):=by
 rw[Om,Oo h];rfl
theorem HX{xs:List Int}(h:i<xs.length):la (.lst (xs.map D.int)) (.int (i:Int))=on (.int (xs.getD i 0)):=bR (by rw[Ou,mR h];rfl)
theorem uh{b:LP}(sh:k_ r c b)(g:i<r)(h:j<c):la (c7 b) (.int (i:Int))=on (.lst ((b.getD i []).map pD))/\la (.lst ((b.getD i []).map pD)) (.int (j:Int))=on (pD (bI b i j)):=by
 obtain⟨e,l⟩:=sh.getD g;refine⟨rP (by rw[Ou,e];rfl),bR ?_⟩;rw[Ou,mR (d:=(0,0)) (by omega)];rfl
noncomputable def o3(rs:List Int)(c:List Nat):Int:=(c.map λi=>rs.getD i 0).sum
def ef(cs:List Int)(b:LP)(r:Nat)(c:List Nat)(j:Nat):Int:=cs.getD j 0-S r λi=>if i∈c then 0 else(bI b i j).1
def e8(b:LP)(c:List Nat)(j:Nat):Int:=(c.map λi=>(bI b i j).2).sum
def rG(cs:List Int)(b:LP)(r c:Nat)(d e:List Nat):Int:=S c λj=>if j∈e then ef cs b r d j else e8 b d j
def hF(b:LP)(c d:List Nat)(i j:Nat):Int:=(if i∈c/\j∉d then(bI b i j).2 else 0)-(if i∉c/\j∈d then(bI b i j).1 else 0)
theorem Je{b:LP}{d e:List Nat}(h:d.Sublist (Oz r))(g:e.Sublist (Oz c)):
  rG cs b r c d e=o3 cs e+S r λi=>S c λj=>hF b d e i j:=by
 unfold rG o3;rw[l7 g,AE,<-se];refine dj λj l=>?_;by_cases q:j∈e
 .rw[OA q,OA q]
  unfold ef;rw[Int.sub_eq_add_neg,<-Og];congr 1;refine dj λi g=>?_;unfold hF;by_cases z:i∈d
  .simp[z,q]
  .simp[z,q]
 .rw[Ot q,Ot q,SQ]
  unfold e8;rw[l7 h];refine dj λi g=>?_;unfold hF;by_cases z:i∈d
  .simp[z,q]
  .simp[z,q]
end
end L2.Pu
namespace L2.Pu
open PySem PySem.Spec PyProof PyProof.Rows
section
variable{X:Cx}{K:OU}
variable{E:St->XK}{o e:Expr}{apos cpos:TD}
end
end L2.Pu
namespace L2.Pu
open PySem PySem.Spec PyProof.Rows
section
variable{prog:Pc}{w:Pk}{A:PU}{E:Ov->OB->Prop}{s:OB}{l:Oq}{xs:Array (Int×Tok)}
theorem AY(f:A.handled=Oi)(c:s.heap.IsTuple l (W6 xs))
  (h:∀h' d t',(∀b o,s.heap.get? b=on o->h'.get? b=on o)->Q (.int (preSum (numAt xs) xs.size) t') {s with heap:=h',toks:=d}):
  OH (O4 prog w) A (VF (.builtin "sum") [.ref l]) Q E s:=by
 have a:l<s.heap.objs.size:=by obtain⟨_,e,_⟩:=c;exact OZ e
 refine call_sum_walkG (VH c ⟨_,_,_,_,_,_,numAt xs,rfl,Walks.tuple (A:=A.in1) f _ l (Pr a) (W6 xs),⟨⟨_,OI _ rfl,rfl,rfl⟩,c.at λo e=>Ol _ e⟩,λb hb=>?_,(λ_ _=>intItems_at),λh' d t' g=>?_⟩)
 .show b<(s.heap.push _).objs.size
  rw[Qk];rcases OK.mp hb with rfl|hb
  .exact VD _
  .rcases OK.mp hb with rfl|hb
   .exact R4 a
   .cases hb
 .have:=h h' d t' λb o e=>g b o (λhm=>by
   rcases OK.mp hm with i|hm
   .exact OX (i▸OZ e) (PF _)
   .cases hm) (Ol _ e)
  simpa[W6]using this
variable{X:Cx}{K:OU}
abbrev HF(K:OU):List V->Hp->VK->Prop:=λxs H Q=>∃(p:Oq) (ns:List Int),xs=[.ref p]/\(fy K H p (ns.map V.int)\/jn K H p (ns.map V.int))/\Q (.int ns.sum) H
theorem zZ(b:X.calm=On):cM X (.builtin "sum") (HF X.K):=by
 intro a s f H xs us Q I r h;obtain⟨p,ns,rfl,hq|hq,q⟩:=h
 .exact re b a s f H _ us Q I r ⟨p,ns,rfl,hq,q⟩
 .obtain⟨u,rfl,g⟩:=iD r
  cases g;obtain⟨its,i,pl,m⟩:=I.tuple hq;have c:=pz i;obtain⟨xs,ex⟩:=c.allInts.items;have d:=c.numsOf;have j:its=(W6 xs).toList:=by rw[<-ex]
  rw[j,nums_intItems]at d;rw[ex]at pl;refine AY (I.ok.hd b) pl λh' n t' k=>?_;have e:preSum (numAt xs) xs.size=ns.sum:=by rw[preSum_eq,Q8 (by simp),d]
  rw[e];exact⟨.int ns.sum,H,I.kept k,⟨_,rfl⟩,q⟩
def oz:List D->Option D
 |[.lst xs]=>(dW xs).map λns=> .int ns.sum
 |[.tup xs]=>(dW xs).map λns=> .int ns.sum
 |_=>Oi
theorem Ls:dD K (HF K) oz:=λF H β Q ds d vs fr h e k=>by
 unfold oz at e;split at e
 .rename_i xs
  obtain⟨ns,q,rfl⟩:=Uv.mp e;obtain⟨v,rfl,g⟩:=bb.one h;obtain⟨a,ys,rfl,r,b⟩:=c4.sqL g;rw[ko q]at b;have c:=bb.ints ns b;subst c;exact⟨a,ns,rfl,.inl r,k _ H (To.refl fr) rfl⟩
 .rename_i xs
  obtain⟨ns,q,rfl⟩:=Uv.mp e;obtain⟨v,rfl,g⟩:=bb.one h;obtain⟨a,ys,rfl,r,b⟩:=c4.sqT g;rw[ko q]at b;have c:=bb.ints ns b;subst c;exact⟨a,ns,rfl,.inr r,k _ H (To.refl fr) rfl⟩
 .cases e
theorem Kn(ns:List Int):oz [.lst (ns.map D.int)]=on (.int ns.sum):=d7 ns
theorem Km(ns:List Int):oz [.tup (ns.map D.int)]=on (.int ns.sum):=d7 ns
noncomputable def LJ:G:=λ_ _=>Oi
theorem dI{X:Cx}{st:Qe}{K:OU}{E:St->XK}:PS X st (tG K H LJ E):=λ_ _ _ _ _ _ h=>by
 obtain⟨_,_,_,_,_,_,_,e,_⟩:=h;cases e
end
end L2.Pu
namespace L2.Pu
open PySem
noncomputable def d4:Nat->Nat
 |0=>1
 |n+1=>d4 n*(n+1)
noncomputable def pr(l:List Nat):Nat:=l.foldr (·*·) 1
theorem KW:pr []=1:=rfl
theorem yI(l m:List Nat):pr (l++m)=pr l*pr m:=by
 induction l with
 |nil=>simp[pr]
 |cons x l ih=>
  show x*pr (l++m)=x*pr l*pr m;rw[ih,Te]
theorem IO{α:Type}{l:List α}{i:Nat}{x:α}(h:l[i]?=on x):l.take (i+1)=l.take i++[x]:=by
 rw[List.take_succ,h];rfl
theorem gU{α:Type}{f:α->Nat}{l:List α}{i:Nat}{x:α}(h:l[i]?=on x):pr ((l.take (i+1)).map f)=pr ((l.take i).map f)*f x:=by
 rw[IO h,Pd,yI];simp[pr]
theorem jw:∀n,0<d4 n
 |0=>by decide
 |n+1=>Nat.mul_pos (jw n) (by omega)
theorem ux:∀{n m:Nat},n<=m->d4 n<=d4 m:=by
 intro n m h
 induction h with
 |refl=>exact OD _
 |step h ih=>exact OP ih (Uy _ (by omega))
theorem N9:d4 40<=2^160:=by decide +kernel
theorem jx(h:n<=40):d4 n<=2^160:=OP (ux h) N9
theorem tH(h:∀x∈l,0<x):0<pr l:=by
 induction l with
 |nil=>decide
 |cons x l ih=>exact Nat.mul_pos (h x Ox) (ih λy a=>h y (Op _ a))
theorem HJ{l:List Nat}(h:∀x∈l,x<=2^m):pr l<=2^(m*l.length):=by
 induction l with
 |nil=>exact Nat.one_le_two_pow
 |cons x l ih=>
  show x*pr l<=_;rw[OO,Nat.mul_succ,Vt,Nat.pow_add];exact Nat.mul_le_mul (h x Ox) (ih λy a=>h y (Op _ a))
theorem gX{l:List Nat}(h:x∈l):x<=l.sum:=by
 induction l with
 |nil=>cases h
 |cons y l ih=>
  rw[O3];rcases OK.mp h with rfl|h
  .omega
  .have:=ih h;omega
theorem dU(h:t<=2^m)(hm:m<=999):t<2^1000:=Ql (OP h (Th (by decide) hm)) (Nat.pow_lt_pow_right (by decide) (by decide))
theorem qe{t n:Nat}(a:t<2^1000)(b:n<2^1000):CF (.int (t:Int)) (.int (n:Int))=on (.int ((t*n:Nat):Int)):=by
 have c:gb (t:Int)=On:=OL (by rw[Ve];exact a);have d:gb (n:Int)=On:=OL (by rw[Ve];exact b);show(if(gb (t:Int)&&gb (n:Int))=On then _ else _)=_;simp only[c,d,Ue,PM];rfl
theorem Ir{t g:Nat}(d:0<g)(a:g<2^1000):xx (.int (t:Int)) (.int (g:Int))=on (.int ((t/g:Nat):Int)):=by
 have b:decide ((0:Int)<(g:Int))=On:=OL (by omega);have c:decide (((g:Int)).natAbs.log2<9000)=On:=OL (by
  rw[Ve];have:=(Nat.log2_lt (n:=g) (k:=1000) (by omega)).mpr a;omega)
 show(if(decide ((0:Int)<(g:Int))&&decide (((g:Int)).natAbs.log2<9000))=On then _ else _)=_;simp only[b,c,Ue,PM];rfl
theorem gi(l:List Nat):(nI l).sum=((l.sum:Nat):Int):=by
 induction l with
 |nil=>rfl
 |cons x l ih=>
  show(x:Int)+(nI l).sum=_;rw[ih,O3,UI]
theorem mw{l:List Nat}{i:Nat}{d:D}(h:((nI l).map D.int)[i]?=on d):∃n,l[i]?=on n/\d= .int (n:Int):=by
 obtain⟨x,a,rfl⟩:=bv h;obtain⟨n,hn,rfl⟩:=bv a;exact⟨n,hn,rfl⟩
theorem tU(l:List Nat):((nI l).map D.int).length=l.length:=by rw[Oh,Oh]
def Sq(l:List Nat)(d:D):Prop:=d=nL l\/d= .tup ((nI l).map D.int)
theorem Sq.seq(h:Sq l d):cW d=on ((nI l).map D.int):=by rcases h with rfl|rfl<;>rfl
theorem ZE(a:0<=i)(b:i<=10^9)(c:0<=j)(d:j<=10^9):nC [.int i,.int j]=on (aZ i (j-i).toNat):=by
 have q:(decide (-(2^62)<=i)&&decide (i<2^62)&&decide (-(2^62)<=j)&&decide (j<2^62))=On:=by
  simp only[O9,Po];omega
 show(if(decide (-(2^62)<=i)&&decide (i<2^62)&&decide (-(2^62)<=j)&&decide (j<2^62))=On then on (aZ i (j-i).toNat)else Oi)=_;rw[OA q]
theorem rg2{n:Nat}(h:n<=1000):nC [.int 2,.int ((n:Int)+1)]=on (aZ 2 (n-1)):=by
 rw[ZE (by decide) (by decide) (by omega) (by omega),show((n:Int)+1-2).toNat=n-1 by omega]
end L2.Pu
namespace L2.Pu
theorem AF(h:∀i<n,f i<=g i):S n f<=S n g:=by
 induction n with
 |zero=>exact Xr _
 |succ n ih=>
  rw[fP,fP];have a:=ih λi b=>h i (by omega);have c:=h n (by omega);omega
theorem Iz(n:Nat)(f g:Nat->Int):S n (λi=>f i-g i)=S n f-S n g:=by
 induction n with
 |zero=>rfl
 |succ n ih=>rw[fP,fP,fP,ih];omega
noncomputable def fl(x y:Bool)(l h:Int):Int:=(if x=On/\y=Os then h else 0)-(if x=Os/\y=On then l else 0)
def Y_(rs cs:Nat->Int)(lo a:Nat->Nat->Int)(r c:Nat)(X Y:Nat->Bool):Int:=
 S c (λj=>if Y j=On then cs j else 0)-S r (λi=>if X i=On then rs i else 0)+S r λi=>S c λj=>fl (X i) (Y j) (lo i j) (a i j)
section
variable{rs cs:Nat->Int}{lo hi:Nat->Nat->Int}{r c:Nat}
theorem IZ{g:Nat->Nat->Int}(h:∀i<r,∀j<c,lo i j<=g i j/\g i j<=hi i j)(d:∀i<r,rs i=S c (g i))(e:∀j<c,cs j=S r λi=>g i j)(X Y:Nat->Bool):0<=Y_ rs cs lo hi r c X Y:=by
 have f:S c (λj=>if Y j=On then cs j else 0)=S r λi=>S c λj=>if Y j=On then g i j else 0:=by
  rw[AE];refine dj λj a=>?_;cases q:Y j with
  |true=>simp only[OA];exact e j a
  |false=>simp only[OT,PD];exact(lU r).symm
 have k:S r (λi=>if X i=On then rs i else 0)=S r λi=>S c λj=>if X i=On then g i j else 0:=by
  refine dj λi hi=>?_;cases q:X i with
  |true=>simp only[OA];exact d i hi
  |false=>simp only[OT,PD];exact(lU c).symm
 unfold Y_;rw[f,k,<-Iz,<-se];refine Int.le_trans (Int.le_of_eq (lU r).symm) (AF λi b=>?_);rw[<-Iz,<-se];refine Int.le_trans (Int.le_of_eq (lU c).symm) (AF λj a=>?_);have:=h i b j a;unfold fl;cases X i<;>cases Y j<;>simp<;>omega
noncomputable def ss:Nat->List (List Nat)
 |0=>[[]]
 |n+1=>ss n++(ss n).map (·++[n])
theorem g0:∀(n:Nat) (l:List Nat),l∈ss n->l.Sublist (Oz n)
 |0,l,h=>by rw[O6.mp h];exact .slnil
 |n+1,l,h=>by
  rw[Ro];rcases Qb.mp h with h|h
  .exact(g0 n l h).trans (List.sublist_append_left _ _)
  .obtain⟨a,h',rfl⟩:=OC.mp h
   exact(g0 n a h').append (UJ _)
theorem v9:∀n:Nat,(ss n).length=2^n
 |0=>rfl
 |n+1=>by
  rw[ss,ON,Oh,v9 n,Nat.pow_succ];omega
end
section
variable{rs cs:List Int}{b:LP}{r c:Nat}
abbrev Za(rs cs:List Int)(b:LP)(r c:Nat)(X Y:Nat->Bool):Int:=Y_ (λi=>rs.getD i 0) (λj=>cs.getD j 0) (λi j=>(bI b i j).1) (λi j=>(bI b i j).2) r c X Y
theorem Kt{a d:List Nat}(e:a.Sublist (Oz r))(f:d.Sublist (Oz c)):rG cs b r c a d-o3 rs a=Za rs cs b r c (λi=>decide (i∈a)) (λj=>decide (j∈d)):=by
 rw[Je e f];unfold o3 Za Y_;rw[l7 f,l7 e];have h:∀(n:Nat) (l:List Nat) (g:Nat->Int),S n (λj=>if decide (j∈l)=On then g j else 0)=S n (λj=>if j∈l then g j else 0):=λn l g=>dj λj _=>by simp
 rw[h,h];have k:(S r λi=>S c λj=>hF b a d i j)=S r λi=>S c λj=>fl (decide (i∈a)) (decide (j∈d)) (bI b i j).1 (bI b i j).2:=by
  refine dj λi _=>dj λj _=>?_;unfold hF fl;simp
 simp only[k];omega
def tT(cs:List Int)(b:LP)(r c:Nat)(a:List Nat):List Nat:=(Oz c).filter λj=>decide (ef cs b r a j<e8 b a j)
end
end L2.Pu
namespace L2.Pu
open PySem PySem.W
section
variable{tb:String->Option Builtin}{p:Pc}{w:Pk}{n₀:Nat}{ann:Option Ov}{env:VJ}{q:TD}
theorem j7(k:Nat){b:List Qe}(h:segRun tb p w n₀ ann 1 n s (piecesOf (b.take k) env c pos [Xa q])=on (.next,s',c,p'))
  (a:topRun tb p w n₀ ann N s' (restOf (b.drop k) env c p' [Xa q])=on r):topRun tb p w n₀ ann (n+N) s (restOf b env c pos [Xa q])=on r:=by
 have:=piece_app h a;rwa[Ri]at this
theorem DG(e:b=[])(k:topRun tb p w n₀ ann N s ⟨doneF .next,c,pos,[Xa q]⟩=on r):topRun tb p w n₀ ann N s (restOf b env c pos [Xa q])=on r:=by
 subst e;exact piece_nil k
end
end L2.Pu
namespace L2.Hs
open PySem PySem.SetTable
def Rs(xs:Array Nat):Prop:=∀i k x y:Nat,i<k->xs[i]?=on x->xs[k]?=on y->x<y
theorem nY{xs:Array Nat}(r:Rs xs):∀(fuel lo c:Nat),lo<=c->c<=xs.size->c-lo<=fuel->(∀i x,i<lo->xs[i]?=on x->x<j)->(∀i x,c<=i->xs[i]?=on x->j<=x)->
  below.go xs j fuel lo c<=xs.size/\(∀i x,i<below.go xs j fuel lo c->xs[i]?=on x->x<j)/\∀i x,below.go xs j fuel lo c<=i->xs[i]?=on x->j<=x
 |0,lo,c,h1,h2,h3,a,b=>by
  have:lo=c:=by omega
  subst this;exact⟨h2,a,b⟩
 |fuel+1,lo,c,h1,h2,h3,a,b=>by
  unfold below.go;by_cases q:lo<c
  .rw[OA q]
   simp only;have hm:(lo+c)/2<xs.size:=by omega
   have e:xs[(lo+c)/2]?=on (xs.getD ((lo+c)/2) j):=by simp[Rt,hm]
   by_cases z:xs.getD ((lo+c)/2) j<j
   .rw[OA z]
    refine nY r fuel _ _ (by omega) h2 (by omega) (λi x f d=>?_) b;by_cases w:i=(lo+c)/2
    .subst w
     rw[e]at d;cases d;exact z
    .exact TC (r i ((lo+c)/2) x _ (by omega) d e) z
   .rw[Ot z]
    refine nY r fuel _ _ (by omega) (by omega) (by omega) a (λi x f d=>?_);by_cases w:i=(lo+c)/2
    .subst w
     rw[e]at d;cases d;omega
    .have:=r ((lo+c)/2) i _ x (by omega) e d
     omega
  .rw[Ot q]
   have:lo=c:=by omega
   subst this;exact⟨h2,a,b⟩
theorem iz{xs:Array Nat}(r:Rs xs):below xs j<=xs.size/\(∀i x,i<below xs j->xs[i]?=on x->x<j)/\∀i x,below xs j<=i->xs[i]?=on x->j<=x:=
 nY r xs.size 0 xs.size (PV _) (OD _) (by omega) (λi x h=>OX h (Q4 i)) (λi x h e=>by
  have:=(Pw.mp e).1;omega)
theorem DZ(r:Rs xs)(h:xs[i]?=on j):below xs j=i:=by
 obtain⟨c,a,b⟩:=iz (j:=j) r;rcases R5 (below xs j) i with q|q|q
 .have d:=(Pw.mp h).1
  have e:xs[below xs j]?=on xs[below xs j]:=getElem?_pos xs _ (by omega);have:=b _ _ (OD _) e;have:=r _ _ _ _ q e h;omega
 .exact q
 .have:=a _ _ q h
  omega
theorem qJ{t:PP}(r:Rs t.place)(h:t.place[i]?=on j):t.slot j= .live i:=by
 unfold slot;simp only[DZ r h,h,Yj,PM]
theorem wA{t:PP}(d:t.dummies=#[])(h:∀i:Nat,t.place[i]?≠on j):t.slot j= .empty:=by
 unfold slot;have a:(t.place[below t.place j]?==on j)=Os:=by
  rw[WB];exact h _
 have b:has t.dummies j=Os:=by unfold has;rw[d];rfl
 simp only[a,b,OT,PD]
noncomputable def fx(t:PP):Nat->Probe->Probe
 |0,p=>p
 |n+1,p=>fx t n (t.advance p)
theorem nQ(t:PP):∀(n:Nat) (p:Probe),fx t (n+1) p=t.advance (fx t n p)
 |0,p=>rfl
 |n+1,p=>by
  show fx t (n+1) (t.advance p)=t.advance (fx t n (t.advance p));exact nQ t n (t.advance p)
theorem mC(t:PP):∀(n m:Nat) (p:Probe),fx t (n+m) p=fx t m (fx t n p)
 |0,m,p=>by rw[QJ];rfl
 |n+1,m,p=>by
  rw[show n+1+m=(n+m)+1 by omega];exact mC t n m (t.advance p)
structure Pv (t:PP) (p:Probe):Prop where
 j:p.j+p.more<=t.mask
 more:p.more<=9
 i:p.i<=t.mask
 pt:p.perturb<2^64
 du:p.dummy=Oi
theorem qP{mask i:Nat}(h:i<=mask):i<=runEnd mask i/\runEnd mask i<=mask/\runEnd mask i-i<=9:=by
 unfold runEnd;by_cases q:i+9<=mask
 .rw[OA q];omega
 .rw[Ot q];omega
noncomputable def r8(t:PP)(i pt:Nat):Probe:={j:=i,more:=runEnd t.mask i-i,i,perturb:=pt,dummy:=Oi}
theorem pS{t:PP}(h:i<=t.mask)(a:pt<2^64):Pv t (r8 t i pt):=by
 obtain⟨c,d,b⟩:=qP h;refine⟨?_,b,h,a,rfl⟩;show i+(runEnd t.mask i-i)<=t.mask;omega
theorem qF(t:PP)(h:Int):t.probeStart h=r8 t (bits h % (t.mask+1)) (bits h):=rfl
theorem mQ(h:Int):bits h<2^64:=by
 unfold bits;have:=TU h (show(0:Int)<2^64 by decide);have:=Tk h (show(2^64:Int)≠0 by decide);omega
theorem nu(t:PP)(h:Int):Pv t (t.probeStart h):=by
 rw[qF];exact pS (by have:=Wf (bits h) (show t.mask+1>0 by omega);omega) (mQ h)
noncomputable abbrev N_(mask i pt:Nat):Nat:=(i*5+1+pt/32) % (mask+1)
theorem AD{t:PP}{p:Probe}(h:0<p.more):t.advance p={p with j:=p.j+1,more:=p.more-1}:=by
 unfold advance;rw[OA h]
theorem wc{t:PP}{p:Probe}(h:p.more=0)(hd:p.dummy=Oi):t.advance p=r8 t (N_ t.mask p.i p.perturb) (p.perturb/32):=by
 unfold advance;rw[Ot (by omega)];unfold leap r8;simp only[hd]
theorem wZ(mask i pt:Nat):N_ mask i pt<=mask:=by
 have:=Wf (i*5+1+pt/32) (show mask+1>0 by omega);unfold N_;omega
theorem AC{t:PP}(v:Pv t p):Pv t (t.advance p):=by
 by_cases q:0<p.more
 .rw[AD q]
  exact⟨by have:=v.j;show p.j+1+(p.more-1)<=t.mask;omega,by have:=v.more;show p.more-1<=9;omega,v.i,v.pt,v.du⟩
 .rw[wc (by omega) v.du]
  exact pS (wZ _ _ _) (Ql (VV _ _) v.pt)
theorem lz:∀(n:Nat) {p:Probe},Pv t p->Pv t (fx t n p)
 |0,_,v=>v
 |n+1,_,v=>lz n (AC v)
theorem qm:∀(k:Nat) {p:Probe},Pv t p->k<=p.more->fx t k p={p with j:=p.j+k,more:=p.more-k}
 |0,p,v,h=>by cases p;rfl
 |k+1,p,v,h=>by
  rw[nQ,qm k v (by omega)];rw[AD (show 0<p.more-k by omega)];simp only[Probe.mk.injEq,and_true,true_and];omega
theorem nR{t:PP}{p:Probe}(v:Pv t p):fx t (p.more+1) p=r8 t (N_ t.mask p.i p.perturb) (p.perturb/32):=by
 rw[nQ,qm _ v (OD _)];exact wc (UG _) v.du
def bW(mask:Nat):Nat->Nat×Nat->Nat×Nat
 |0,x=>x
 |k+1,x=>bW mask k (N_ mask x.1 x.2,x.2/32)
theorem iK(mask:Nat):∀(k:Nat) (x:Nat×Nat),bW mask (k+1) x=(N_ mask (bW mask k x).1 (bW mask k x).2,(bW mask k x).2/32)
 |0,x=>rfl
 |k+1,x=>iK mask k _
theorem ui{t:PP}:∀(k:Nat) {p:Probe},Pv t p->∃n,n<=10*(k+1)/\fx t n p=r8 t (bW t.mask (k+1) (p.i,p.perturb)).1 (bW t.mask (k+1) (p.i,p.perturb)).2
 |0,p,v=>⟨p.more+1,by have:=v.more;omega,nR v⟩
 |k+1,p,v=>by
  obtain⟨n,hn,e⟩:=ui k v;have a:=lz n v;rw[e]at a;refine⟨n+((r8 t (bW t.mask (k+1) (p.i,p.perturb)).1 (bW t.mask (k+1) (p.i,p.perturb)).2).more+1),by have:=a.more;omega,?_⟩;rw[mC,e,nR a,iK t.mask (k+1)];rfl
def Mk(mask:Nat):Prop:=mask=7\/mask=31\/mask=127
noncomputable def M_(mask:Nat):Nat->Nat->Nat
 |0,i=>i
 |k+1,i=>M_ mask k ((i*5+1) % (mask+1))
theorem mq(mask:Nat):∀(a b i:Nat),M_ mask (a+b) i=M_ mask b (M_ mask a i)
 |0,b,i=>by rw[QJ];rfl
 |a+1,b,i=>by
  rw[show a+1+b=(a+b)+1 by omega];exact mq mask a b _
def HK(mask:Nat):Bool:=(M_ mask (mask+1) 0==0)&&(Oz (mask+1)).all λj=>(Oz (mask+1)).any λk=>M_ mask k 0==j
theorem K7{mask:Nat}(h:Mk mask):HK mask=On:=by
 rcases h with rfl|rfl|rfl<;>decide +kernel
theorem vt{mask i j:Nat}(h:Mk mask)(l:i<=mask)(m:j<=mask):∃k,k<=mask/\M_ mask k i=j:=by
 have o:=K7 h;unfold HK at o;rw[O9,Sv,Sc]at o;obtain⟨g,ha⟩:=o;obtain⟨a,e,c⟩:=Vx.mp (ha i (OV.mpr (by omega)));obtain⟨b,f,d⟩:=Vx.mp (ha j (OV.mpr (by omega)));rw[Sv]at c d;have:=OV.mp e;have:=OV.mp f;by_cases q:a<=b
 .refine⟨b-a,by omega,?_⟩
  rw[<-c,<-mq,show a+(b-a)=b by omega,d]
 .refine⟨b+(mask+1)-a,by omega,?_⟩
  rw[<-c,<-mq,show a+(b+(mask+1)-a)=(mask+1)+b by omega,mq,g,d]
theorem kQ(mask:Nat):∀(k i:Nat),bW mask k (i,0)=(M_ mask k i,0)
 |0,i=>rfl
 |k+1,i=>by
  show bW mask k (N_ mask i 0,0/32)=_;rw[show(0/32:Nat)=0 from rfl,kQ mask k];rfl
theorem nB(mask:Nat):∀(a b:Nat) (x:Nat×Nat),bW mask (a+b) x=bW mask b (bW mask a x)
 |0,b,x=>by rw[QJ];rfl
 |a+1,b,x=>by
  rw[show a+1+b=(a+b)+1 by omega];exact nB mask a b _
theorem nA(mask:Nat):∀(k:Nat) (x:Nat×Nat),(bW mask k x).2=x.2/32^k
 |0,x=>by simp[bW]
 |k+1,x=>by
  rw[iK,nA mask k x,WS,Nat.pow_succ]
theorem vb(mask:Nat):∀(k:Nat) (x:Nat×Nat),x.1<=mask->(bW mask k x).1<=mask
 |0,x,h=>h
 |k+1,x,h=>by rw[iK];exact wZ _ _ _
theorem Oe{t:PP}(h:Mk t.mask)(v:Pv t p)(a:j<=t.mask):∃n,n<10*turns t.mask/\(fx t n p).j=j:=by
 have z:(bW t.mask 13 (p.i,p.perturb)).2=0:=by
  rw[nA];exact Nat.div_eq_of_lt (O0 v.pt (by decide))
 have l:=vb t.mask 13 (p.i,p.perturb) v.i;obtain⟨k,c,e⟩:=vt h l a;obtain⟨n,hn,b⟩:=ui (12+k) v;refine⟨n,by unfold turns;omega,?_⟩;rw[b];show(bW t.mask (12+k+1) (p.i,p.perturb)).1=j;rw[show 12+k+1=13+k by omega,nB,show bW t.mask 13 (p.i,p.perturb)=((bW t.mask 13 (p.i,p.perturb)).1,0)from RQ rfl z,kQ];exact e
abbrev Lv(t:PP)(j:Nat):Prop:=∃k:Nat,t.place[k]?=on j
structure Tb (t:PP) (hs:List Int):Prop where
 km:Mk t.mask
 sz:t.place.size=hs.length
 rs:Rs t.place
 le:∀i j:Nat,t.place[i]?=on j->j<=t.mask
 du:t.dummies=#[]
 nf:t.place.size*5<t.mask*3
 rch:∀(i:Nat) (h:Int) (j:Nat),hs[i]?=on h->t.place[i]?=on j->∃n,(fx t n (t.probeStart h)).j=j/\∀m<n,Lv t (fx t m (t.probeStart h)).j
theorem Mk.odd(h:Mk m):m % 2=1/\7<=m/\m<=127:=by
 rcases h with rfl|rfl|rfl<;>decide
theorem gap{xs:Array Nat}(r:Rs xs):∀n,n<=xs.size->(∀i:Nat,i<n->xs[i]?=on i)\/∃j,j<n/\∀i:Nat,xs[i]?≠on j
 |0,_=> .inl λi h=>OX h (Q4 i)
 |n+1,h=>by
  rcases gap r n (by omega)with q|⟨j,c,b⟩
  .have e:xs[n]?=on xs[n]:=getElem?_pos xs n (by omega)
   by_cases z:xs[n]=n
   .refine .inl λi d=>?_
    by_cases w:i=n
    .subst w;rw[e,z]
    .exact q i (by omega)
   .have lt:n<=xs[n]:=by
     cases n with
     |zero=>omega
     |succ m=>
      have:=r m (m+1) _ _ (by omega) (q m (by omega)) e;omega
    refine .inr ⟨n,by omega,λi a=>?_⟩;rcases R5 i n with w|w|w
    .rw[q i w]at a;cases a;omega
    .subst w;rw[e]at a;exact z (O8 a)
    .have:=r n i _ _ w e a
     omega
  .exact .inr ⟨j,by omega,b⟩
theorem LF{xs:Array Nat}(r:Rs xs):∃j,j<=xs.size/\∀i:Nat,xs[i]?≠on j:=by
 rcases gap r xs.size (OD _)with q|⟨j,c,a⟩
 .refine⟨xs.size,OD _,λi e=>?_⟩
  have b:=(Pw.mp e).1;rw[q i b]at e;cases e;omega
 .exact⟨j,by omega,a⟩
theorem Ip{t:PP}(r:Rs t.place)(d:t.dummies=#[]):∀(fuel:Nat) (p:Probe) (e:Nat),Pv t p->e<fuel->¬Lv t (fx t e p).j->
  ∃m,m<=e/\(∀a<m,∃i,t.place[i]?=on (fx t a p).j/\hashAt i≠h)/\
   ((¬Lv t (fx t m p).j/\probe.go t hashAt h fuel p=on (.empty (fx t m p).j Oi))\/∃i,t.place[i]?=on (fx t m p).j/\hashAt i=h/\probe.go t hashAt h fuel p=on (.candidate (fx t m p).j i (fx t (m+1) p)))
 |0,_,_,_,h,_=>OX h (Q4 _)
 |fuel+1,p,e,v,hf,he=>by
  unfold probe.go;by_cases q:Lv t p.j
  .obtain⟨i,b⟩:=q
   rw[qJ r b];simp only;by_cases z:hashAt i=h
   .refine⟨0,PV _,λa hm=>OX hm (Q4 _),.inr ⟨i,b,z,?_⟩⟩
    rw[OA (by rw[Sv];exact z)];rfl
   .rw[Ot (by rw[Sv];exact z)]
    cases e with
    |zero=>exact OX ⟨i,b⟩ he
    |succ e=>
     obtain⟨m,hm,ha,c⟩:=Ip r d fuel (t.advance p) e (AC v) (by omega) he;refine⟨m+1,by omega,λa f=>?_,c⟩;cases a with
     |zero=>exact⟨i,b,z⟩
     |succ a=>exact ha a (by omega)
  .rw[wA d (λi b=>q ⟨i,b⟩)]
   refine⟨0,PV _,λa hm=>OX hm (Q4 _),.inl ⟨q,?_⟩⟩;simp only[v.du];rfl
theorem Tb.free{t:PP}(T:Tb t hs)(v:Pv t p):∃e,e<10*turns t.mask/\¬Lv t (fx t e p).j:=by
 obtain⟨j,f,a⟩:=LF T.rs;have:=T.nf;have:=T.km.odd;obtain⟨e,b,c⟩:=Oe T.km v (show j<=t.mask by omega);exact⟨e,b,λ⟨k,d⟩=>a k (by rw[<-c];exact d)⟩
theorem zI{α:Type}{xs:Array α}{p:Nat}{x:α}(b:p<=xs.size)(i:Nat):(insertAt xs p x)[i]?=if i<p then xs[i]? else if i=p then on x else xs[i-1]?:=by
 unfold insertAt;rw[Array.getElem?_append];have a:((xs.extract 0 p).push x).size=p+1:=by simp;omega
 rw[a];by_cases q:i<p
 .rw[OA (by omega),OA q,Xd,Xn]
  rw[Ot (by omega),Ww];simp;omega
 .by_cases z:i=p
  .subst z
   rw[OA (by omega),Ot (by omega),OA rfl,Xd,Xn];rw[OA (by omega)]
  .rw[Ot (by omega),Ot q,Ot z,Ww]
   by_cases w:i-1<xs.size
   .rw[OA (by omega)]
    congr 1;omega
   .rw[Ot (by omega),Q6 (by omega)]
theorem fJ{α:Type}{xs:Array α}{p:Nat}{x:α}(a:p<=xs.size):(insertAt xs p x).size=xs.size+1:=by
 unfold insertAt;simp;omega
theorem Tb.put{t:PP}{hs:List Int}(T:Tb t hs)(C:¬Lv t j)(hn:(fx t n (t.probeStart h)).j=j)(ha:∀m<n,Lv t (fx t m (t.probeStart h)).j)(nf:(t.place.size+1)*5<t.mask*3):
  (t.put j).1.dummies=#[]/\(t.put j).1.mask=t.mask/\(t.put j).1.place.size=t.place.size+1/\(t.put j).2<=t.place.size/\Tb (t.put j).1 (hs.take (t.put j).2++h::hs.drop (t.put j).2):=by
 obtain⟨b1,b2,b3⟩:=iz (j:=j) T.rs;have hd:has t.dummies j=Os:=by unfold has;rw[T.du];rfl
 have A:(t.put j).1.dummies=#[]:=by
  show(if has t.dummies j=On then _ else t.dummies)=#[];rw[hd,Ot OE,T.du]
 have ep:(t.put j).1.place=insertAt t.place (below t.place j) j:=rfl;have g:=λi=>zI (x:=j) b1 i;have B:∀x,Lv t x->Lv (t.put j).1 x:=λx ⟨k,l⟩=>by
  by_cases q:k<below t.place j
  .exact⟨k,by rw[ep,g,OA q];exact l⟩
  .exact⟨k+1,by rw[ep,g,Ot (by omega),Ot (by omega)];exact l⟩
 have it:∀m p,fx (t.put j).1 m p=fx t m p:=λm=>by
  induction m with
  |zero=>intro p;rfl
  |succ m ih=>intro p;exact ih (t.advance p)
 refine⟨A,rfl,by rw[ep,fJ b1],b1,⟨T.km,?_,?_,?_,A,?_,?_⟩⟩
 .rw[ep,fJ b1,T.sz]
  have:(t.put j).2<=hs.length:=by rw[<-T.sz];exact b1
  simp;omega
 .intro i k x y r c e
  rw[ep,g]at c e;have F:∀k,t.place[k]?≠on j:=λk l=>C ⟨k,l⟩;by_cases q1:i<below t.place j
  .rw[OA q1]at c
   by_cases q2:k<below t.place j
   .rw[OA q2]at e
    exact T.rs i k x y r c e
   .rw[Ot q2]at e
    by_cases q3:k=below t.place j
    .rw[OA q3]at e;cases e
     exact b2 i x q1 c
    .rw[Ot q3]at e
     exact T.rs i (k-1) x y (by omega) c e
  .rw[Ot q1]at c
   rw[Ot (by omega),Ot (by omega)]at e;by_cases q3:i=below t.place j
   .rw[OA q3]at c;cases c
    have L:=b3 (k-1) y (by omega) e;have:y≠j:=λz=>F (k-1) (by rw[e,z]);omega
   .rw[Ot q3]at c
    exact T.rs (i-1) (k-1) x y (by omega) c e
 .intro i x c
  rw[ep,g]at c;by_cases q1:i<below t.place j
  .rw[OA q1]at c;exact T.le i x c
  .rw[Ot q1]at c
   by_cases q3:i=below t.place j
   .rw[OA q3]at c;cases c
    have v:=lz n (nu t h);have:=v.j;show j<=t.mask;omega
   .rw[Ot q3]at c;exact T.le _ x c
 .rw[ep,fJ b1];exact nf
 .intro i h' x H c
  have N:(t.put j).2<=hs.length:=by rw[<-T.sz];exact b1
  have u:(t.put j).2=below t.place j:=rfl;rw[ep,g]at c;have d:(if i<below t.place j then hs[i]? else if i=below t.place j then on h else hs[i-1]?)=on h':=by
   rw[<-H,u];by_cases q1:i<below t.place j
   .rw[OA q1,Sm (by rw[Qg];omega),Wq q1]
   .rw[Ot q1,QG (by rw[Qg];omega),Qg,Nat.min_eq_left (by omega)]
    by_cases q3:i=below t.place j
    .rw[OA q3,q3,UG];rfl
    .rw[Ot q3,show i-below t.place j=(i-1-below t.place j)+1 by omega,Wz,TL]
     congr 1;omega
  have f:∀o,hs[o]?=on h'->t.place[o]?=on x->∃n,(fx (t.put j).1 n ((t.put j).1.probeStart h')).j=x/\∀m<n,Lv (t.put j).1 (fx (t.put j).1 m ((t.put j).1.probeStart h')).j:=λo a b=>by
   obtain⟨I,J,u⟩:=T.rch o h' x a b;refine⟨I,by rw[it];exact J,λm hm=>?_⟩;rw[it];exact B _ (u m hm)
  by_cases q1:i<below t.place j
  .rw[OA q1]at c d
   exact f i d c
  .rw[Ot q1]at c d
   by_cases q3:i=below t.place j
   .rw[OA q3]at c d
    cases c;cases d;refine⟨n,by rw[it];exact hn,λm hm=>?_⟩;rw[it];exact B _ (ha m hm)
   .rw[Ot q3]at c d
    exact f (i-1) d c
theorem uj{t u:PP}(h:t.mask=u.mask):∀(n:Nat) (p:Probe),fx t n p=fx u n p
 |0,p=>rfl
 |n+1,p=>by
  show fx t n (t.advance p)=fx u n (u.advance p);have:t.advance p=u.advance p:=by unfold advance;rw[h]
  rw[this];exact uj h n _
theorem wy{t u:PP}(h:t.mask=u.mask)(x:Int):t.probeStart x=u.probeStart x:=by unfold probeStart;rw[h]
noncomputable abbrev tm(mask:Nat):PP:={mask,place:=#[],dummies:=#[],finger:=0,led:=On,moves:=0,plain:=On}
noncomputable abbrev fr(owner:Array (Option Nat))(j:Nat):Bool:=(owner.getD j (on 0)).isNone
theorem vU{mask:Nat}{owner:Array (Option Nat)}:∀(fuel i pt:Nat),i<=mask->pt<2^64->(∃b,b<fuel/\fr owner (bW mask b (i,pt)).1=On)->
  ∃n,layClean.free mask owner fuel i pt=on (fx (tm mask) n (r8 (tm mask) i pt)).j/\fr owner (fx (tm mask) n (r8 (tm mask) i pt)).j=On/\∀m<n,fr owner (fx (tm mask) m (r8 (tm mask) i pt)).j=Os
 |0,_,_,_,_,⟨b,h,_⟩=>OX h (Q4 b)
 |fuel+1,i,pt,hi,hp,⟨b,hb,hf⟩=>by
  have v:=pS (t:=tm mask) hi hp;obtain⟨r1,B,C⟩:=qP hi;have f:(r8 (tm mask) i pt).more=runEnd mask i-i:=rfl;have d:∀k,k<=runEnd mask i-i->(fx (tm mask) k (r8 (tm mask) i pt)).j=i+k:=λk c=>by
   rw[qm k v c];rfl
  unfold layClean.free;split
  .rename_i k c
   obtain⟨g,l,o⟩:=List.find?_range_eq_some.mp c;have:=OV.mp l;refine⟨k,by rw[d k (by omega)],by rw[d k (by omega)];exact g,λm hm=>?_⟩;rw[d m (by omega)];have:=o m hm;simpa using this
  .rename_i c
   have hn:∀k,k<=runEnd mask i-i->fr owner (i+k)=Os:=λk p=>by
    have:=List.find?_range_eq_none.mp c k (by omega);simpa using this
   cases b with
   |zero=>
    have r:=hn 0 (by omega);exact OX hf (by rw[show(bW mask 0 (i,pt)).1=i+0 from rfl,r];exact OE)
   |succ b=>
    obtain⟨n,u,y,A⟩:=vU fuel (N_ mask i pt) (pt/32) (wZ _ _ _) (Ql (VV _ _) hp) ⟨b,by omega,hf⟩;have a:∀m,fx (tm mask) (runEnd mask i-i+1+m) (r8 (tm mask) i pt)=fx (tm mask) m (r8 (tm mask) (N_ mask i pt) (pt/32)):=λm=>by
     rw[mC,<-f,nR v];rfl
    refine⟨runEnd mask i-i+1+n,by rw[a];exact u,by rw[a];exact y,λm hm=>?_⟩;by_cases q:m<=runEnd mask i-i
    .rw[d m q];exact hn m q
    .obtain⟨e,rfl⟩:∃e,m=runEnd mask i-i+1+e:=⟨m-(runEnd mask i-i+1),by omega⟩
     rw[a];exact A e (by omega)
structure Ow (mask:Nat) (owner:Array (Option Nat)) (hs:List Int):Prop where
 sz:owner.size=mask+1
 lt:∀j k:Nat,owner[j]?=on (on k)->k<hs.length
 un:∀j j' k:Nat,owner[j]?=on (on k)->owner[j']?=on (on k)->j=j'
 cn:owner.toList.countP (·.isSome)=hs.length
 ex:∀(k:Nat) (h:Int),hs[k]?=on h->∃j n:Nat,owner[j]?=on (on k)/\(fx (tm mask) n ((tm mask).probeStart h)).j=j/\∀m<n,∃k':Nat,owner[(fx (tm mask) m ((tm mask).probeStart h)).j]?=on (on k')
theorem xv{mask:Nat}{owner:Array (Option Nat)}(hs:owner.size=mask+1){j:Nat}(b:j<=mask):(fr owner j=On↔owner[j]?=on Oi)/\(fr owner j=Os↔∃k:Nat,owner[j]?=on (on k)):=by
 have e:owner[j]?=on owner[j]:=getElem?_pos owner j (by omega);have a:owner.getD j (on 0)=owner[j]:=by simp[Rt,show j<owner.size by omega]
 unfold fr;rw[a,e];cases owner[j]<;>simp
theorem Ow.step{mask:Nat}{owner:Array (Option Nat)}{hs:List Int}(O:Ow mask owner hs)(h:Int)(hm:Mk mask)(W:hs.length<=mask):
  ∃j,layClean.free mask owner (turns mask) (bits h % (mask+1)) (bits h)=on j/\Ow mask (owner.setIfInBounds j (on hs.length)) (hs++[h]):=by
 have u:bits h % (mask+1)<=mask:=by have:=Wf (bits h) (show mask+1>0 by omega);omega
 have⟨v,h1,h2⟩:∃v,v<=mask/\fr owner v=On:=by
  refine R3 λz=>?_;have all:∀a∈owner.toList,Option.isSome a=On:=λa ha=>by
   obtain⟨i,g,e⟩:=U3 ha;have L:i<owner.size:=by simpa using g
   have N:fr owner i=Os:=by
    cases q:fr owner i with
    |false=>rfl
    |true=>exact OX ⟨i,by have:=O.sz;omega,q⟩ z
   obtain⟨k,A⟩:=(xv O.sz (show i<=mask by have:=O.sz;omega)).2.mp N;have:owner[i]?=on a:=by rw[<-RT,Oo g,e]
   rw[this]at A;cases A;rfl
  have:=List.countP_eq_length.mpr all;rw[O.cn]at this;have:=O.sz;simp at*;omega
 have z:(bW mask 13 (bits h % (mask+1),bits h)).2=0:=by
  rw[nA];exact Nat.div_eq_of_lt (O0 (mQ h) (by decide))
 have l:=vb mask 13 (bits h % (mask+1),bits h) u;obtain⟨k,A,e⟩:=vt hm l h1;have Q:fr owner (bW mask (13+k) (bits h % (mask+1),bits h)).1=On:=by
  rw[nB,show bW mask 13 (bits h % (mask+1),bits h)=((bW mask 13 (bits h % (mask+1),bits h)).1,0)from RQ rfl z,kQ];show fr owner (M_ mask k _)=On;rw[e];exact h2
 obtain⟨n,F,H,R⟩:=vU (owner:=owner) (turns mask) (bits h % (mask+1)) (bits h) u (mQ h) ⟨13+k,by unfold turns;omega,Q⟩;have I:∀m,(fx (tm mask) m (r8 (tm mask) (bits h % (mask+1)) (bits h))).j<=mask:=λm=>by
  have:=(lz m (pS (t:=tm mask) u (mQ h))).j;show _<=(tm mask).mask;omega
 generalize J:(fx (tm mask) n (r8 (tm mask) (bits h % (mask+1)) (bits h))).j=j at F H;have T:j<=mask:=by rw[<-J];exact I n
 have o:owner[j]?=on Oi:=(xv O.sz T).1.mp H;have p:j<owner.size:=by have:=O.sz;omega
 have set:∀x:Nat,(owner.setIfInBounds j (on hs.length))[x]?=if j=x then on (on hs.length)else owner[x]?:=λx=>by
  rw[Array.getElem?_setIfInBounds];by_cases q:j=x
  .rw[OA q,OA q,OA p]
  .rw[Ot q,Ot q]
 refine⟨j,F,⟨by rw[Array.size_setIfInBounds];exact O.sz,λx k c=>?_,λx y k c f=>?_,?_,λk h' d=>?_⟩⟩
 .rw[set]at c
  rw[ON];by_cases q:j=x
  .rw[OA q]at c;cases c;simp
  .rw[Ot q]at c
   have:=O.lt x k c;omega
 .rw[set]at c f
  by_cases q:j=x
  .rw[OA q]at c;cases c
   by_cases r:j=y
   .omega
   .rw[Ot r]at f
    exact OX (O.lt y _ f) (PF _)
  .rw[Ot q]at c
   by_cases r:j=y
   .rw[OA r]at f;cases f
    exact OX (O.lt x _ c) (PF _)
   .rw[Ot r]at f
    exact O.un x y k c f
 .rw[Array.toList_setIfInBounds,List.countP_set (by simpa using p),O.cn]
  have:owner.toList[j]'(by simpa using p)=Oi:=by
   have e:=getElem?_pos owner j p;rw[o]at e;rw[Rl];exact(O8 e).symm
  rw[this];simp
 .by_cases q:k<hs.length
  .rw[Sm q]at d
   obtain⟨x,U,a1,a2,a3⟩:=O.ex k h' d;refine⟨x,U,?_,a2,λm hm=>?_⟩
   .rw[set,Ot (λw=>by subst w;rw[o]at a1;cases a1)];exact a1
   .obtain⟨B,b⟩:=a3 m hm
    exact⟨B,by rw[set,Ot (λw=>by rw[<-w,o]at b;cases b)];exact b⟩
  .have C:=(OF.mp d).1
   rw[ON,PH]at C;have:k=hs.length:=by omega
   subst this;rw[QG (OD _),UG]at d;cases d;refine⟨j,n,by rw[set,OA rfl],J,λm hm=>?_⟩;obtain⟨B,b⟩:=(xv O.sz (I m)).2.mp (R m hm);exact⟨B,by rw[qF,set,Ot (λw=>by rw[<-w,o]at b;cases b)];exact b⟩
theorem Ow.nil(mask:Nat):Ow mask (Array.replicate (mask+1) Oi) []:=by
 have g:∀x:Nat,(Array.replicate (mask+1) (Oi:Option Nat))[x]?=if x<mask+1 then on Oi else Oi:=λx=>Array.getElem?_replicate;refine⟨by simp,λj k h=>?_,λj b k h=>?_,by simp,λk h a=>by simp at a⟩
 .rw[g]at h
  split at h<;>cases h
 .rw[g]at h
  split at h<;>cases h
theorem ue{mask:Nat}(hm:Mk mask):∀(l:List Int) (owner:Array (Option Nat)) (hs:List Int),Ow mask owner hs->hs.length+l.length<=mask+1->∃a,l.foldl (λ(acc:Option (Array (Option Nat)×Nat)) h=>do
   let (owner,k) <-acc
   let j <-layClean.free mask owner (turns mask) (bits h % (mask+1)) (bits h)
   QR (owner.setIfInBounds j (on k),k+1)) (on (owner,hs.length))=on (a,hs.length+l.length)/\Ow mask a (hs++l)
 |[],owner,hs,O,_=>⟨owner,rfl,by rw[Pf];exact O⟩
 |h::l,owner,hs,O,hl=>by
  rw[OO]at hl;obtain⟨j,e,d⟩:=O.step h hm (by omega);obtain⟨f,b,c⟩:=ue hm l _ (hs++[h]) d (by rw[ON,PH];omega);refine⟨f,?_,by rw[PY]at c;exact c⟩;rw[List.foldl_cons];simp only[Option.bind_eq_bind,Q9,e];rw[ON,PH]at b;rw[OO,show hs.length+(l.length+1)=hs.length+1+l.length by omega];exact b
theorem Lr{mask:Nat}(hm:Mk mask)(hs:Array Int)(b:hs.size<=mask+1):∃owner,layClean mask hs=on owner/\Ow mask owner hs.toList:=by
 obtain⟨o,e,O⟩:=ue hm hs.toList _ [] (Ow.nil mask) (by simpa using b);refine⟨o,?_,O⟩;unfold layClean;rw[<-Array.foldl_toList];have a:=e;simp only[VO]at a;exact(Px (Option.map (·.1)) a).trans rfl
theorem ut{α β:Type}{f:α->Option β}{g:α->β}:∀{l:List α},(∀a∈l,f a=on (g a))->l.filterMap f=l.map g
 |[],_=>rfl
 |a::l,h=>by
  rw[Qr,h a Ox,OG,ut λb c=>h b (Op a c)]
noncomputable def bU(mask:Nat)(owner:Array (Option Nat)):List (Nat×Nat):=(Oz (mask+1)).filterMap λj=>(owner.getD j Oi).map (j,·)
theorem CP{mask:Nat}{owner:Array (Option Nat)}(hs:owner.size=mask+1){j k:Nat}:(j,k)∈bU mask owner↔owner[j]?=on (on k):=by
 unfold bU;rw[TM];constructor
 .rintro⟨x,c,e⟩
  have d:=OV.mp c;have a:owner.getD x Oi=owner[x]:=by simp[Rt,show x<owner.size by omega]
  rw[a]at e;cases q:owner[x]with
  |none=>rw[q]at e;cases e
  |some f=>
   rw[q]at e;simp only[QK,Wr,Prod.mk.injEq]at e;obtain⟨rfl,rfl⟩:=e;rw[getElem?_pos owner x (by omega),q]
 .intro e
  have b:=(Pw.mp e).1;refine⟨j,OV.mpr (by omega),?_⟩;have a:owner.getD j Oi=owner[j]:=by simp[Rt,b]
  rw[getElem?_pos owner j b]at e;rw[a,O8 e];rfl
theorem zm(mask:Nat)(owner:Array (Option Nat)):(bU mask owner).Pairwise λa b=>a.1<b.1:=by
 unfold bU;refine List.Pairwise.filterMap _ (λa f h b d g c=>?_) List.pairwise_lt_range;cases q:owner.getD a Oi with
 |none=>rw[q]at d;cases d
 |some k=>
  rw[q]at d;cases e:owner.getD f Oi with
  |none=>rw[e]at c;cases c
  |some i=>
   rw[e]at c;cases d;cases c;exact h
theorem yA{t:PP}{hs:Array Int}(hm:Mk (sizeAbove wanted-1))(nf:hs.size*5<(sizeAbove wanted-1)*3):
  ∃(t':PP) (c:Array Nat),t.relaid hs wanted=on (t',c)/\c.toList.Perm (Oz hs.size)/\Tb t' (c.toList.map λk=>hs.getD k 0)/\t'.led=t.led/\t'.plain=t.plain:=by
 have ho:=hm.odd;obtain⟨owner,e,O⟩:=Lr hm hs (by omega);generalize T:sizeAbove wanted-1=mask at*;have d:hs.toList.length=hs.size:=by simp
 have f:=zm mask owner;have g:∀{j k:Nat},(j,k)∈bU mask owner↔owner[j]?=on (on k):=CP O.sz;have U:t.relaid hs wanted=on ({mask,place:=((bU mask owner).map (·.1)).toArray,dummies:=#[],finger:=t.finger,led:=t.led,moves:=t.movedTo mask,plain:=t.plain},((bU mask owner).map (·.2)).toArray):=by
  unfold relaid laid;rw[T,e];rfl
 have perm:((bU mask owner).map (·.2)).Perm (Oz hs.size):=by
  refine(List.perm_ext_iff_of_nodup ?_ Vy).mpr λk=>?_
  .unfold List.Nodup
   rw[T9];refine List.Pairwise.imp_of_mem (R:=λa b=>a.1<b.1) (λ{a b} ha B h z=>?_) f;obtain⟨j,k⟩:=a;obtain⟨r,v⟩:=b;have W:k=v:=z;subst W;have:=O.un j r k (g.mp ha) (g.mp B);have h':j<r:=h;omega
  .rw[OC,OV]
   constructor
   .rintro⟨⟨j,v⟩,h,rfl⟩
    have:=O.lt j v (g.mp h);rwa[d]at this
   .intro A
    obtain⟨j,n,C,_⟩:=O.ex k _ (Oo (by rw[d];exact A));exact⟨(j,k),g.mpr C,rfl⟩
 have l:(bU mask owner).length=hs.size:=by
  have:=perm.length_eq;rwa[Oh,OW]at this
 refine⟨_,_,U,by simpa using perm,?_,rfl,rfl⟩;have pg:∀{i:Nat} {x:Nat},(((bU mask owner).map (·.1)).toArray)[i]?=on x->∃k,(bU mask owner)[i]?=on (x,k):=λ{i x} h=>by
  rw[UK,Ou]at h;cases q:(bU mask owner)[i]? with
  |none=>rw[q]at h;cases h
  |some a=>
   rw[q]at h;cases h;exact⟨a.2,rfl⟩
 have F:∀{j k:Nat},owner[j]?=on (on k)->∃i:Nat,(((bU mask owner).map (·.1)).toArray)[i]?=on j:=λ{j k} h=>by
  obtain⟨i,X,Y⟩:=U3 (g.mpr h);exact⟨i,by rw[UK,Ou,Oo X,Y];rfl⟩
 refine⟨hm,?_,?_,?_,rfl,?_,?_⟩
 .show(((bU mask owner).map (·.1)).toArray).size=_
  simp
 .intro i k x y H Z hy
  obtain⟨a,ha⟩:=pg Z;obtain⟨b,B⟩:=pg hy;obtain⟨C,I⟩:=OF.mp ha;obtain⟨h2,e2⟩:=OF.mp B;have:=Rj.mp f i k C h2 H;rw[I,e2]at this;exact this
 .intro i j h
  obtain⟨a,ha⟩:=pg h;have:=(Pw.mp (g.mp (OQ ha))).1;have:=O.sz;show j<=mask;omega
 .show(((bU mask owner).map (·.1)).toArray).size*5<mask*3
  have:(((bU mask owner).map (·.1)).toArray).size=hs.size:=by simp[l]
  omega
 .intro i h j J hj
  obtain⟨k,A⟩:=pg hj;have o:=g.mp (OQ A);have eh:hs.toList[k]?=on h:=by
   rw[Ou]at J;have I:((bU mask owner).map (·.2)).toArray.toList[i]?=on k:=by
    show((bU mask owner).map (·.2))[i]?=_;rw[Ou,A];rfl
   rw[I]at J;have N:k<hs.size:=by have:=O.lt j k o;rwa[d]at this
   have:hs.getD k 0=h:=O8 J;rw[RT,getElem?_pos hs k N,<-this];simp[Rt,N]
  obtain⟨r,n,a1,a2,a3⟩:=O.ex k h eh;have:=O.un j r k o a1;subst this;have tr:∀(u:PP),u.mask=mask->∀m,fx u m (u.probeStart h)=fx (tm mask) m ((tm mask).probeStart h):=λu Q m=>by
   rw[wy (u:=tm mask) Q,uj (u:=tm mask) Q]
  refine⟨n,by rw[tr _ rfl];exact a2,λm L=>?_⟩;rw[tr _ rfl];obtain⟨v,p⟩:=a3 m L;exact F p
theorem qR{t:PP}(a:t.probe f h p=r)(T:Tb t hs)(v:Pv t p)(b:e<10*turns t.mask)(c:¬Lv t (fx t e p).j):
  ∃m,m<=e/\(∀d<m,∃i,t.place[i]?=on (fx t d p).j/\f i≠h)/\
   ((¬Lv t (fx t m p).j/\r=on (.empty (fx t m p).j Oi))\/∃i,t.place[i]?=on (fx t m p).j/\f i=h/\r=on (.candidate (fx t m p).j i (fx t (m+1) p))):=by
 subst a;exact Ip T.rs T.du _ p e v b c
section
variable{prog:Pc}{w:Pk}{A:PU}{E:Ov->OB->Prop}{s:OB}
noncomputable abbrev js(prog:Pc)(w:Pk):HeapKind prog w (List Int):=tupleKind (UV prog w)
noncomputable abbrev hsh(prog:Pc)(w:Pk)(k:List Int):Int:=(js prog w).hash k
theorem Tb.fits{t:PP}{hs:List Int}(T:Tb t hs)(hn:hs.length=n):t.fits n=On:=by
 have:=T.nf;have:=T.sz;have:=T.km.odd;unfold VR SetTable.fill;rw[T.du];simp;omega
theorem items_int(h:ItemsAre (UV prog w) ks vs):∀v∈vs,∃n t,v=R9 n t:=by
 induction h with
 |nil=>intro v hv;cases hv
 |@cons k v' ks vs h1 _ ih=>
  intro v hv;rcases OK.mp hv with rfl|hv
  .obtain⟨t,e⟩:=Vi h1
   exact⟨_,t,e⟩
  .exact ih v hv
theorem xW{M:Model}{o:O7}(b:s.heap.get? a=on o)(h:Q o.cls s):OH M A (typeOf (.ref a)) Q E s:=by
 show OH M A (loadPart a _>>=_) Q E s;exact My (wpAny_loadPart b (Oj h))
theorem tP(f:(js prog w).is s.heap k x)(h:Q Os s):OH (O4 prog w) A (VZ 8 (.ref x)) Q E s:=by
 obtain⟨o,b,n,e,g,hd,i⟩:=f;unfold VZ;refine My (xW e ?_);rw[g];simp only[Yj,PM];refine My (Oj ?_);simp only[Ra,OT,PD];refine My (QB e hd ?_);refine My ?_;show OH _ _ (forIn b _ _) _ _ s;rw[<-Sy];refine UM _ (λrest r s'=>r.1=Oi/\s'=s/\∀v∈rest,∃n t,v=R9 n t) _ ?_ ?_ _ _ ⟨rfl,rfl,items_int i⟩
 .rintro v rest r s' ⟨c,rfl,a⟩
  obtain⟨n,t,rfl⟩:=a v Ox;unfold VZ;refine My (Oj ?_);simp only[OT,PD];exact Oj ⟨rfl,rfl,λu d=>a u (Op _ d)⟩
 .rintro⟨r1,j⟩ s' ⟨c,rfl,_⟩
  simp only at c;subst c;exact Oj h
theorem DW(e:(js prog w).is s.heap k x)(h:Q On s):OH (O4 prog w) A (hashByValue 8 (.ref x)) Q E s:=by
 have f:=Wx (s:=s) e;obtain⟨o,b,n,g,j,hd,i⟩:=e;unfold hashByValue;refine My (Rc f F.slot_tuple_hash.lookup ?_);simp only;refine My (QB g hd ?_);refine My ?_;show OH _ _ (forIn b _ _) _ _ s;rw[<-Sy];refine UM _ (λrest r s'=>r.1=Oi/\s'=s/\∀v∈rest,∃n t,v=R9 n t) _ ?_ ?_ _ _ ⟨rfl,rfl,items_int i⟩
 .rintro v rest r s' ⟨c,rfl,a⟩
  obtain⟨n,t,rfl⟩:=a v Ox;unfold hashByValue;refine My (Oj ?_);simp only[Ra,OT,PD];exact Oj ⟨rfl,rfl,λu d=>a u (Op _ d)⟩
 .rintro⟨r1,l⟩ s' ⟨c,rfl,_⟩
  simp only at c;subst c;exact Oj h
theorem Jx(f:(js prog w).is s.heap k x):∀(l:List (List Int×Oq)) {Q:Bool->OB->Prop},(∀y∈l,(js prog w).is s.heap y.1 y.2)->Q Os s->OH (O4 prog w) A (V1 (.ref x) (l.map λy=>OM y.2)) Q E s:=by
 intro l Q h i;unfold V1;refine My ?_;refine UM _ (λrest r s'=>r.1=Oi/\s'=s/\∃b:List (List Int×Oq),rest=b.map (λy=>OM y.2)/\∀y∈b,(js prog w).is s.heap y.1 y.2) _ ?_ ?_ _ _ ⟨rfl,rfl,l,rfl,h⟩
 .rintro v rest r s' ⟨d,rfl,b,e,a⟩
  cases b with
  |nil=>cases e
  |cons y b=>
   cases e;have g:=a y Ox;have nxt:(Oi:Option Bool)=Oi/\s'=s'/\∃c:List (List Int×Oq),b.map (λy=>OM y.2)=c.map (λy=>OM y.2)/\∀y∈c,(js prog w).is s'.heap y.1 y.2:=⟨rfl,rfl,b,rfl,λu j=>a u (Op y j)⟩;by_cases q:x==y.2
   .simp only[q,Bool.true_or,PM]
    exact Oj nxt
   .simp only[q,Bool.false_or,carriedByValue,TF,OT,PD]
    refine My ((js prog w).quiet f ?_);simp only[Ra,OT,PD];refine My ((js prog w).quiet g ?_);simp only[Ra,OT,PD];refine My (tP f ?_);simp only[OT,PD];refine My (tP g ?_);simp only[OT,PD];exact Oj nxt
 .rintro⟨r1,m⟩ s' ⟨d,rfl,_⟩
  simp only at d;subst d;exact Oj i
theorem yj{o:O7}{es:Array (Int×Ov)}{t:PP}{xs:List (List Int×Oq)}(hu:A.units<T4)(ho:s.heap.get? a=on o)(hd:o.data= .set es ep t)
  (H:es.toList=xs.map λx=>(hsh prog w x.1,OM x.2)) (hx:∀x∈xs,(js prog w).is s.heap x.1 x.2) (T:Tb t (xs.map λx=>hsh prog w x.1)) (hk:(js prog w).is s.heap k b)
  (he:e<10*turns t.mask) (U:¬Lv t (fx t e (t.probeStart (hsh prog w k))).j) (ha:∀m<e,Lv t (fx t m (t.probeStart (hsh prog w k))).j)
  (q1:k∈xs.map (·.1)->Q (.there Oi) s) (q2:k∉xs.map (·.1)->Q (.free (fx t e (t.probeStart (hsh prog w k))).j Os) s):
  ∀(n c m:Nat) (st:Option Probe),e=m+n->n<c->st.getD (t.probeStart (hsh prog w k))=fx t m (t.probeStart (hsh prog w k))->(∀g<m,∀(i:Nat) x,t.place[i]?=on (fx t g (t.probeStart (hsh prog w k))).j->xs[i]?=on x->x.1≠k)->
   OH (O4 prog w) A (setSearchFrom a (.ref b) (hsh prog w k) On c st) Q E s:=by
 have hsz:es.size=xs.length:=by rw[<-Pb,H,Oh]
 have W:t.fits es.size=On:=T.fits (by rw[Oh,hsz]);have l:∀i:Nat,es[i]?=(xs[i]?).map λx=>(hsh prog w x.1,OM x.2):=λi=>by rw[<-RT,H,Ou]
 have gw:t.gaveWay=Os:=by
  have:=T.km.odd;unfold SetTable.gaveWay;rw[WB];omega
 intro n
 induction n using Nat.strongRecOn with
 |_ n ih=>
  intro c m st em hfu hst p;cases c with
  |zero=>omega
  |succ c=>
   unfold setSearchFrom;refine My (Qy ho hd W ?_)
   dsimp only
   rw[hst,gw];simp only[OT,PD];have v:=lz m (nu t (hsh prog w k));have it:∀n',fx t n' (fx t m (t.probeStart (hsh prog w k)))=fx t (m+n') (t.probeStart (hsh prog w k)):=λn'=>(mC t m n' _).symm;have same:∀{i O j:Nat},t.place[i]?=on j->t.place[O]?=on j->i=O:=λ{i O j} u C=>by
    rcases R5 i O with q|q|q
    .exact OX (T.rs i O j j q u C) (PF j)
    .exact q
    .exact OX (T.rs O i j j q C u) (PF j)
   split
   .rename_i X heq
    obtain⟨g,hm',r,d⟩:=qR heq T v (e:=n) (by omega) (by rw[it,<-em];exact U);rcases d with⟨Y,I⟩|⟨i,R,hfi,I⟩
    .cases I
     have Z:g=n:=by
      rcases Vu g n with q|q
      .rw[it]at Y
       exact OX (ha (m+g) (by omega)) Y
      .omega
     subst Z;refine Oj ?_;rw[it,<-em];refine q2 λhmem=>?_;obtain⟨x,hx1,J⟩:=OC.mp hmem;obtain⟨B,hi0,ei0⟩:=U3 hx1;have h:xs[B]?=on x:=by rw[Oo hi0,ei0]
     have L:B<t.place.size:=by have:=T.sz;rw[Oh]at this;omega
     obtain⟨F,a1,a2⟩:=T.rch B (hsh prog w k) t.place[B] (by rw[Ou,h,<-J];rfl) (getElem?_pos t.place B L);have hlt:F<e:=by
      rcases R5 F e with q|q|q
      .exact q
      .subst q
       exact OX ⟨B,by rw[a1];exact getElem?_pos t.place B L⟩ U
      .exact OX (a2 e q) U
     have hp0:t.place[B]?=on (fx t F (t.probeStart (hsh prog w k))).j:=by rw[a1];exact getElem?_pos t.place B L
     by_cases q:F<m
     .exact p F q B x hp0 h J
     .obtain⟨i,u,C⟩:=r (F-m) (by omega)
      rw[it,show m+(F-m)=F by omega]at u;have:=same u hp0;subst this;refine C ?_;show(es[i]?.map (·.1)).getD 0=_;rw[l,h,<-J];rfl
    .cases I
     have N:i<xs.length:=by
      have u:=(Pw.mp R).1;have:=T.sz;rw[Oh]at this;omega
     have h:xs[i]?=on xs[i]:=Oo N;have hei:es[i]?=on (hsh prog w xs[i].1,OM xs[i].2):=by rw[l,h];rfl
     have hxk:=hx xs[i] (Pq N);rw[it]at R;simp only;have el:(PQ (λx=>x.snd) (Array.filter (λx=>x.fst==hsh prog w k) es).toList)=(xs.filter λy=>hsh prog w y.1==hsh prog w k).map λy=>OM y.2:=by
      rw[Array.toList_filter,H,VN,Oy];rfl
     rw[el];have seen:∀{Q':Bool->OB->Prop},Q' Os s->OH (O4 prog w) A (V1 (.ref b) ((xs.filter λy=>hsh prog w y.1==hsh prog w k).map λy=>OM y.2)) Q' E s:=λhq=>Jx hk _ (λy hy=>hx y (SB.mp hy).1) hq;have sm:t.sameMemory t.moves t.mask=on On:=by unfold sameMemory;simp
     have sl:t.slot (fx t (m+g) (t.probeStart (hsh prog w k))).j= .live i:=qJ T.rs R;cases hled:t.led
     all_goals simp only[UN,Ra,OT,PM,PD,it,hei]
     all_goals try refine My (seen ?_)
     all_goals try simp only[OT,PD]
     all_goals
      refine My (P3 ((js prog w).eqBool hu hxk hk (My (Qy ho hd W ?_))));simp only[S5];by_cases q:xs[i].1=k
      .rw[OA (OL q)]
       exact Oj (q1 (OC.mpr ⟨xs[i],Pq N,q⟩))
      .rw[Ot (by simpa using q)]
       simp only[sm,PM,sl,hei];refine My ?_;unfold isSame;simp only[Yj,PM];refine Oj (My (Oj ?_));simp only[PM];rw[Ot (by simpa using q)];have Z:g<n:=by
        rcases Vu g n with z|z
        .exact z
        .obtain rfl:g=n:=by omega
         rw[<-em]at R;exact OX ⟨i,R⟩ U
       refine ih (n-(g+1)) (by omega) c (m+g+1) _ (by omega) (by omega) rfl λm2 hm2 i2 x2 u C z=>?_;by_cases q1:m2<m
       .exact p m2 q1 i2 x2 u C z
       .by_cases q2:m2=m+g
        .subst q2
         have:=same R u;subst this;rw[h]at C;cases C;exact q z
        .obtain⟨i3,h3,h4⟩:=r (m2-m) (by omega)
         rw[it,show m+(m2-m)=m2 by omega]at h3;have:=same h3 u;subst this;refine h4 ?_;show(es[i3]?.map (·.1)).getD 0=_;rw[l,C,<-z];rfl
   .rename_i hno
    have key:∀f:Nat->Int,(∀X,t.probe f (hsh prog w k) (fx t m (t.probeStart (hsh prog w k)))=on X->False)->False:=λf W=>by
     obtain⟨g,hm',r,d⟩:=qR (f:=f) rfl T v (e:=n) (by omega) (by rw[it,<-em];exact U);rcases d with⟨_,I⟩|⟨i,_,_,I⟩
     .exact W _ I
     .exact W _ I
    exact(key _ hno).elim
theorem NO{P:Nat->Prop}:∀n,P n->∃m,m<=n/\P m/\∀k<m,¬P k:=by
 intro n
 induction n using Nat.strongRecOn with
 |_ n ih=>
  intro h;by_cases q:∃k,k<n/\P k
  .obtain⟨k,a,b⟩:=q
   obtain⟨m,d,c⟩:=ih k a b;exact⟨m,by omega,c⟩
  .exact⟨n,OD n,h,λk a b=>q ⟨k,a,b⟩⟩
def qx(prog:Pc)(w:Pk)(h:P4)(a:Oq)(xs:List (List Int×Oq)):Prop:=
 ∃o es ep t,h.get? a=on o/\o.ExactSet/\o.data= .set es ep t/\(es.toList=xs.map λx=>(hsh prog w x.1,OM x.2))/\(xs.map (·.1)).Nodup/\(∀x∈xs,(js prog w).is h x.1 x.2)/\(Tb t (xs.map λx=>hsh prog w x.1))/\t.plain=On/\t.led=!(w.params.followText "set-order")
theorem nZ{h h':P4}{o:O7}{es ep t}(x:(js prog w).is h k b)(i:h.get? a=on o)(hd:o.data= .set es ep t)(hs:Pa a h h'):(js prog w).is h' k b:=by
 obtain⟨g,c,n,e,j,d,l⟩:=x;have f:b≠a:=by
  rintro rfl;obtain rfl:g=o:=O8 (e.symm.trans i);rw[hd]at d;exact nomatch d
 exact⟨g,c,n,(hs.2 b f).trans e,j,d,l⟩
theorem qE{h:P4}{o:O7}(c:h.get? a=on o)(hd:o.data= .set es ep t)(b:Array (Int×Ov))(t':PP):(h.update a (UH b t')).get? a=on {o with data:= .set b (ep+1) t'}:=by
 have:=Rh (UH b t') c (by rw[putSet_of b t' hd];rfl);rw[putSet_of b t' hd]at this;exact this
theorem KU{t:PP}(T:Tb t hs)(j:Nat):(t.put j).1.dummies=#[]/\(t.put j).1.place.size=t.place.size+1/\(t.put j).2<=t.place.size:=by
 obtain⟨b1,b2,b3⟩:=iz (j:=j) T.rs;have hd:has t.dummies j=Os:=by unfold has;rw[T.du];rfl
 refine⟨?_,fJ b1,b1⟩;show(if has t.dummies j=On then _ else t.dummies)=#[];rw[hd,Ot OE,T.du]
theorem JL{α β:Type}{xs:List α}{ys:Array β}{f:α->β}(e:ys.toList=xs.map f){p:Nat}(c:p<=ys.size)(x:α):(insertAt ys p (f x)).toList=(xs.take p++x::xs.drop p).map f:=by
 unfold insertAt;simp only[Array.toList_append,XI,Array.toList_extract];have a:(ys.toList.extract 0 p)=ys.toList.take p:=by simp[List.extract]
 have b:(ys.toList.extract p ys.size)=ys.toList.drop p:=by
  simp only[List.extract];rw[Q8 (by simp)]
 rw[a,b,e,Pd,OG,U8,Rv,PY];rfl
theorem MT{xs:List (List Int×Oq)}(hu:A.units<T4)(S:qx prog w s.heap a xs)(hk:(js prog w).is s.heap k b)(hn:xs.length<63)
  (h:∀h' q,Pa a s.heap h'->qx prog w h' a q->(k∈xs.map (·.1)->q=xs)->(k∉xs.map (·.1)->q.Perm ((k,b)::xs))->Q (decide (k∉xs.map (·.1))) {s with heap:=h'}):
  OH (O4 prog w) A (setAddHashed a (.ref b) (hsh prog w k)) Q E s:=by
 have S0:=S;obtain⟨o,es,ep,t,U,X,hd,W,hnd,hx,T,hp,J⟩:=S;have F:es.size=xs.length:=by rw[<-Pb,W,Oh]
 have hf:t.fits es.size=On:=T.fits (by rw[Oh,F]);have Y:t.place.size=xs.length:=by rw[T.sz,Oh]
 obtain⟨e0,he0,hl0⟩:=T.free (nu t (hsh prog w k));obtain⟨e,hee,hl,Z⟩:=NO (P:=λe=>¬Lv t (fx t e (t.probeStart (hsh prog w k))).j) e0 hl0;have ha:∀m<e,Lv t (fx t m (t.probeStart (hsh prog w k))).j:=λm hm=>Classical.not_not.mp (Z m hm);have hmk:=T.km.odd;unfold setAddHashed setAddHashedIn;refine P3 (My (Qy U hd hf ?_));have hb:byScan (OM b) es=Os:=rfl;simp only[hb,OT,PD];refine My ?_;unfold setSearch;refine yj (e:=e) hu U hd W hx T hk (by omega) hl ha (λhm=>?_) (λhm=>?_) e 100000 0 Oi (by omega) (by unfold turns at he0;omega) rfl (λm' hm'=>OX hm' (Q4 _))
 .refine Oj ?_
  have:=h s.heap xs (Pa.refl a s.heap) S0 (λ_=>rfl) (λz=>OX hm z);rw[Pn (λz=>z hm)]at this;exact this
 .have hQ:∀h' q,Pa a s.heap h'->qx prog w h' a q->q.Perm ((k,b)::xs)->Q On {s with heap:=h'}:=λh' q h1 h2 h3=>by
   have:=h h' q h1 h2 (λz=>OX z hm) (λ_=>h3);rwa[OL hm]at this
  simp only;refine My (Qy U hd hf ?_);generalize hj:(fx t e (t.probeStart (hsh prog w k))).j=j at hl;obtain⟨pd,ps,pl⟩:=KU T j;generalize y:t.put j=tp at pd ps pl;obtain⟨u,p⟩:=tp;simp only at pd ps pl⊢;have l:u.plain=On:=by
   have:(t.put j).1.plain=t.plain:=rfl;rw[y]at this;rw[this,hp]
  have L:u.led=t.led:=by
   have:(t.put j).1.led=t.led:=rfl;rw[y]at this;exact this
  have v:u.mask=t.mask:=by
   have:(t.put j).1.mask=t.mask:=rfl;rw[y]at this;exact this
  rw[l];simp only[PM];refine My (DW hk ?_);simp only[PM];have N:=JL (f:=λx:List Int×Oq=>(hsh prog w x.1,OM x.2)) W (p:=p) (by omega) (k,b);have B:(insertAt es p (hsh prog w k,OM b)).size=es.size+1:=fJ (by omega);have d:(xs.take p++(k,b)::xs.drop p).Perm ((k,b)::xs):=by
   have:=List.perm_middle (a:=(k,b)) (l₁:=xs.take p) (l₂:=xs.drop p);rwa[Ri]at this
  have nd1:((xs.take p++(k,b)::xs.drop p).map (·.1)).Nodup:=by
   refine(d.map (·.1)).nodup_iff.mpr ?_;rw[OG,Pt];exact⟨hm,hnd⟩
  refine My (wpAny_storeSet_of U hd ?_ (by rw[B,Qo];omega));have H:=Qd s.heap a (UH (insertAt es p (hsh prog w k,OM b)) u);have g1:=qE U hd (insertAt es p (hsh prog w k,OM b)) u;have hx1:∀x∈xs.take p++(k,b)::xs.drop p,(js prog w).is (s.heap.update a (UH (insertAt es p (hsh prog w k,OM b)) u)) x.1 x.2:=λx hx'=>by
   rcases OK.mp (d.mem_iff.mp hx')with rfl|hx'
   .exact nZ hk U hd H
   .exact nZ (hx x hx') U hd H
  by_cases r:u.tooFull=On
  .simp only[r,UN,Ue,PM]
   have fu:u.fill*5≥u.mask*3:=by unfold tooFull at r;exact PR r
   have fe:u.fill=xs.length+1:=by unfold fill;rw[pd,ps,Y];rfl
   have nf0:=T.nf;have f1:u.fits (insertAt es p (hsh prog w k,OM b)).size=On:=by
    unfold VR;rw[B,fe,ps,Y,F,v];simp;omega
   have wm:Mk (sizeAbove (grown (es.size+1))-1)/\(es.size+1)*5<(sizeAbove (grown (es.size+1))-1)*3/\sizeAbove (grown (es.size+1))<=128:=by
    rw[fe,v]at fu;rw[F];rcases T.km with z|z|z
    .have:xs.length=4:=by omega
     rw[this];exact⟨.inr (.inl (by decide)),by decide,by decide⟩
    .have:xs.length=18:=by omega
     rw[this];exact⟨.inr (.inr (by decide)),by decide,by decide⟩
    .omega
   have C:(Array.map (λx=>x.fst) (insertAt es p (hsh prog w k,OM b))).size=es.size+1:=by rw[Array.size_map,B]
   obtain⟨t2,c,er,op,T2,led2,I⟩:=yA (t:=u) (hs:=(insertAt es p (hsh prog w k,OM b)).map (·.1)) (wanted:=grown (es.size+1)) wm.1 (by rw[C];exact wm.2.1);refine My ?_;unfold setRelay;refine My (Qy g1 rfl f1 ?_);simp only;rw[Ot (by rw[Qo];omega)];rw[er];generalize hE1:insertAt es p (hsh prog w k,OM b)=es1 at*;generalize hX1:xs.take p++(k,b)::xs.drop p=xs1 at*;have l1:xs1.length=es.size+1:=by rw[d.length_eq,OO,F]
   have O:∀i,i<xs1.length->es1[i]?=on (hsh prog w (xs1.getD i (k,b)).1,OM (xs1.getD i (k,b)).2):=λi R=>by
    rw[<-RT,N,Ou,Oo R,Om,Oo R];rfl
   have om:∀i∈c.toList,i<xs1.length:=λi R=>by
    have:=OV.mp (op.mem_iff.mp R);rw[C]at this;omega
   have efl:(c.filterMap λx=>es1[x]?).toList=(c.toList.map λi=>xs1.getD i (k,b)).map λx=>(hsh prog w x.1,OM x.2):=by
    rw[Array.toList_filterMap,ut (g:=λi=>(hsh prog w (xs1.getD i (k,b)).1,OM (xs1.getD i (k,b)).2)) λi R=>O i (om i R),Oy];rfl
   have n:(c.toList.map λi=>xs1.getD i (k,b)).Perm xs1:=by
    refine(op.map _).trans (Vf ?_);rw[C,<-l1];refine QC (by simp) λi h1 h2=>?_;rw[Re,RC,Om,Oo h2];rfl
   have fsz:(c.filterMap λx=>es1[x]?).size=es1.size:=by
    rw[<-Pb,efl,Oh,n.length_eq,l1,B]
   refine My ?_;show OH _ _ (if((c.filterMap λx=>es1[x]?).size !=es1.size)=On then _ else _) _ _ _;rw[Ot (by rw[fsz];simp)];refine Oj ?_;refine wpAny_storeSet_of g1 rfl ?_ (by rw[fsz,B,Qo];omega);have sb2:=Qd (s.heap.update a (UH es1 u)) a (UH (c.filterMap λx=>es1[x]?) t2);have g2:=qE g1 rfl (c.filterMap λx=>es1[x]?) t2;refine Oj (hQ _ (c.toList.map λi=>xs1.getD i (k,b)) (H.trans sb2) ⟨_,_,_,t2,g2,X,rfl,efl,?_,λx hx'=>?_,?_,by rw[I,l],by rw[led2,L,J]⟩ (n.trans d))
   .exact(n.map (·.1)).nodup_iff.mpr nd1
   .exact nZ (hx1 x (n.mem_iff.mp hx')) g1 rfl sb2
   .have eh:(c.toList.map λi=>xs1.getD i (k,b)).map (λx=>hsh prog w x.1)=c.toList.map λi=>(es1.map (·.1)).getD i 0:=by
     rw[Oy];refine O1 λi R=>?_;have h1:=O i (om i R);have h2:(es1.map (·.1))[i]?=on (hsh prog w (xs1.getD i (k,b)).1):=by rw[Array.getElem?_map,h1];rfl
     have h3:=(Pw.mp h2);obtain⟨h4,h5⟩:=h3;simp only[TK];rw[<-h5];simp[Rt,h4];omega
    rw[eh];exact T2
  .simp only[r,UN,Bool.and_false,PD,S5,OT]
   refine Oj (hQ _ (xs.take p++(k,b)::xs.drop p) H ⟨_,_,_,u,g1,X,rfl,N,nd1,hx1,?_,l,by rw[L,J]⟩ d);have nf:(t.place.size+1)*5<t.mask*3:=by
    have:¬(u.fill*5≥u.mask*3):=by
     intro z;exact r (by unfold tooFull;exact OL z)
    unfold fill at this;rw[pd,ps,v]at this;simp at this;omega
   have:=(T.put (h:=hsh prog w k) hl hj (by exact ha) nf).2.2.2.2;rw[y]at this;rw[Pd,OG,U8,Rv];exact this
end
namespace F2
theorem si_next:Slot "set_iterator" "__next__" "set_iterator.__next__":= .of (owner:="set_iterator") (n:="__next__") (by rw[WC,Va];kernel_rfl) (by decide +kernel) (by decide +kernel) (by decide +kernel)
  (by first|exact .inl (by decide +kernel)|exact .inr (by decide +kernel)) (by rw[S9];kernel_rfl)
theorem si_iter:Slot "set_iterator" "__iter__" "set_iterator.__iter__":= .of (owner:="set_iterator") (n:="__iter__") (by rw[WC,Va];kernel_rfl) (by decide +kernel) (by decide +kernel) (by decide +kernel)
  (by first|exact .inl (by decide +kernel)|exact .inr (by decide +kernel)) (by rw[S9];kernel_rfl)
theorem ent_next:entryFor table "set_iterator.__next__"=on Builtin.«set_iterator.__next__»:=entryFor_of_tree (by kernel_rfl)
theorem ent_iter:entryFor table "set_iterator.__iter__"=on Builtin.«dict_keyiterator.__iter__»:=W5 (id':="dict_keyiterator.__iter__") (by kernel_rfl) rfl (by decide +kernel) (by kernel_rfl)
theorem ent_set_iter:entryFor table "set.__iter__"=on Builtin.«frozenset.__iter__»:=W5 (id':="frozenset.__iter__") (by kernel_rfl) rfl (by decide +kernel) (by kernel_rfl)
theorem args_next(a:Ov):argsOk "set_iterator.__next__" ⟨[a],[]⟩:=by unfold argsOk;kernel_rfl
theorem args_iter(a:Ov):argsOk "set_iterator.__iter__" ⟨[a],[]⟩:=by unfold argsOk;kernel_rfl
end F2
theorem pI{α:Type}:∀{l:List α} {i:Nat} (h:i<l.length),(l[i]::l.eraseIdx i).Perm l
 |[],i,h=>OX h (Q4 i)
 |a::l,0,h=> .refl _
 |a::l,i+1,h=>by
  show(l[i]'(by simpa using h)::a::l.eraseIdx i).Perm (a::l);exact(List.Perm.swap _ _ _).trans ((pI (by simpa using h)).cons a)
theorem vo{α:Type}(next:Nat->Nat):∀(fuel k:Nat) (left:List α) (a:Array α),left.length<=fuel->(V0 next fuel k left a).toList.Perm (a.toList++left)
 |0,k,left,a,h=>by
  have:left=[]:=Ut.mp (by omega);subst this;unfold V0;rw[Pf]
 |fuel+1,k,left,a,h=>by
  unfold V0;cases left with
  |nil=>simp
  |cons c d=>
   have b:next k % (c::d).length<(c::d).length:=Wf _ (by simp)
   rw[Oo b];simp only;refine(vo next fuel (k+1) _ _ (by rw[List.length_eraseIdx_of_lt b];omega)).trans ?_
   rw[XI,PY];exact List.Perm.append_left _ (pI b)
theorem yK{α:Type}(next:Nat->Nat)(xs:Array α):(Wm next xs).toList.Perm xs.toList:=by
 unfold Wm;refine(vo next xs.size 0 xs.toList #[] (by simp)).trans ?_
 simp
section
variable{prog:Pc}{w:Pk}{A:PU}{E:Ov->OB->Prop}{s:OB}
noncomputable def dB(w:Pk)(a:Oq)(ep:Nat)(es:Array (Int×Ov)):Array (Int×Ov):=if w.params.followText "set-order"=On then Wm (w.params.setOrder a ep) es else es
theorem jT(w:Pk)(a:Oq)(ep:Nat)(es:Array (Int×Ov)):(dB w a ep es).toList.Perm es.toList:=by
 unfold dB;split
 .exact yK _ _
 .exact .refl _
structure S_ (w:Pk) (h:P4) (I a:Oq) (es:Array (Int×Ov)) (ep:Nat) (t:PP) (i:Nat):Prop where
 st:∃o,h.get? a=on o/\o.data= .set es ep t
 it:∃(o:O7) (sl:Nat),h.get? I=on o/\o.cls= .type "set_iterator"/\o.data= .fields #[.int sl 0,.int i 0,.ref a,.int es.size 0,.int ep 0]/\(w.params.followText "set-order"=Os->below t.place sl=i)
theorem lO{M:Model}(h:Q (M.w.params.followText "set-order") s):OH M A setsByText Q E s:=by
 unfold setsByText;exact My (Tu (Oj h))
theorem y7{es:Array (Int×Ov)}{t:PP}{e:Int×Ov}(T:Tb t hs)(h:t.fits es.size=On)(H:t.plain=On)(J:t.led=!(w.params.followText "set-order"))(x:S_ w s.heap I a es ep t i)(k:I≠a)(l:(dB w a ep es)[i]?=on e)
  (L:∀h',S_ w h' I a es ep t (i+1)->Pa I s.heap h'->Q (on e.2) {s with heap:=h'}):OH (O4 prog w) A (Sa (.ref I)) Q E s:=by
 obtain⟨⟨N,b,c⟩,o,sl,n,u,hd,p⟩:=id x;have y:s.TypeIs (.ref I) "set_iterator":=⟨o,n,u⟩;unfold Sa;refine My (R8 (wpAny_callSpecial?_slot (name:=Qn "__next__") y F2.si_next (Pe F2.si_next y F2.ent_next ?_ (F2.args_next _))));unfold Builtin.«set_iterator.__next__»;refine My (Oj ?_);refine My (Ta n hd ?_);simp only;refine My (Vv b c h ?_);simp only[RV,OT,PD];refine My ?_;simp only[P0]
 have d:∀nx:Nat,(w.params.followText "set-order"=Os->below t.place nx=i+1)->OH (O4 prog w) A.in1 (do
    Vk (OM I) 0 (RZ nx)
    Vk (OM I) 1 (RZ (i+1))
    ret e.2) (λd s'=>∃v,d=Fin.done (Flow.ret v)/\OH (O4 prog w) A (QR (on v)) Q E s') (λe s'=>OH (O4 prog w) A (do
     if(<-VG e (Ru "StopIteration"))=On then QR Oi else throw e) Q E s') s:=λnx r=>by
  refine My (RM n hd (by simp) ?_);have B:(s.heap.update I (WA (·.setIfInBounds 0 (RZ nx)))).get? I=on _:=Rh _ n (S4 (Qm hd _));refine My (RM B (Qm hd _) (by simp) ?_);refine Oj ⟨_,rfl,Oj (L _ ⟨⟨N,?_,c⟩,⟨_,nx,Rh _ B (S4 (Qm (Qm hd _) _)),?_,?_,r⟩⟩ ((Qd ..).trans (Qd ..)))⟩
  .rw[QH _ _ _ _ (Ne.symm k),QH _ _ _ _ (Ne.symm k)];exact b
  .rw[Uj,Uj];exact u
  .rw[Qm (Qm hd _)];simp[RZ]
 unfold setNext;refine My (Qy b c h (My (lO ?_)));have C:(O4 prog w).w=w:=rfl;rw[C];cases q:w.params.followText "set-order"
 .have f:dB w a ep es=es:=by unfold dB;rw[q];rfl
  rw[f]at l;have O:=p q;have U:=(Pw.mp l).1;simp only[OT,PD];have R:t.place.size=es.size:=by
   unfold VR at h;simp only[O9,Sv,Po]at h;exact h.1
  rw[Ot (λz=>by
   have F:(!t.plain&&decide (es.size>1))=On:=z;rw[H]at F;cases F)]
  refine My ?_;show OH _ _ (if(!t.led&&!es.isEmpty)=On then _ else _) _ _ _;rw[Ot (by rw[J,q];exact OE)];refine Oj (Oj ?_);have g:t.place[i]?=on t.place[i]:=getElem?_pos t.place i (by omega);rw[O,l,g];simp only;refine d _ λ_=>?_;obtain⟨b1,b2,b3⟩:=iz (j:=t.place[i]+1) T.rs;rcases R5 (below t.place (t.place[i]+1)) (i+1)with z|z|z
  .have:=b3 i _ (by omega) g
   omega
  .exact z
  .have m:t.place[i+1]?=on t.place[i+1]:=getElem?_pos t.place (i+1) (by omega)
   have W:=b2 (i+1) _ z m;have X:=T.rs i (i+1) _ _ (by omega) g m;omega
 .have f:dB w a ep es=Wm (w.params.setOrder a ep) es:=by unfold dB;rw[q];rfl
  rw[f]at l;simp only[PM,RV,OT,PD];refine My ?_;unfold setWalk;refine My (Qy b c h (My (lO ?_)));rw[C,q];simp only[PM];refine My (Tu (Oj ?_));refine Oj ?_;rw[show((O4 prog w).w.params.setOrder a ep)=w.params.setOrder a ep from rfl,l];simp only[QK];exact d _ λz=>by rw[q]at z;cases z
theorem CD{es:Array (Int×Ov)}{t:PP}(r:A.handled=Oi)(T:Tb t hs)(g:t.fits es.size=On)(u:t.plain=On)(y:t.led=!(w.params.followText "set-order"))(x:S_ w s.heap I a es ep t es.size)
  (B:∀h',UP I s.heap h'->Q Oi {s with heap:=h'}):OH (O4 prog w) A (Sa (.ref I)) Q E s:=by
 obtain⟨⟨F,d,f⟩,o,sl,h,C,hd,i⟩:=id x;have l:s.TypeIs (.ref I) "set_iterator":=⟨o,h,C⟩;unfold Sa;refine My (R8 (wpAny_callSpecial?_slot (name:=Qn "__next__") l F2.si_next (Pe F2.si_next l F2.ent_next ?_ (F2.args_next _))));unfold Builtin.«set_iterator.__next__»;refine My (Oj ?_);refine My (Ta h hd ?_);simp only;refine My (Vv d f g ?_);simp only[RV,OT,PD];refine My ?_;simp only[P0]
 have c:OH (O4 prog w) A.in1 (do
    Vk (OM I) 2 Pg
    let e <-Wj (Ru "StopIteration") []
    (W9 e:Sem Fin)) (λc s'=>∃v,c=Fin.done (Flow.ret v)/\OH (O4 prog w) A (QR (on v)) Q E s') (λe s'=>OH (O4 prog w) A (do
     if(<-VG e (Ru "StopIteration"))=On then QR Oi else throw e) Q E s') s:=by
  refine My (RM h hd (by simp) ?_);refine My ?_;simp only[Wj,newTuple];refine My (Ph ?_ (by size_fits));refine My (m:=RJ _ _) (RW (a:=Pg) (by first|rfl|(simp only[RJ];rfl)) ?_)
  refine Ph ?_ (by size_fits);simp only[W9];refine My (VB ?_);rw[show A.in1.handled=Oi from r];refine My (Oj (Wv ?_));refine My (QE (T:="StopIteration") (b:=On) ⟨_,OI _ rfl,rfl⟩ Vj ?_);exact Oj (B _ (((Qd ..).extBut.push _).push _))
 unfold setNext;refine My (Qy d f g (My (lO ?_)));have n:(O4 prog w).w=w:=rfl;rw[n];have j:(dB w a ep es).size=es.size:=by rw[<-Pb,(jT w a ep es).length_eq,Pb]
 cases q:w.params.followText "set-order"
 .simp only[OT,PD]
  rw[Ot (λz=>by
   have p:(!t.plain&&decide (es.size>1))=On:=z;rw[u]at p;cases p)]
  refine My ?_;show OH _ _ (if(!t.led&&!es.isEmpty)=On then _ else _) _ _ _;rw[Ot (by rw[y,q];exact OE)];refine Oj (Oj ?_);rw[i q,Q6 (OD _)];exact c
 .have k:dB w a ep es=Wm (w.params.setOrder a ep) es:=by unfold dB;rw[q];rfl
  simp only[PM,RV,OT,PD];refine My ?_;unfold setWalk;refine My (Qy d f g (My (lO ?_)));rw[n,q];simp only[PM];refine My (Tu (Oj ?_));refine Oj ?_;rw[show((O4 prog w).w.params.setOrder a ep)=w.params.setOrder a ep from rfl,<-k,Q6 (by rw[j];exact OD _)];exact c
theorem S_.at{h h':P4}(x:S_ w h I a es ep t i)(k:∀b,b=I\/b=a->∀o,h.get? b=on o->h'.get? b=on o):S_ w h' I a es ep t i:=by
 obtain⟨⟨e,c,d⟩,o,sl,f,r⟩:=x;exact⟨⟨e,k a (.inr rfl) e c,d⟩,o,sl,k I (.inl rfl) o f,r⟩
theorem AM(q:A.handled=Oi){es:Array (Int×Ov)}{t:PP}(T:Tb t hs)(l:t.fits es.size=On)(m:t.plain=On)(n:t.led=!(w.params.followText "set-order"))(f:I≠a):
  Walks prog w A I [I,a] [I] es.size (λi v=>∃e,(dB w a ep es)[i]?=on e/\v=e.2) (λi h=>S_ w h I a es ep t i) where
 sub:=λb c=>by simp at c;simp[c]
 frame:=λ_ _ _ st r=>st.at λb c o e=>r b (by simpa using c) o e
 item:=λi s Q E L st d=>by
  have u:(dB w a ep es).size=es.size:=by rw[<-Pb,(jT w a ep es).length_eq,Pb]
  have p:(dB w a ep es)[i]?=on (dB w a ep es)[i]:=getElem?_pos _ i (by omega);exact y7 T l m n st f p λh' g y=>d _ h' s.toks ⟨_,p,rfl⟩ g λb o c e=>y.extBut b o (λh=>c (by simp[h])) e
 done:=λs Q E st d=>CD q T l m n st λh' j=>d h' s.toks λb o c e=>j b o (λh=>c (by simp[h])) e
 self:=λi s Q E st d=>by
  obtain⟨⟨N,B,C⟩,o,sl,F,H,hd,J⟩:=st;have k:s.TypeIs (.ref I) "set_iterator":=⟨o,F,H⟩;refine Tc k F2.si_iter (Pe F2.si_iter k F2.ent_iter ?_ (F2.args_iter _));show OH _ _ (ret (.ref I)) _ _ s;exact Oj ⟨_,rfl,"set_iterator",_,k,F2.si_next.lookup,d⟩
end
end L2.Hs
namespace L2.Hs
open PySem PySem.SetTable PyProof.Rows
section
variable{prog:Pc}{w:Pk}{A:PU}{E:Ov->OB->Prop}{s:OB}
theorem CZ{o:O7}{es:Array (Int×Ov)}{t:PP}(b:s.heap.get? a=on o)(f:o.cls= .type "set")(hd:o.data= .set es ep t)(c:t.fits es.size=On)(g:t.plain=On)
  (h:Q (.ref s.heap.objs.size) {s with heap:=s.heap.push {cls:= .type "set_iterator",data:= .fields #[.int (0:Nat) 0,.int (0:Nat) 0,.ref a,.int es.size 0,.int ep 0]}}):OH (O4 prog w) A (UW (.ref a)) Q E s:=by
 have d:s.TypeIs (.ref a) "set":=⟨o,b,f⟩;refine Tc d F.slot_set_iter (Pe F.slot_set_iter d F2.ent_set_iter ?_ (F.args_set_iter_1 _));unfold Builtin.«frozenset.__iter__»;refine My (RW (a:=a) rfl ?_);refine My (My (Vv b hd c (Oj ?_)));refine My ?_;unfold setDrawn;refine My (Qy b hd c (My (lO (Oj ?_))));rw[Ot (λz=>by
  have e:(!((O4 prog w).w.params.followText "set-order")&&(!t.plain&&decide (es.size>1)))=On:=z;rw[g]at e;simp at e)]
 refine My (Oj ?_);refine My (wpAny_setEpoch_of b hd c ?_);unfold newFields;refine My (Ph (Oj ⟨_,rfl,"set_iterator",_,⟨_,OI _ rfl,rfl⟩,F2.si_next.lookup,?_⟩));exact h
theorem uR{o:O7}{es:Array (Int×Ov)}{t:PP}(hh:A.handled=Oi)(U:s.heap.get? a=on o)(B:o.cls= .type "set")(hd:o.data= .set es ep t)(T:Tb t hs)(X:t.fits es.size=On)(Y:t.plain=On)(hl:t.led=!(w.params.followText "set-order"))
  (hsz:es.size<=1000)
  (hQ:∀h' Z vs,(∀b o,s.heap.get? b=on o->h'.get? b=on o)->s.heap.objs.size<=h'.objs.size->s.toks<=Z->vs.Perm (es.toList.map (·.2))->Q vs {s with heap:=h',toks:=Z}):OH (O4 prog w) A (collect (.ref a)) Q E s:=by
 unfold collect;refine My (Xc (TZ XM ?_));rw[SX XN _];show OH _ A.in1 (newList []>>=λl=>Vz (.builtin "list.__iadd__" ⟨[l,.ref a],[]⟩)) _ _ s;refine My (Ph ?_);refine Oj ⟨VA Ur _,TZ F.entry_list_iadd ?_⟩;rw[SX Ur _];have ha:=OZ U;have g:(s.heap.push {cls:= .type "list",data:= .seq ([]:List Ov).toArray}).get? a=on o:=Ol _ U;have C:(s.heap.push {cls:= .type "list",data:= .seq ([]:List Ov).toArray}).get? s.heap.objs.size=on {cls:= .type "list",data:= .seq ([]:List Ov).toArray}:=OI _ rfl;have r:s.heap.objs.size≠a:=Rb ha;have y:R1 (.ref s.heap.objs.size) (.ref a)=Os:=by simp[R1,r]
 have H:(⟨s.heap.push {cls:= .type "list",data:= .seq ([]:List Ov).toArray},s.gens,s.drawn,s.toks,s.os⟩:OB).TypeIs (.ref a) "set":=⟨o,g,B⟩;show OH _ A.in1 (Rw (.ref s.heap.objs.size) (.ref a) (.ref s.heap.objs.size)) _ _ _;unfold Rw;refine My (U1 H ?_);rw[Ot (by rw[y];decide)];refine My (CZ g B hd X Y ?_);refine My (P3 ?_);unfold U5;have n:(⟨(s.heap.push {cls:= .type "list",data:= .seq ([]:List Ov).toArray}).push {cls:= .type "set_iterator",data:= .fields #[.int (0:Nat) 0,.int (0:Nat) 0,.ref a,.int es.size 0,.int ep 0]},s.gens,s.drawn,s.toks,s.os⟩:OB).TypeIs (.ref a) "set":=⟨o,Ol _ g,B⟩;refine My (Rc n F.slot_set_len.lookup ?_)
 (generalize u:("set.__len__":String)=id0;wp_delta;rw[show splitId id0=on ("set","__len__")from by subst u;decide +kernel];subst u)
 refine My (QE (b:=On) n (by rw[S9];kernel_rfl) ?_);rw[Ot (by decide)];show OH _ _ (if _ then _ else _) _ _ _;rw[OA (by decide)];refine My (U1 n ?_);refine Oj ?_;rw[OA (by decide)];refine My (R0 ?_);have eI:(s.heap.push {cls:= .type "list",data:= .seq ([]:List Ov).toArray}).objs.size=s.heap.objs.size+1:=by rw[size_push']
 generalize h:(s.heap.push {cls:= .type "list",data:= .seq ([]:List Ov).toArray}).push {cls:= .type "set_iterator",data:= .fields #[.int (0:Nat) 0,.int (0:Nat) 0,.ref a,.int es.size 0,.int ep 0]}=d;have gS:d.get? s.heap.objs.size=on (Q5 "list" #[] 0):=by rw[<-h];exact Ol _ C
 have gI:d.get? (s.heap.objs.size+1)=on {cls:= .type "set_iterator",data:= .fields #[.int (0:Nat) 0,.int (0:Nat) 0,.ref a,.int es.size 0,.int ep 0]}:=by rw[<-h,<-eI];exact OI _ rfl
 have ga:d.get? a=on o:=by rw[<-h];exact Ol _ g
 have p:∀b f,s.heap.get? b=on f->d.get? b=on f:=λb f e=>by rw[<-h];exact Ol _ (Ol _ e)
 unfold Vw;refine My (My (SK gS rfl ?_ (by show 0<=_;omega) (by show 1<=_;omega)));obtain⟨e1,g1⟩:∃e1,(d.update s.heap.objs.size (P5 λxs=>xs.push Pg)).get? s.heap.objs.size=on (Q5 "list" #[Pg] e1):=⟨_,get?_update_seq gS λxs=>xs.push Pg⟩;refine SK g1 rfl ?_ (by show 1<=OS;decide) (by show 0<=_;omega);obtain⟨J,g2⟩:∃J,((d.update s.heap.objs.size (P5 λxs=>xs.push Pg)).update s.heap.objs.size (P5 λxs=>xs.pop)).get? s.heap.objs.size=on (Q5 "list" #[] J):=⟨_,get?_update_seq g1 λxs=>xs.pop⟩;have c:∀b f,b≠s.heap.objs.size->d.get? b=on f->((d.update s.heap.objs.size (P5 λxs=>xs.push Pg)).update s.heap.objs.size (P5 λxs=>xs.pop)).get? b=on f:=λb f q e=>by
  rw[QH _ _ _ _ q,QH _ _ _ _ q];exact e
 generalize (d.update s.heap.objs.size (P5 λxs=>xs.push Pg)).update s.heap.objs.size (P5 λxs=>xs.pop)=h4 at g2 c;have L:s.heap.objs.size+1≠a:=Rb (R4 ha);have st:S_ w h4 (s.heap.objs.size+1) a es ep t 0:=⟨⟨o,c a o (Ne.symm r) ga,hd⟩,_,0,c _ _ (by omega) gI,rfl,rfl,λ_=>by
  have:=iz (j:=0) T.rs;rcases Nat.eq_zero_or_pos (below t.place 0)with z|z
  .exact z
  .have e:=getElem?_pos t.place 0 (by omega)
   have:=this.2.1 0 _ z e;omega⟩
 have W:=AM (prog:=prog) (w:=w) (A:=A.in1) (I:=s.heap.objs.size+1) (a:=a) (ep:=ep) hh T X Y hl L;show OH _ _ (Vz _) _ _ _;rw[eI];refine Oj ⟨VA F.plain_extend_loop _,codeAny_extend_loopS W.toS (by rw[Qo];omega) s.heap.objs.size (by simp;omega) _ es.size 0 _ #[] J rfl (PV _) st g2 (ItemsOf.nil _) λs' k c' hm v m=>?_⟩;show OH _ A (load s.heap.objs.size>>=_) _ _ s';refine My (wpAny_load v ?_);refine Oj ?_;have N:s'={s with heap:=s'.heap,toks:=s'.toks}:=by
  have y:=hm.gens;have d:=hm.drawn;have h3:=hm.os;obtain⟨a1,a2,a3,a4,a5⟩:=s';simp only at y d h3;subst y d h3;rfl
 rw[N];refine hQ _ _ _ (λb f e=>?_) (Tz (OZ v)) hm.toks ?_
 .have q:=OZ e
  exact hm.heap b f (by simp only[OK,Qc,SD,Yn];exact⟨Pr q,Pr (R4 q)⟩) (c b f (Pr q) (p b f e))
 .refine List.Perm.trans (Vf ?_) ((jT w a ep es).map (·.2))
  have O:(dB w a ep es).size=es.size:=by rw[<-Pb,(jT w a ep es).length_eq,Pb]
  refine QC (by rw[Pb,Oh,Pb,O,m.1]) λi q1 q2=>?_;have R:i<k.size:=by simpa using q1
  obtain⟨e,he,hv⟩:=m.2 i _ (getElem?_pos k i R);rw[Rl,hv,Re,Rl];have:=Pw.mp he;obtain⟨z1,z2⟩:=this;rw[z2]
end
end L2.Hs
namespace L2.Hs
open PySem PySem.W PyProof.Rows
section
variable{α β:Type}{lt:Nat->Nat->Bool}{n:Nat}
def Rn(lt:Nat->Nat->Bool)(n:Nat):KasT α->(α->Prop)->Prop
 | .ret a,Φ=>Φ a
 | .ask i j k,Φ=>i<n/\j<n/\Rn lt n (k (lt i j)) Φ
theorem Rn.bind{Φ:β->Prop}:∀{t:KasT α},Rn lt n t (λa=>Rn lt n (f a) Φ)->Rn lt n (t.bind f) Φ
 | .ret a,h=>h
 | .ask i j k,⟨h1,h2,h3⟩=>⟨h1,h2,Rn.bind h3⟩
theorem Rn.mono{Φ Ψ:α->Prop}(b:∀a,Φ a->Ψ a):∀{t:KasT α},Rn lt n t Φ->Rn lt n t Ψ
 | .ret a,h=>b a h
 | .ask i j k,⟨h1,h2,h3⟩=>⟨h1,h2,Rn.mono b h3⟩
theorem Rn.wp{Φ:α->Prop}(b:∀i j,i<n->j<n->∀C:Bool->OB->Prop,C (lt i j) s->cmp i j C s)(c:∀a,Φ a->Q a s):∀{t:KasT α},Rn lt n t Φ->t.kasWp cmp Q s
 | .ret a,h=>c a h
 | .ask i j k,⟨h1,h2,h3⟩=>b i j h1 h2 _ (Rn.wp b c h3)
end
section
variable{rk:Nat->Nat}{n:Nat}
noncomputable abbrev ry(rk:Nat->Nat)(i j:Nat):Bool:=decide (rk i<rk j)
noncomputable abbrev ky(rk:Nat->Nat)(p:Array Nat)(i:Nat):Nat:=rk (p.getD i 0)
structure Pm (rk:Nat->Nat) (n:Nat) (p:Array Nat):Prop where
 perm:p.toList.Perm (Oz n)
 inj:∀i j,i<n->j<n->rk i=rk j->i=j
theorem Pm.sz{p:Array Nat}(h:Pm rk n p):p.size=n:=by have:=h.perm.length_eq;simpa using this
theorem Pm.lt{p:Array Nat}(h:Pm rk n p)(a:i<n):p.getD i 0<n:=by
 have hs:=h.sz;have e:p.getD i 0=p[i]:=by simp[Rt,show i<p.size by omega]
 rw[e];exact OV.mp (h.perm.mem_iff.mp (by simp))
theorem Pm.ne(h:Pm rk n p)(a:i<j)(b:j<n):ky rk p i≠ky rk p j:=λz=>by
 have hs:=h.sz;have:=h.inj _ _ (h.lt (show i<n by omega)) (h.lt b) z;have nd:p.toList.Nodup:=h.perm.nodup_iff.mpr Vy;have c:p.getD i 0=p.toList[i]'(by simp;omega):=by simp[Rt,show i<p.size by omega]
 have d:p.getD j 0=p.toList[j]'(by simp;omega):=by simp[Rt,show j<p.size by omega]
 rw[c,d]at this;exact OX this (Rj.mp nd i j (by simp;omega) (by simp;omega) a)
theorem Pm.of{p q:Array Nat}(h:Pm rk n p)(a:q.Perm p):Pm rk n q:=⟨(Array.perm_iff_toList_perm.mp a).trans h.perm,h.inj⟩
def So(rk:Nat->Nat)(p:Array Nat)(k:Nat):Prop:=∀i j,i<j->j<k->ky rk p i<ky rk p j
def De(rk:Nat->Nat)(p:Array Nat)(k:Nat):Prop:=∀i j,i<j->j<k->ky rk p j<ky rk p i
theorem So.succ(h:So rk p k)(c:1<=k)(b:ky rk p (k-1)<ky rk p k):So rk p (k+1):=λi j a d=>by
 by_cases q:j=k
 .subst q
  by_cases z:i=j-1
  .subst z;exact b
  .exact TC (h i (j-1) (by omega) (by omega)) b
 .exact h i j a (by omega)
theorem De.succ(h:De rk p k)(c:1<=k)(b:ky rk p k<ky rk p (k-1)):De rk p (k+1):=λi j a d=>by
 by_cases q:j=k
 .subst q
  by_cases z:i=j-1
  .subst z;exact b
  .exact TC b (h i (j-1) (by omega) (by omega))
 .exact h i j a (by omega)
theorem uL(P:Pm rk n p):∀(f k:Nat),1<=k->k+f<=n->So rk p k->Rn (ry rk) n (kas_asc p f k) λm=>k<=m/\m<=k+f/\So rk p m/\(m=k+f\/ky rk p m<ky rk p (m-1))
 |0,k,_,_,h=>⟨OD k,OD _,h,.inl rfl⟩
 |f+1,k,h1,h2,h=>by
  refine⟨P.lt (by omega),P.lt (by omega),?_⟩;by_cases q:ky rk p k<ky rk p (k-1)
  .rw[show ry rk (p.getD k 0) (p.getD (k-1) 0)=On from OL q];dsimp only;rw[OA rfl]
   exact⟨OD k,by omega,h,.inr q⟩
  .rw[show ry rk (p.getD k 0) (p.getD (k-1) 0)=Os from Pn q];dsimp only;rw[Ot OE]
   have:=P.ne (show k-1<k by omega) (show k<n by omega);refine Rn.mono (λm hm=>?_) (uL P f (k+1) (by omega) (by omega) (h.succ h1 (by omega)));exact⟨by omega,by omega,hm.2.2.1,by rcases hm.2.2.2 with z|z;exact .inl (by omega);exact .inr z⟩
theorem v3(P:Pm rk n p):∀(f k:Nat),1<=k->k+f<=n->De rk p k->Rn (ry rk) n (kas_desc f p k 0) λr=>r.1=p/\r.2.2=0/\k<=r.2.1/\r.2.1<=k+f/\De rk p r.2.1
 |0,k,_,_,h=>⟨rfl,rfl,OD k,OD _,h⟩
 |f+1,k,h1,h2,h=>by
  refine⟨P.lt (by omega),P.lt (by omega),?_⟩;by_cases q:ky rk p k<ky rk p (k-1)
  .rw[show ry rk (p.getD k 0) (p.getD (k-1) 0)=On from OL q];dsimp only;rw[OA rfl,Ot (PF 0)]
   refine Rn.mono (λm hm=>?_) (v3 P f (k+1) (by omega) (by omega) (h.succ h1 q));exact⟨hm.1,hm.2.1,by have:=hm.2.2.1;omega,by have:=hm.2.2.2.1;omega,hm.2.2.2.2⟩
  .rw[show ry rk (p.getD k 0) (p.getD (k-1) 0)=Os from Pn q];dsimp only;rw[Ot OE]
   have:=P.ne (show k-1<k by omega) (show k<n by omega);refine⟨P.lt (by omega),P.lt (by omega),?_⟩;rw[show ry rk (p.getD (k-1) 0) (p.getD k 0)=On from OL (show ky rk p (k-1)<ky rk p k by omega)];dsimp only;rw[OA rfl];exact⟨rfl,rfl,OD k,by show k<=_;omega,h⟩
theorem vT{p q:Array Nat}(h:p[i]?=q[j]?):p.getD i 0=q.getD j 0:=by
 have a:∀(r:Array Nat) (x:Nat),r.getD x 0=(r[x]?).getD 0:=λr x=>by
  by_cases b:x<r.size
  .simp[Rt,b]
  .simp[Rt,b]
 rw[a,a,h]
theorem KJ{p:Array Nat}(a:k<=p.size)(h:De rk p k):So rk (kas_rev p 0 k) k:=λi j b c=>by
 have g:∀x,x<k->(kas_rev p 0 k).getD x 0=p.getD (k-1-x) 0:=λx d=>by
  refine vT ?_;unfold kas_rev;rw[getElem?_mirror_all a,OA (by omega)];congr 1;omega
 show rk _<rk _;rw[g i (by omega),g j c];exact h (k-1-j) (k-1-i) (by omega) (by omega)
theorem AV(P:Pm rk n p)(b:1<=k)(c:k<=n)(h:De rk p k):Rn (ry rk) n (kas_tail3 k n p) λr=>Pm rk n r.2/\1<=r.1/\r.1<=n/\So rk r.2 r.1:=by
 have a:Pm rk n (kas_rev p 0 k):=P.of (mirror_perm _ _ _ _);unfold kas_tail3;refine Rn.bind (Rn.mono (λm hm=>?_) (uL a (n-k) k b (by omega) (KJ (by rw[P.sz];exact c) h)));exact⟨a,by omega,by omega,hm.2.2.1⟩
theorem DR(P:Pm rk n p)(d:1<=n):Rn (ry rk) n (kas_count n p) λr=>Pm rk n r.2/\1<=r.1/\r.1<=n/\So rk r.2 r.1:=by
 unfold kas_count;refine Rn.bind (Rn.mono (λm hm=>?_) (uL P (n-1) 1 (OD 1) (by omega) λi j a b=>by omega));obtain⟨a1,a2,a3,a4⟩:=hm;by_cases q:m=n
 .rw[OA (by rw[Sv];exact q)]
  exact⟨P,by omega,by omega,a3⟩
 .rw[Ot (by rw[Sv];exact q)]
  have hd:ky rk p m<ky rk p (m-1):=by
   rcases a4 with z|z
   .omega
   .exact z
  by_cases q1:m>1
  .rw[OA q1]
   refine⟨P.lt (by omega),P.lt (by omega),?_⟩;rw[show ry rk (p.getD 0 0) (p.getD (m-1) 0)=On from OL (a3 0 (m-1) (by omega) (by omega))];dsimp only;rw[OA rfl];exact⟨P,by omega,by omega,a3⟩
  .rw[Ot q1]
   obtain rfl:m=1:=by omega
   unfold kas_descPart;refine Rn.bind (Rn.mono (λr c=>?_) (v3 P (n-(1+1)) (1+1) (by omega) (by omega) λi j a b=>by
    obtain rfl:j=1:=by omega
    obtain rfl:i=0:=by omega
    exact hd))
   obtain⟨rfl,b2,b3,b4,b5⟩:=c;rw[Ot (by omega)];exact AV P (by omega) (by omega) b5
theorem nF(P:Pm rk n p)(a:k<n):∀(f l r:Nat),l<=r->r<=k->r-l<=f->(∀i,i<l->ky rk p i<ky rk p k)->(∀i,r<=i->i<k->ky rk p k<ky rk p i)->So rk p k->
  Rn (ry rk) n (kas_place p k f l r) λm=>m<=k/\(∀i,i<m->ky rk p i<ky rk p k)/\∀i,m<=i->i<k->ky rk p k<ky rk p i
 |0,l,r,h1,h2,h3,ha,hb,_=>by
  obtain rfl:l=r:=by omega
  exact⟨h2,ha,hb⟩
 |f+1,l,r,h1,h2,h3,ha,hb,so=>by
  unfold kas_place;by_cases q:l≥r
  .rw[OA q]
   obtain rfl:l=r:=by omega
   exact⟨h2,ha,hb⟩
  .rw[Ot q]
   refine⟨P.lt (by omega),P.lt (by omega),?_⟩;by_cases z:ky rk p k<ky rk p ((l+r)/2)
   .rw[show ry rk (p.getD k 0) (p.getD ((l+r)/2) 0)=On from OL z];dsimp only;rw[OA rfl]
    refine nF P a f l ((l+r)/2) (by omega) (by omega) (by omega) ha (λi c b=>?_) so;by_cases w:i=(l+r)/2
    .subst w;exact z
    .exact TC z (so _ i (by omega) b)
   .rw[show ry rk (p.getD k 0) (p.getD ((l+r)/2) 0)=Os from Pn z];dsimp only;rw[Ot OE]
    have d:=P.ne (show(l+r)/2<k by omega) a;refine nF P a f ((l+r)/2+1) r (by omega) h2 (by omega) (λi c=>?_) hb so;by_cases w:i=(l+r)/2
    .subst w;omega
    .exact TC (so i ((l+r)/2) (by omega) (by omega)) (by omega)
theorem AB:∀(f:Nat) {p:Array Nat} {k:Nat},Pm rk n p->k+f=n->So rk p k->Rn (ry rk) n (kas_bin f p k) λb=>Pm rk n b/\So rk b n
 |0,p,k,P,hk,so=>⟨P,by rw[<-hk];exact so⟩
 |f+1,p,k,P,hk,so=>by
  unfold kas_bin;refine Rn.bind (Rn.mono (λm hm=>?_) (nF P (by omega) k 0 k (PV _) (OD _) (by omega) (λi h=>OX h (Q4 i)) (λi l c=>by omega) so));obtain⟨l,c,o⟩:=hm;have r:Pm rk n (bubble p k (k-m)):=P.of (bubble_perm _ _ _);refine AB f r (by omega) λi j a t=>?_;have ks:k<p.size:=by rw[P.sz];omega
  have g:∀x:Nat,(bubble p k (k-m)).getD x 0=p.getD (if x=m then k else if m<x/\x<=k then x-1 else x) 0:=λx=>by
   refine vT ?_;rw[getElem?_bubble ks (k-m) (by omega)];by_cases q:x=m
   .rw[OA (by omega),OA q]
   .rw[Ot (by omega),Ot q]
    by_cases q2:m<x/\x<=k
    .rw[OA (by omega),OA q2]
    .rw[Ot (by omega),Ot q2]
  show rk _<rk _;rw[g i,g j];by_cases q1:i=m
  .rw[OA q1,Ot (by omega),OA (by omega)]
   exact o (j-1) (by omega) (by omega)
  .rw[Ot q1]
   by_cases q2:j=m
   .rw[OA q2,Ot (by omega)]
    exact c i (by omega)
   .rw[Ot q2]
    by_cases d:m<i/\i<=k
    .rw[OA d,OA (by omega)]
     exact so (i-1) (j-1) (by omega) (by omega)
    .rw[Ot d]
     by_cases e:m<j/\j<=k
     .rw[OA e]
      exact so i (j-1) (by omega) (by omega)
     .rw[Ot e]
      exact so i j a (by omega)
theorem IY(a:1<=n)(inj:∀i j,i<n->j<n->rk i=rk j->i=j):Rn (ry rk) n (kas_sort n) λp=>Pm rk n p/\So rk p n:=by
 unfold kas_sort;have P:Pm rk n (List.toArray (Oz n)):=⟨.refl _,inj⟩;refine Rn.bind (Rn.mono (λr b=>?_) (DR P a));obtain⟨a1,a2,a3,a4⟩:=b;by_cases q:r.1<n
 .rw[OA q,Nat.max_eq_left a2]
  exact AB _ a1 (by omega) a4
 .rw[Ot q]
  obtain rfl:r.1=n:=by omega
  exact⟨a1,a4⟩
noncomputable def cJ:List Int->List Int->Bool
 |[],[]=>Os
 |[],_::_=>On
 |_::_,[]=>Os
 |a::as,b::bs=>if a=b then cJ as bs else decide (a<b)
theorem gW:∀x,cJ x x=Os
 |[]=>rfl
 |a::as=>by unfold cJ;rw[OA rfl];exact gW as
theorem o8:∀{x y z},cJ x y=On->cJ y z=On->cJ x z=On
 |[],[],_,h,_=>by cases h
 |[],_::_,[],_,h=>by cases h
 |[],_::_,_::_,_,_=>rfl
 |_::_,[],_,h,_=>by cases h
 |_::_,_::_,[],_,h=>by cases h
 |a::as,b::bs,c::cs,h1,h2=>by
  unfold cJ at h1 h2⊢;by_cases q1:a=b
  .rw[OA q1]at h1
   by_cases q2:b=c
   .rw[OA q2]at h2
    rw[OA (q1.trans q2)];exact o8 h1 h2
   .rw[Ot q2]at h2
    rw[Ot (by rw[q1];exact q2),q1];exact h2
  .rw[Ot q1]at h1
   have d:=PR h1;by_cases q2:b=c
   .rw[Ot (by rw[<-q2];exact q1),<-q2];exact h1
   .rw[Ot q2]at h2
    have e:=PR h2;rw[Ot (by omega)];exact OL (by omega)
theorem mx:∀{x y},cJ x y=Os->cJ y x=Os->x=y
 |[],[],_,_=>rfl
 |[],_::_,h,_=>by cases h
 |_::_,[],_,h=>by cases h
 |a::as,b::bs,h1,h2=>by
  unfold cJ at h1 h2;by_cases q:a=b
  .rw[OA q]at h1
   rw[OA q.symm]at h2;rw[q,mx h1 h2]
  .rw[Ot q]at h1
   rw[Ot (Ne.symm q)]at h2;have:=of_decide_eq_false h1;have:=of_decide_eq_false h2;omega
theorem uE:∀{L:List Nat},(∀l∈L,p l=On->q l=On)->∀{i},i∈L->p i=Os->q i=On->L.countP p<L.countP q
 |[],_,i,h,_,_=>by cases h
 |a::L,hpq,i,hi,h1,h2=>by
  have le:L.countP p<=L.countP q:=List.countP_mono_left λl b=>hpq l (Op a b);rcases OK.mp hi with rfl|hi
  .rw[List.countP_cons_of_neg (by rw[h1];exact OE),List.countP_cons_of_pos h2]
   omega
  .have ih:=uE (λl b=>hpq l (Op a b)) hi h1 h2
   rw[List.countP_cons,List.countP_cons];have:(if p a=On then 1 else 0)<=(if q a=On then 1 else 0):=by
    by_cases z:p a=On
    .rw[OA z,OA (hpq a Ox z)];exact OD 1
    .rw[Ot z];exact PV _
   omega
def gA(ks:LI)(i:Nat):Nat:=(Oz ks.length).countP λj=>cJ (ks.getD j []) (ks.getD i [])
theorem rH{ks:LI}(a:i<ks.length)(h:cJ (ks.getD i []) (ks.getD j [])=On):gA ks i<gA ks j:=
 uE (λl _ b=>o8 b h) (OV.mpr a) (gW _) h
theorem yx{ks:LI}(b:i<ks.length)(c:j<ks.length):decide (gA ks i<gA ks j)=cJ (ks.getD i []) (ks.getD j []):=by
 cases h:cJ (ks.getD i []) (ks.getD j [])with
 |true=>exact OL (rH b h)
 |false=>
  refine Pn λz=>?_;cases a:cJ (ks.getD j []) (ks.getD i [])with
  |true=>have:=rH c a;omega
  |false=>
   have e:=mx h a;unfold gA at z;rw[e]at z;exact PF _ z
theorem KG{ks:LI}(nd:ks.Nodup)(a:i<ks.length)(b:j<ks.length)(h:gA ks i=gA ks j):i=j:=by
 have e:ks.getD i []=ks.getD j []:=by
  refine mx ?_ ?_
  .cases z:cJ (ks.getD i []) (ks.getD j [])with
   |false=>rfl
   |true=>have:=rH a z;omega
  .cases z:cJ (ks.getD j []) (ks.getD i [])with
   |false=>rfl
   |true=>have:=rH b z;omega
 rw[Om,Om,Oo a,Oo b]at e;have c:ks[i]=ks[j]:=e;rcases R5 i j with z|z|z
 .exact OX c (Rj.mp nd i j a b z)
 .exact z
 .exact OX c.symm (Rj.mp nd j i b a z)
abbrev Up(l:LI):Prop:=l.Pairwise λa b=>cJ a b=On
theorem rD:∀{l m:LI},Up l->Up m->(∀x,x∈l↔x∈m)->l=m
 |[],[],_,_,_=>rfl
 |[],b::m,_,_,h=>by have:=(h b).mpr Ox;cases this
 |a::l,[],_,_,h=>by have:=(h a).mp Ox;cases this
 |a::l,b::m,h1,h2,h=>by
  obtain⟨d,f⟩:=SE.mp h1;obtain⟨q1,q2⟩:=SE.mp h2;have e:a=b:=by
   rcases OK.mp ((h a).mp Ox)with z|z
   .exact z
   .rcases OK.mp ((h b).mpr Ox)with w|w
    .exact w.symm
    .have:=o8 (q1 a z) (d b w)
     rw[gW]at this;cases this
  subst e;congr 1;refine rD f q2 λx=>⟨λc=>?_,λc=>?_⟩
  .rcases OK.mp ((h x).mp (Op a c))with rfl|z
   .have:=d x c;rw[gW]at this;cases this
   .exact z
  .rcases OK.mp ((h x).mpr (Op a c))with rfl|z
   .have:=q1 x c;rw[gW]at this;cases this
   .exact z
variable{prog:Pc}{w:Pk}{A:PU}{E:Ov->OB->Prop}{s:OB}
theorem vH{b:Bool}:∀{xs ys:List Int} {us vs:List Ov} (i:Nat),ItemsAre (UV prog w) xs us->ItemsAre (UV prog w) ys vs->∀n m:Nat,(decide (n+us.length<m+vs.length)=decide (xs.length<ys.length))->Q (cJ xs ys) s->KatLex prog w A On (decide (n+us.length<m+vs.length)) Q (us.zip vs) i s
 |[],ys,us,vs,i,hx,hy,n,m,e,q=>by
  cases hx;cases hy with
  |nil=>rw[Vq];exact kat_nil (by rw[e];exact q)
  |cons c d=>rw[Vq];exact kat_nil (by rw[e];exact q)
 |x::xs,ys,us,vs,i,hx,hy,n,m,e,q=>by
  cases hx with
  |@cons _ u _ us' c d=>
   cases hy with
   |nil=>rw[List.zip_nil_right];exact kat_nil (by rw[e];exact q)
   |@cons y v ys' vs' h3 h4=>
    obtain⟨g,rfl⟩:=Vi c;obtain⟨h,rfl⟩:=Vi h3;rw[QU];refine kat_cons (wpAny_eqBool_int ?_);unfold cJ at q;by_cases z:x=y
    .rw[OA z]at q
     rw[show(x==y)=On by rw[Sv];exact z];refine kat_yes ?_;have f:∀k l:Nat,decide (k+(us'.length+1)<l+(vs'.length+1))=decide (k+1+us'.length<l+1+vs'.length):=λk l=>decide_eq_decide.mpr (by omega);rw[OO,OO,f];refine vH (b:=b) (i+1) d h4 (n+1) (m+1) ?_ q;rw[<-f,<-OO (a:=R9 x g),<-OO (a:=R9 y h),e,OO,OO];exact decide_eq_decide.mpr (by omega)
    .rw[Ot z]at q
     rw[show(x==y)=Os by rw[WB];exact z];refine kat_no ?_;cases j:(On&&i==0)with
     |true=>exact oneLt_int q
     |false=>exact kat_one _ _ (lt_int (show PySem.W.BoolBack Q (.bool _) s from q))
theorem Ln(i:(js prog w).is s.heap xs x)(j:(js prog w).is s.heap ys y)(h:Q (cJ xs ys) s):OH (O4 prog w) A (keyLt' (tuples' On) (.ref x) (.ref y)) Q E s:=by
 obtain⟨m,o,p,d,k,e,a⟩:=i;obtain⟨o2,q,r,f,l,g,c⟩:=j;refine kat_lt d e f g ?_;have:=vH (A:=A) (b:=On) (Q:=Q) (s:=s) 0 a c 0 0 (by rw[QJ,QJ,a.length,c.length]) h;rw[QJ,QJ,Pb,Pb]at this;exact this
theorem uV:∀{ks:List (List Int×Oq)},(∀k∈ks,(js prog w).is s.heap k.1 k.2/\1<=k.1.length)->∃fs:List Ov,KatTups s.heap (ks.map λk=>OM k.2) fs/\fs.length=ks.length/\∀v∈fs,∃n t,v=R9 n t
 |[],_=>⟨[],trivial,rfl,λv hv=>by cases hv⟩
 |k::ks,h=>by
  obtain⟨fs,c,d,f⟩:=uV λg i=>h g (Op k i);obtain⟨⟨o,its,n,j,l,hd,b⟩,p⟩:=h k Ox;have a:=b.length;have m:0<its.size:=by rw[<-Pb,<-a];omega
  have e:=getElem?_pos its 0 m;refine⟨its[0]::fs,KatTups.cons j l hd e c,by rw[OO,OO,d],λv hv=>?_⟩;rcases OK.mp hv with rfl|hv
  .exact items_int b _ (by rw[<-Rl];exact Pq _)
  .exact f v hv
theorem qG{ks:List (List Int×Oq)}{n:Nat}{P:Um->OB->Prop}(L:s.heap.get? a=on (Q5 "list" (ks.map λk=>OM k.2).toArray n))(hk:∀k∈ks,(js prog w).is s.heap k.1 k.2/\1<=k.1.length)(nd:(ks.map (·.1)).Nodup)(h64:ks.length<64)
  (h:∀(h':P4) (l:List (List Int×Oq)) (n':Nat),l.Perm ks->Up (l.map (·.1))->h'.get? a=on (Q5 "list" (l.map λk=>OM k.2).toArray n')->(∀b o,b≠a->s.heap.get? b=on o->h'.get? b=on o)->P (.done (.ret .none)) {s with heap:=h'}):
  OH (O4 prog w) A (Builtin.«list.sort» ⟨[.ref a],[]⟩) P E s:=by
 have ha:a<s.heap.objs.size:=OZ L;rw[list_sort_plain];refine My (listItems_at L rfl ?_);refine My (SK L rfl ?_ (by simp[Qo];omega) (by simp));obtain⟨F,N⟩:∃F,(s.heap.update a (P5 λ_=>#[])).get? a=on (Q5 "list" #[] F):=⟨_,get?_update_seq L (λ_=>#[])⟩;refine My (seqEpoch_at N rfl ?_);refine My (Xb ?_ (by simp[Qo];omega));refine My (XH ?_ (PV _));refine P3 ?_;generalize q:(ks.map λk=>OM k.2)=vs at*;have u:vs.length=ks.length:=by rw[<-q,Oh]
 have d:(((s.heap.update a (P5 λ_=>#[])).push (Q5 "tuple" vs.toArray 0)).push (Q5 "list" #[] 0)).get? a=on (Q5 "list" #[] F):=by
  rw[X8 _ _ _ (by rw[size_push',Heap.size_update];exact Pr (R4 ha)),X8 _ _ _ (by rw[Heap.size_update];exact Pr ha)];exact N
 have keep:∀b o,b≠a->s.heap.get? b=on o->(((s.heap.update a (P5 λ_=>#[])).push (Q5 "tuple" vs.toArray 0)).push (Q5 "list" #[] 0)).get? b=on o:=λb o X e=>by
  refine Ol _ (Ol _ ?_);rw[QH _ _ _ _ X];exact e
 show OH (O4 prog w) A _ P E {s with heap:=((s.heap.update a (P5 λ_=>#[])).push (Q5 "tuple" vs.toArray 0)).push (Q5 "list" #[] 0)};generalize hh6:((s.heap.update a (P5 λ_=>#[])).push (Q5 "tuple" vs.toArray 0)).push (Q5 "list" #[] 0)=h6 at d keep
 dsimp only
 have O:∀(l:List (List Int×Oq)) (y:Array Ov),l.Perm ks->Up (l.map (·.1))->y=(l.map λk=>OM k.2).toArray->P (.done (.ret .none)) {s with heap:=h6.update a (P5 λ_=>y)}:=λl y p1 p2 e=>by
  refine h _ l _ p1 p2 (by rw[<-e];exact get?_update_seq d λ_=>y) λb o X Y=>?_;rw[QH _ _ _ _ X];exact keep b o X Y
 by_cases I:vs.toArray.size<2
 .rw[OA I,OA I]
  refine My (Oj ?_);rw[StateT.run_pure];refine My (Oj ?_)
  dsimp only
  refine My (seqEpoch_at d rfl ?_);have Z:((arrOf (SortSt.mk' general' (vs.toArray.zip vs.toArray) #[] 7 Oi)).map (·.2))=vs.toArray:=by
   show(vs.toArray.zip vs.toArray).map (·.2)=_;apply Array.toList_inj.mp;rw[Array.toList_map,Array.toList_zip];exact List.map_snd_zip (OD _)
  rw[Z];refine My (SK d rfl ?_ (by simp) (by simp[Qo];omega));simp only[RV,OT,PD];refine Oj (O ks _ (.refl _) ?_ (by rw[q]));have R:ks.length<2:=by rw[<-u];simpa using I
  match ks,R with
  |[],_=>exact UE
  |[k],_=>exact SH _ _
  |_::_::_,R=>simp at R;omega
 .rw[Ot I,Ot I]
  have h2':2<=ks.length:=by rw[<-u];simp at I;omega
  have H:∀k∈ks,(js prog w).is h6 k.1 k.2/\1<=k.1.length:=λk hk'=>by
   obtain⟨⟨o,its,m,h1,h3,h4,h5⟩,R⟩:=hk k hk';refine⟨⟨o,its,m,keep _ _ (λz=>?_) h1,h3,h4,h5⟩,R⟩;rw[z,L]at h1;cases h1;exact OX (Ru.inj h3) (by decide)
  obtain⟨fs,t1,t2,t3⟩:=uV (s:={s with heap:=h6}) H;rw[q]at t1;refine My (kat_kind (T:= .type "int") t1 (by omega) (λv hv=>?_) rfl ?_)
  .obtain⟨x,t,rfl⟩:=t3 v hv
   exact Looks.of_pure rfl
  show OH _ _ (StateT.run sortRuns' (SortSt.mk' (tuples' On) (vs.toArray.zip vs.toArray) #[] 7 Oi)>>=_) _ _ _;have J:(ks.map (·.1)).length=vs.length:=by rw[Oh,u]
  have at_:∀i,i<vs.length->∃k∈ks,vs.getD i Pg= .ref k.2/\(ks.map (·.1)).getD i []=k.1/\ks[i]?=on k:=λi c=>by
   have f:i<ks.length:=by omega
   refine⟨ks[i],Pq f,?_,?_,Oo f⟩
   .rw[<-q,Om,Ou,Oo f];rfl
   .rw[Om,Ou,Oo f];rfl
  refine My (PN (kat_run (κ:=tuples' On) (ks:=vs) (vs:=vs) (Q:=λg s'=>s'={s with heap:=h6}/\failedOf g=Oi/\∃p:Array Nat,Pm (gA (ks.map (·.1))) vs.length p/\So (gA (ks.map (·.1))) p vs.length/\arrOf g=p.map (kas_item (vs.toArray.zip vs.toArray)))
   (G:=λp s'=>s'={s with heap:=h6}/\Pm (gA (ks.map (·.1))) vs.length p/\So (gA (ks.map (·.1))) p vs.length) rfl (by omega) (by omega) (λp g s' a1 a2 a3 a4=>⟨a4.1,a3,p,a4.2.1,a4.2.2,a2⟩)
   (Rn.wp (lt:=ry (gA (ks.map (·.1)))) (n:=vs.length) (λi j c B C hC=>?_) (λp hp=>⟨rfl,hp⟩) (IY (by omega) λi j c B hr=>KG nd (by rw[J];exact c) (by rw[J];exact B) hr))) (λr s' hr=>?_) λ_ _ e=>e)
  .obtain⟨k1,m1,F,f1,_⟩:=at_ i c
   obtain⟨k2,m2,e2,f2,_⟩:=at_ j B;unfold kas_ask;rw[F,e2];refine Ln (H k1 m1).1 (H k2 m2).1 ?_;have:=yx (ks:=ks.map (·.1)) (i:=i) (j:=j) (by rw[J];exact c) (by rw[J];exact B);rw[f1,f2]at this;rw[<-this];exact hC
  .obtain⟨⟨⟩,g⟩:=r
   obtain⟨rfl,hf,p,P1,so,har⟩:=hr
   dsimp only
   have Z:(arrOf g).map (·.2)=(p.toList.map λi=>vs.getD i Pg).toArray:=kat_snds rfl har;have U:=P1.sz;rw[Z];refine My (seqEpoch_at d rfl ?_);refine My (SK d rfl ?_ (by simp) (by simp[Qo];omega));rw[hf];simp only[RV,OT,PD];have W:∀i∈p.toList,i<vs.length:=λi c=>OV.mp (P1.perm.mem_iff.mp c);refine Oj (O (p.toList.map λi=>ks.getD i ([],0)) _ ?_ ?_ ?_)
   .refine(P1.perm.map _).trans (Vf ?_)
    rw[u];refine QC (by simp) λi q1 q2=>?_;rw[Re,RC,Om,Oo q2];rfl
   .rw[Oy]
    unfold Up;rw[T9];refine Rj.mpr λi j c B hij=>?_;have f:i<vs.length:=by simpa[U]using c
    have hj':j<vs.length:=by simpa[U]using B
    have gd:∀x (hx:x<p.toList.length),p.getD x 0=p.toList[x]:=λx hx=>by
     have:x<p.size:=by simpa using hx
     simp[Rt,this]
    have z:=so i j hij hj';unfold ky at z;rw[gd i c,gd j B]at z;obtain⟨k1,m1,F,f1,g1⟩:=at_ p.toList[i] (W _ (Pq c));obtain⟨k2,m2,e2,f2,g2⟩:=at_ p.toList[j] (W _ (Pq B));have:=yx (ks:=ks.map (·.1)) (i:=p.toList[i]) (j:=p.toList[j]) (by rw[J];exact W _ (Pq c)) (by rw[J];exact W _ (Pq B));rw[OL z,f1,f2]at this;simp only[TK];rw[Om,Om,g1,g2];exact this.symm
   .rw[Oy]
    congr 1;refine O1 λi c=>?_;obtain⟨k1,m1,F,f1,g1⟩:=at_ i (W i c);rw[F];simp only[TK];rw[Om,g1];rfl
theorem BS{α β:Type}{f:α->β}{vs g:List β}(p:vs.Perm g):∀{xs:List α},g=xs.map f->∃ks:List α,ks.Perm xs/\vs=ks.map f:=by
 induction p with
 |nil=>
  intro xs e;cases xs with
  |nil=>exact⟨[],.refl _,rfl⟩
  |cons _ _=>cases e
 |cons x _ ih=>
  intro xs e;cases xs with
  |nil=>cases e
  |cons a xs=>
   cases e;obtain⟨ks,c,d⟩:=ih rfl;exact⟨a::ks,c.cons a,by rw[d];rfl⟩
 |swap x y l=>
  intro xs e
  match xs,e with
  |[],e=>cases e
  |[_],e=>cases e
  |a::b::xs,e=>
   cases e;exact⟨b::a::xs,.swap _ _ _,rfl⟩
 |trans _ _ ih1 ih2=>
  intro xs e;obtain⟨ks,c,d⟩:=ih2 e;obtain⟨h,i,j⟩:=ih1 d;exact⟨h,i.trans c,j⟩
theorem wz{xs:List (List Int×Oq)}(H:A.handled=Oi)(S:qx prog w s.heap a xs)(I:∀x∈xs,1<=x.1.length)(J:xs.length<64)
  (h:∀(l:Oq) (h':P4) (f v:Nat) (g:List (List Int×Oq)),g.Perm xs->Up (g.map (·.1))->h'.get? l=on (Q5 "list" (g.map λk=>OM k.2).toArray v)->s.heap.objs.size<=l->(∀b o,s.heap.get? b=on o->h'.get? b=on o)->s.toks<=f->Q (.ref l) {s with heap:=h',toks:=f}):
  OH (O4 prog w) A (VF (.builtin "sorted") [.ref a]) Q E s:=by
 obtain⟨o,es,ep,t,L,y,hd,i,B,N,T,O,j⟩:=S;have C:es.size=xs.length:=by rw[<-Pb,i,Oh]
 have R:t.fits es.size=On:=T.fits (by rw[Oh,C]);refine V4 kind_sorted plain_sorted entry_sorted (args_sorted1 _) ?_;unfold Builtin.«sorted»;refine My (m:=checkCount "sorted" 1 1 _) (Oj ?_);refine My (uR H L y.1 hd T R O j (by omega) λp f vs keep q htk pv=>?_);rw[i,Oy]at pv;obtain⟨ks,r,rfl⟩:=BS pv rfl;have U:ks.length=xs.length:=r.length_eq;refine My (XH ?_ (by rw[Oh,Qo];omega));have c:∀b d,s.heap.get? b=on d->(p.push (Q5 "list" (ks.map λk=>OM k.2).toArray 0)).get? b=on d:=λb d e=>Ol _ (keep b d e);have u:(p.push (Q5 "list" (ks.map λk=>OM k.2).toArray 0)).get? p.objs.size=on (Q5 "list" (ks.map λk=>OM k.2).toArray 0):=OI _ rfl;show OH _ _ _ _ _ {s with heap:=p.push (Q5 "list" (ks.map λk=>OM k.2).toArray 0),toks:=f};refine My (P3 (Pe slot_list_sort ⟨_,u,rfl⟩ entry_list_sort (qG u (λk F=>⟨?_,I k (r.mem_iff.mp F)⟩) ((r.map (·.1)).nodup_iff.mpr B) (by omega) λh' g v q1 q2 q3 q4=>⟨_,rfl,?_⟩) (args_list_sort _)))
 .obtain⟨W,its,m,X,Y,Z,z4⟩:=N k (r.mem_iff.mp F)
  exact⟨W,its,m,c _ _ X,Y,Z,z4⟩
 .refine Oj ⟨_,rfl,h p.objs.size h' f v g (q1.trans r) q2 q3 q (λb d e=>q4 b d (λz=>?_) (c b d e)) htk⟩
  have:=OZ e;exact OX (z▸this) (Nat.not_lt.mpr q)
end
end L2.Hs
namespace L2.Hs
open PySem PySem.Spec PyProof.Rows
section
variable{prog:Pc}{w:Pk}
def qy(prog:Pc)(w:Pk)(a:Oq)(xs:List (List Int×Oq))(h:P4):Prop:=
 ∃o es ep t,h.get? a=on o/\o.ExactSet/\o.data= .set es ep t/\(es.toList=xs.map λx=>(hsh prog w x.1,OM x.2))/\(xs.map (·.1)).Nodup/\(Tb t (xs.map λx=>hsh prog w x.1))/\t.plain=On/\t.led=!(w.params.followText "set-order")
noncomputable def lT(prog:Pc)(w:Pk)(a:Oq)(xs:List (List Int×Oq)):HO:= .ext (qy prog w a xs)
theorem qy.to(S:qy prog w a xs h)(b:∀x∈xs,(js prog w).is h x.1 x.2):qx prog w h a xs:=by
 obtain⟨o,es,ep,t,c,d,e,f,g,i⟩:=S;exact⟨o,es,ep,t,c,d,e,f,g,b,i⟩
theorem u6(S:qy prog w a xs h):bD prog w H h a (lT prog w a xs):=by
 refine⟨S,?_,λb c z k=>?_⟩
 .obtain⟨o,_,_,_,e,_⟩:=S
  exact⟨o,e⟩
 .obtain⟨o,es,ep,t,e,r⟩:=z
  exact⟨o,es,ep,t,k _ e,r⟩
theorem DA{k:List Int}:∀{its:List Ov},au (k.map V.int) its->ItemsAre (UV prog w) k its:=by
 induction k with
 |nil=>intro its h;cases h;exact .nil
 |cons i k ih=>
  intro its h;cases h with
  |cons a b=>
   obtain⟨t,rfl⟩:=a;exact .cons (by simp[UV,WZ]) (ih b)
variable{X:Cx}
theorem j3{s:OB}{k:List Int}(I:dk X a_ σ H s)(h:jn X.K H b (k.map V.int)):(js X.prog X.w).is s.heap k b:=by
 obtain⟨its,a,⟨o,e,c,n,hd⟩,_⟩:=I.tuple h;exact⟨o,its.toArray,n,e,c,hd,DA a⟩
theorem tb0{b:Bool}:Tb (.fresh 0 0 b) []:=⟨.inl rfl,rfl,λi j a b h=>by simp[X0]at*,λi j h=>by simp[X0]at h,rfl,by show 0*5<7*3;decide,λi h j c=>by simp at c⟩
theorem kC:∀a:List (List Int×Oq),au (a.map λz=>V.ref z.2) (a.map λk=>OM k.2)
 |[]=> .nil
 |_::a=> .cons rfl (kC a)
theorem Jz:Zq X (newSet (.type "set")) λD=>lT X.prog X.w D []:=λa s c H E Q I h=>by
 unfold newSet setsByText;refine My (My (Tu (Oj ?_)))
 dsimp only
 simp only[newObj];refine My (wpAny_alloc (Oj (h _ (I.laid (t':=s.toks) (λ_ _ q=>Ol _ q) (OD _) (u6 ?_)) λb o e=>Ol _ e)));exact⟨_,#[],0,_,OI _ rfl,⟨rfl,rfl,rfl⟩,rfl,rfl,.nil,tb0,rfl,rfl⟩
def z6(P:Pc)(w:Pk)(K:OU)(D:Oq)(e:TE):TB:=λd H Q=>e d H λv c=>∃xs k b,c D=on (lT P w D xs)/\v= .ref b/\jn K c b (k.map V.int)/\(∀x∈xs,jn K c x.2 (x.1.map V.int))/\xs.length<63/\
 ∀a,(k∈xs.map (·.1)->a=xs)->(k∉xs.map (·.1)->a.Perm ((k,b)::xs))->Q d (upd c D (lT P w D a))
theorem tL{D:Oq}(p:X.A.units+1<T4)(L:gens[d+1]?=Oi)(N:PE X elt te)(j:X.xe=λ_ _=>False):PB X (.S elt) gens scope pos d D (z6 X.prog X.w X.K D te):=by
 intro a s y H Q I h k Q' E' O;unfold gu;rw[L];show OH _ _ ((do let v <-PZ elt X.env;Si elt.pos;let _ <-VF (.builtin "set.add") [.ref D,v])>>=λ_=>k) _ _ _
 have c:=N a s y H _ I h;rw[j]at c;refine My (My (PN c (λu g l=>?_) λ_ _ f=>f.elim));obtain⟨v,H1,i,r,xs,R,b,B,rfl,C,J,hn,q⟩:=l;cases r;have S:qy X.prog X.w D xs g.heap:=(i.hok D _ B).1;have T:qx X.prog X.w g.heap D xs:=S.to λx h=>j3 i (J x h);obtain⟨o,es,ep,t,U,W,_⟩:=S;refine My (Q2 (My (Pe F.slot_set_add ⟨o,U,W.1⟩ F.entry_set_add ?_ (F.args_set_add_2 _ _))));unfold Builtin.«set.add» Builtin.Frozenset.oneOther;simp only[List.isEmpty_nil,bind_assoc];unfold Builtin.Frozenset.addrOf setAdd;refine My (Oj ?_)
 try dsimp only
 refine My (Oj ?_)
 try dsimp only
 refine My (P3 (My ((js X.prog X.w).pyHash p (j3 i C) ?_)));refine MT (s:={g with toks:=g.toks+(js X.prog X.w).draws R}) p T (j3 (s:=g) i C) hn λh' m Y Z c1 c2=>?_;show OH _ _ (ret Pg) _ _ _;refine Oj ⟨_,rfl,Oj (O _ y _ (i.write (by rw[B];trivial) (.inl rfl) (λb u n e=>(Y.2 b n).trans e) ?_ (u6 ?_)) (q m c1 c2))⟩
 all_goals obtain⟨o,es,ep,t,c,l,h3,h4,h5,J,h6⟩:=Z
 .exact⟨o,c⟩
 .exact⟨o,es,ep,t,c,l,h3,h4,h5,h6⟩
def kF(c:Oq->HO)(dr:List Pj)(dc:List Nat)(d:TI)(e:Oq->It->TB):TE:=λa H Q=>d a H λJ b=>∀D,b D=Oi->e D J (jy dr dc a) (upd b D (c D)) λ_ f=>Q (.ref D) f
theorem Jn{d a b:Expr}{f:List Expr}{rest:List Qp}{scope:Scope}{pos:TD}{j dr:List Pj}{dc:List Nat}{g:TG}{tt:TT}{o:Oq->TB}{p:TI}(r:X.calm=On)(S:dt X scope j dr dc)(t:PI X a b p)
  (u:∀(cl:List (Pj×Oq)) (C:Oq) (k:List Oq) (s:OB) (H:Hp),PG (az X j scope cl C k s H) a g/\dm (az X j scope cl C k s H) f tt/\∀D,PB (az X j scope cl C k s H) (.S d) (⟨a,b,f,0⟩::rest) scope pos 0 D (o D))
  (hs:∀x,Pz b X.env x=QR x:=by intro _;rfl):PE X (.SetComp d (⟨a,b,f,0⟩::rest) scope pos) (kF (λD=>lT X.prog X.w D []) dr dc p λD J=>cL J g tt (o D)):=by
 intro i s y H Q I h;refine Rz (use:=Oi) rfl hs (S.clo I.ok) S.kind S.loc (PN (t i s y H _ I h) (λv Y B=>PN B (λF Z L=>?_) λ_ _ x=>x) λ_ _ x=>x);obtain⟨it,k,tn,J,H2,e,N,T,l,f2,q⟩:=L;subst e;refine gq (c:= .S d) Jz (RR:=λacc C=>W4 (O4 X.prog X.w) X.A X.xe Oi _ acc C) r S u N T l f2 q λD C s' O m R ns U W=>?_;exact⟨m,ns,λh' n=>⟨.ref D,O,R.letgo U n,rfl,W⟩⟩
def vd(P:Pc)(w:Pk)(K:OU):List V->Hp->VK->Prop:=λxs H Q=>∃a ys,xs=[.ref a]/\H a=on (lT P w a ys)/\(∀x∈ys,jn K H x.2 (x.1.map V.int)/\1<=x.1.length)/\ys.length<64/\
 ∀(l:Oq) (b:List (List Int×Oq)),H l=Oi->b.Perm ys->Up (b.map (·.1))->Q (.ref l) (upd H l (.lst (b.map λz=>V.ref z.2)))
theorem uS(e:X.calm=On):cM X (.builtin "sorted") (vd X.prog X.w X.K):=by
 intro c s m H xs us Q I r h;obtain⟨a,ys,rfl,ha,d,hn,q⟩:=h;obtain⟨u,rfl,rfl⟩:=iD r;have S:qy X.prog X.w a ys s.heap:=(I.hok a _ ha).1;refine wz (I.ok.hd e) (S.to λx h=>j3 I (d x h).1) (λx h=>(d x h).2) hn λl h' f g b p i j hs keep n=>?_;refine⟨.ref l,_,I.laid (t':=f) (o:= .lst (b.map λz=>V.ref z.2)) keep hs ⟨?_,b.map λk=>OM k.2,g,?_,j⟩,rfl,q l b (I.hok.fresh hs) p i⟩
 .rw[Oh,p.length_eq,Qo];omega
 .exact kC b
end
end L2.Hs
namespace L2.Pu
open PySem PySem.Spec PyProof.Rows L2.Hs
def gn(nv:Nat)(dc:List Nat)(it:FL)(tg:m_)(tt:Dn->M Bool)(b:FL)(a:List D->Option D):FD:=λδ β=>match it δ β with
 |none=>Oi
 |some (.error C,β1)=>on (.error C,β1)
 |some (.ok ds,β1)=>match nw tg tt b ds (lm nv dc δ) β1 with
  |some (.ok os,β2)=>(a os).map λd=>(.ok d,β2)
  |_=>Oi
section
variable{K:OU}{E:St->XK}
theorem qC{R:AR}{p:Oq->HO}{c:List D->Option D}{dr:List Pj}{dc:List Nat}{it:FL}{g:TG}{tg:m_}{tt:Dn->M Bool}{T:Oq->TB}{b:FL}(hg:ci K g tg)(sg:di tg)(hb:∀D,dY K R D (T D) b)
  (r0:∀F H D,R.R F (upd H D (p D)) D []) (hp:∀os d,c os=on d->R.Z os) {U:St} {H:Hp} {Q W:VK} (h:tV K (gn dr.length dc it tg tt b c) E U H W)
  (k:∀F B f D os d,Fr F B f->¬F.A D->R.R F B D os->c os=on d->(∀v j,To F B j f->c4 K F j d v->W v j)->Q (.ref D) B):
  kF p dr dc (iV K it E) (λD J=>cL J g (hE K tt E0) (T D)) U H Q:=by
 obtain⟨F,δ,β,fr,X,r,f,e,h⟩:=h;unfold gn at e;refine⟨F,δ,β,fr,X,?_⟩;split at e
 .cases e
 .rename_i C β1 q
  cases e;exact⟨.error C,_,q,h⟩
 .rename_i ds β1 q
  split at e
  .rename_i os β2 q2
   cases hd:c os with
   |none=>rw[hd]at e;cases e
   |some d=>
    rw[hd]at e;cases e;refine⟨.ok ds,β1,q,λJ I t hJ D m=>?_⟩;have i:¬F.A D:=t.fr.fresh m;have nb:∀b l,F.bg=on (b,l)->D≠b/\D≠l:=λb l z=>⟨λw=>i (w▸(fr.bgA b l z).1),λw=>i (w▸(fr.bgA b l z).2.1)⟩;have Y:=t.fr.upd (p D) m;have L:Fr ⟨λa=>F.A a\/a=D,F.bg⟩ (upd I D (p D)) β1:=by
     refine⟨λa ha z=>?_,λb l z=>let ⟨x,y,w⟩:=fr.bgA b l z;⟨.inl x,.inl y,w⟩,Y.fr.bag⟩
     rcases ha with ha|ha
     .exact Y.fr.occ a ha z
     .subst ha;rw[aj]at z;cases z
    have u:Tr F I ⟨λa=>F.A a\/a=D,F.bg⟩ (upd I D (p D)):=⟨λa ha hs z=>by
     rcases z with z|z
     .exact ha z
     .subst z;exact hs m,λa o ha z=>by rw[b_ (aw z m)];exact z,rfl⟩
    refine my (R:=R) (D:=D) (as:=[]) (os:=os) hg sg (hb D) L (.inr rfl) nb (pQ (X.tr ((t.tr fr).trans u))) (r0 _ _ _) (hJ.tr u) q2 (hp os d hd) λσ1 j N vk3 O=>?_;have tf:To F I j f:=by
     refine⟨λa o z n=>N.kp a o (by rw[b_ (aw z m)];exact z) (aw z m) n,λa ha z=>N.fr.occ a (QY ha) z,fr.bgA,N.fr.bag⟩
    exact k F j f D os d tf.fr i (R.tr (F:=⟨λa=>F.A a\/a=D,F.bg⟩) O (λ_ z=>z) ⟨λa ha _ z=>ha (QY z),λa o _ z=>z,rfl⟩) hd λv H3 t4 hv=>h v H3 ((t.trans tf).trans t4) hv
  .cases e
noncomputable abbrev ln(k:List Int):D:= .tup (k.map .int)
theorem qp{k:List Int}(h:c4 K F H (ln k) v):∃b,v= .ref b/\jn K H b (k.map V.int):=by
 obtain⟨a,xs,rfl,sq,c⟩:=c4.sqT h;cases bb.ints k c;exact⟨a,rfl,sq⟩
theorem dZ(h:ln k=ln l):k=l:=by
 injection h with h
 exact Vd (λa b z=>by injection z)|>.mp h
theorem nd_len{α:Type} [BEq α] [LawfulBEq α]:∀{l m:List α},l.Nodup->(∀x∈l,x∈m)->l.length<=m.length
 |[],_,_,_=>PV _
 |a::l,m,nd,h=>by
  obtain⟨c,d⟩:=Pt.mp nd;have:=nd_len (m:=m.erase a) d λx b=>(List.mem_erase_of_ne (λ(z:x=a)=>c (z▸b))).mpr (h x (Op a b));rw[List.length_erase_of_mem (h a Ox)]at this;have:=UA (h a Ox);rw[OO];omega
noncomputable def RS(P:Pc)(w:Pk)(K:OU):AR where
 R:=λF H D as=>∃xs,H D=on (lT P w D xs)/\(xs.map (·.1)).Nodup/\(∀x∈xs,c4 K F H (ln x.1) (.ref x.2)/\ln x.1∈as)/\∀d∈as,∃k∈xs.map (·.1),d=ln k
 Z:=λl=>∃ks:LI,ks.length<63/\∀d∈l,∃k∈ks,d=ln k
 tr:=λh k t=>by
  obtain⟨xs,a,b,c,f⟩:=h;exact⟨xs,k _ a,b,λx e=>⟨c4.tr t _ _ (c x e).1,(c x e).2⟩,f⟩
 zp:=λh=>by
  obtain⟨ks,a,b⟩:=h;exact⟨ks,a,λd hd=>b d (Rr _ hd)⟩
theorem CS{P:Pc}{w:Pk}{D:Oq}:dY K (RS P w K) D (z6 P w K D (tV K f E0)) (lq f):=λF H δ β u R as os Q fr T A J U e W k=>by
 obtain⟨xs,X,nd,j,ha⟩:=U;obtain⟨d,β1,Y,Z⟩:=M.bind_inv e;cases Z;refine⟨F,δ,β,fr,J,E0.run Y λv B t L=>?_⟩;have C:=t.kp D _ X A;obtain⟨ks,z1,N⟩:=W;obtain⟨r,hk',rfl⟩:=N d (Ps _ Ox);obtain⟨b,rfl,sq⟩:=qp L;have c:∀x∈xs,c4 K F B (ln x.1) (.ref x.2):=λx h=>c4.tr (t.tr fr) _ _ (j x h).1;have g:xs.length<63:=by
  have:=nd_len (m:=ks) nd λx I=>by
   obtain⟨y,hy,rfl⟩:=OC.mp I;obtain⟨l,hl,e⟩:=N _ (Rr _ (j y hy).2);rw[dZ e];exact hl
  rw[Oh]at this;omega
 refine⟨xs,r,b,C,rfl,sq,λx h=>?_,g,λi c1 c2=>?_⟩
 .obtain⟨b',e,q⟩:=qp (c x h)
  cases e;exact q
 have O:na F D B (upd B D (lT P w D i)) u:=by
  refine⟨λa o h n _=>by rw[b_ n];exact h,λa h q=>?_,fr.bgA,λb l q=>?_⟩
  .by_cases z:a=D
   .subst z;rw[aj]at q;cases q
   .rw[b_ z]at q;exact t.fr.occ a h q
  .rw[b_ (A b l q).1.symm,b_ (A b l q).2.symm]
   exact t.fr.bag b l q
 have tt:=O.tr t.fr T;refine k R _ ((t.toD D).trans O) (J.tr ((t.tr fr).trans tt)) ⟨i,aj,?_⟩;by_cases hm:r∈xs.map (·.1)
 .cases c1 hm
  refine⟨nd,λx h=>⟨c4.tr tt _ _ (c x h),Rr _ (j x h).2⟩,λd hd=>?_⟩;rcases Qb.mp hd with hd|hd
  .exact ha d hd
  .exact⟨r,hm,O6.mp hd⟩
 .have p:=c2 hm
  refine⟨(p.map (·.1)).nodup_iff.mpr (Pt.mpr ⟨hm,nd⟩),λx h=>?_,λd hd=>?_⟩
  .rcases OK.mp (p.mem_iff.mp h)with rfl|h
   .exact⟨c4.tr tt _ _ L,Ps _ Ox⟩
   .exact⟨c4.tr tt _ _ (c x h),Rr _ (j x h).2⟩
  .rcases Qb.mp hd with hd|hd
   .obtain⟨k2,h2,e⟩:=ha d hd
    exact⟨k2,(p.map (·.1)).mem_iff.mpr (Op _ h2),e⟩
   .exact⟨r,(p.map (·.1)).mem_iff.mpr Ox,O6.mp hd⟩
def YC(ks:LI)(os:List D):Prop:=Up ks/\ks.length<63/\(∀k∈ks,1<=k.length/\ln k∈os)/\∀d∈os,∃k∈ks,d=ln k
theorem YC.eq{os:List D}(a:YC ks os)(b:YC ls os):ks=ls:=rD a.1 b.1 λx=>⟨λh=>by
 obtain⟨l,c,e⟩:=b.2.2.2 _ (a.2.2.1 x h).2;rw[dZ e];exact c,λh=>by
 obtain⟨l,c,e⟩:=a.2.2.2 _ (b.2.2.1 x h).2;rw[dZ e];exact c⟩
open Classical in
def fj(os:List D):Option D:=if h:∃ks,YC ks os then on (.lst (h.choose.map ln))else Oi
theorem sL{ks:LI}{os:List D}(h:YC ks os):fj os=on (.lst (ks.map ln)):=by
 have q:∃ks,YC ks os:=⟨ks,h⟩;unfold fj;rw[dif_pos q,q.choose_spec.eq h]
theorem iE{os:List D}(h:fj os=on d):∃ks,YC ks os/\d= .lst (ks.map ln):=by
 unfold fj at h;split at h
 .rename_i q
  cases h;exact⟨_,q.choose_spec,rfl⟩
 .cases h
theorem lH:∀{a:List (List Int×Oq)},(∀z∈a,c4 K F H (ln z.1) (.ref z.2))->bb K F H ((a.map (·.1)).map ln) (a.map λz=>V.ref z.2)
 |[],_=>bb.nil
 |z::a,h=>bb.cons (h z Ox) (lH λx b=>h x (Op z b))
end
section
variable{X:Cx}{E:St->XK}{elt cp iter:Expr}{ifs:List Expr}{rest:List Qp}{scope:Scope}{pos p pos':TD}{Nc dr:List Pj}{dc:List Nat}{g:TG}{tb:Oq->TB}
theorem AQ(i:Gl X "sorted")(hm:X.mg "sorted"=Oi)(o:X.calm=On)(S:dt X scope Nc dr dc)(r:PI X cp iter (iV X.K it E))
  (t:∀(cl:List (Pj×Oq)) (C:Oq) (j:List Oq) (s:OB) (H:Hp),PG (az X Nc scope cl C j s H) cp g/\dm (az X Nc scope cl C j s H) ifs (hE X.K tt E0)/\∀D,PB (az X Nc scope cl C j s H) (.S elt) (⟨cp,iter,ifs,0⟩::rest) scope pos 0 D (tb D))
  (u:ci X.K g tg) (A:di tg) (B:∀D,dY X.K (RS X.prog X.w X.K) D (tb D) b) (hs:∀x,Pz iter X.env x=QR x:=by intro _;rfl):
  PE X (.Call (.Name "sorted" p) [.SetComp elt (⟨cp,iter,ifs,0⟩::rest) scope pos] [] pos') (tV X.K (gn dr.length dc it tg tt b fj) E):=
 (jP (uS o) i hm (by kernel_rfl) (d9 (Jn o S r t hs) ii)).imp λZ H Q h=>by
  refine qC (Q:=λv I=>vd X.prog X.w X.K [v] I Q) u A B (λF H D=>⟨[],aj,.nil,λx a=>OX a (by simp),λd hd=>OX hd (by simp)⟩) (λos d e=>?_) h λF H' J D os d fr L N e q=>?_
  .obtain⟨ks,s,_⟩:=iE e
   exact⟨ks,s.2.1,s.2.2.2⟩
  .obtain⟨ks,s,rfl⟩:=iE e
   obtain⟨xs,O,nd,a,ha⟩:=N;have k:∀x∈xs,x.1∈ks:=λx h=>by
    obtain⟨l,f,e⟩:=s.2.2.2 _ (a x h).2;rw[dZ e];exact f
   have hn:xs.length<64:=by
    have:=nd_len (m:=ks) nd λy c=>by
     obtain⟨x,h,rfl⟩:=OC.mp c;exact k x h
    rw[Oh]at this;have:=s.2.1;omega
   refine⟨D,xs,rfl,O,λx h=>?_,hn,λl R f n T=>?_⟩
   .obtain⟨b',e,q⟩:=qp (a x h).1
    cases e;exact⟨q,(s.2.2.1 _ (k x h)).1⟩
   .have U:ks=R.map (·.1):=rD s.1 T λy=>by
     refine⟨λc=>?_,λc=>?_⟩
     .obtain⟨k2,W,e⟩:=ha _ (s.2.2.1 y c).2
      rw[dZ e];exact(n.map (·.1)).mem_iff.mpr W
     .obtain⟨x,h,rfl⟩:=OC.mp ((n.map (·.1)).mem_iff.mp c)
      exact k x h
    rw[U]at q;exact q _ _ (fr.upd _ f) (c4.newL fr f (lH λz Y=>(a z (n.mem_iff.mp Y)).1))
end
end L2.Pu
namespace L2.Hs
open PySem PySem.Spec PyProof.Rows
section
variable{prog:Pc}{w:Pk}{A:PU}{E:Ov->OB->Prop}{s:OB}
def L1(prog:Pc)(w:Pk)(h:P4)(k:fh)(a:Oq):Prop:=∃o n t b,h.get? a=on o/\o.cls= .type "tuple"/\o.data= .seq #[.int k.1 t,.ref b] n/\(js prog w).is h k.2 b
theorem L1.ty(x:L1 prog w s.heap k a):s.TypeIs (.ref a) "tuple":=let ⟨o,_,_,_,ho,hc,_⟩:=x;⟨o,ho,hc⟩
theorem L1.inj(f:L1 prog w h x a)(g:L1 prog w h y a):x=y:=by
 obtain⟨o,n,t,b,i,_,hd,j⟩:=f;obtain⟨k,p,t',q,d,_,c,e⟩:=g;obtain rfl:o=k:=O8 (i.symm.trans d);rw[hd]at c;simp only[Data.seq.injEq,Array.mk.injEq,Rx,R9.injEq,OM.injEq]at c;obtain⟨⟨⟨l,_⟩,m,_⟩,_⟩:=c;subst m;exact RQ l ((js prog w).inj j e)
theorem LD(k:List Int):hsh prog w k=hI k:=by unfold hsh hI;show tupleKeyHash _ _=_;unfold tupleKeyHash;rfl
theorem LE{k:fh}(g:A.units+1<T4)(f:L1 prog w s.heap k a)(h:Q (hB On k) {s with toks:=s.toks+(k.2.length+3)}):OH (O4 prog w) A (pyHash (.ref a)) Q E s:=by
 have c:=f.ty;obtain⟨o,n,t,b,i,_,hd,j⟩:=f;unfold pyHash
 first|unfold pyHashByItsType|skip
 refine My (wpAny_cRoomFor_or (.inr (by omega)) ?_);refine My (Rc c F.slot_tuple_hash.lookup ?_);show OH _ _ (if(on (Value.builtin "tuple.__hash__")==on Pg)=On then _ else _) Q E s;rw[Ot (by rw[beq_builtin_none];exact OE)];refine My (Rc c F.slot_tuple_hash.lookup ?_);show OH _ _ (callSpecialIfBoundUnlessNone? (.ref a) "__hash__" _>>=_) Q E s;refine My (wpAny_callSpecialIfBoundUnlessNone?_slot c F.slot_tuple_hash (Pe F.slot_tuple_hash c F.entry_tuple_hash ?_ (F.args_tuple_hash_1 _)));show OH _ _ (U7 (.ref a)>>=_) _ _ s;refine My (VI i hd ?_);refine My ?_;rw[<-Sy];simp only[RP,R6];refine My (My (wpAny_pyHash_int ?_));refine Oj (My (My ((js prog w).pyHash g j ?_)));refine Oj (Oj ?_);have h':Q (hB On k) {s with toks:=s.toks+1+(k.2.length+1)+1}:=by
  have e:s.toks+1+(k.2.length+1)+1=s.toks+(k.2.length+3):=by omega
  rw[e];exact h
 refine wpAny_ret_mkInt ?_;generalize l:S7 _=z;have m:hB On k=reduceHash z:=by rw[<-l,show(js prog w).hash k.2=hI k.2 from LD k.2];rfl
 rw[m]at h';show OH _ _ (if(decide (-(2:Int)^63<=z)&&decide (z<2^63))=On then _ else _) Q E _;unfold reduceHash at h';by_cases d:(decide (-(2:Int)^63<=z)&&decide (z<2^63))=On
 .rw[OA d]
  rw[OA d]at h';exact Oj h'
 .rw[Ot d]
  rw[Ot d]at h';exact My (R0 (Oj h'))
theorem Z_(q:A.units+1<T4)(d:L1 prog w s.heap x a)(f:L1 prog w s.heap y b)(h:Q (decide (x=y)) s):OH (O4 prog w) A (eqBool (.ref a) (.ref b)) Q E s:=by
 unfold eqBool
 try with_reducible refine P3 ?_
 show OH _ _ (if(OM a==OM b)=On then _ else _) Q E s;by_cases c:(OM a==OM b)=On
 .rw[OA c]
  have e:a=b:=by have:=eq_of_beq c;injection this
  subst e;obtain rfl:=d.inj f;exact My (R0 (Oj (by simpa using h)))
 .rw[Ot c]
  refine My (wpAny_richCompare_same_room (op:= .Eq) d.ty f.ty F.slot_tuple_eq
   (Pe F.slot_tuple_eq d.ty F.entry_tuple_eq ?_ (F.args_tuple_eq_2 _ _)) (by omega))
  have j:=f.ty;obtain⟨r,t,u,v,k,_,l,m⟩:=d;obtain⟨B,C,H,I,n,_,o,p⟩:=f;show OH _ _ (VG (.ref b) (.type "tuple")>>=_) _ _ s;refine My (QE j Vb ?_);simp only[Ra,OT,PD];refine My (VI k l ?_);refine My (VI n o ?_);refine My ?_;simp only[QU,Vq,RP,R6];refine My (My ((UV prog w).eqBool (a:=x.1) (b:=y.1) (by simp[UV,WZ]) (by simp[UV,WZ]) ?_));by_cases g:x.1=y.1
  .rw[OL g]
   refine Oj (My (My ((js prog w).eqBool q m p ?_)));by_cases i:x.2=y.2
   .rw[OL i]
    rw[OL (RQ g i)]at h;exact Oj (Oj (Oj ⟨_,rfl,(λe=>nomatch e),P7 h⟩))
   .rw[Pn i]
    rw[Pn (λe=>i (Px _ e))]at h;exact My (Oj (Oj (Oj (Oj ⟨_,rfl,(λe=>nomatch e),P7 h⟩))))
  .rw[Pn g]
   rw[Pn (λe=>g (Px _ e))]at h;exact My (Oj (Oj (Oj (Oj ⟨_,rfl,(λe=>nomatch e),P7 h⟩))))
theorem Jg(f:(js prog w).is s.heap k a)(h:Q On s):OH (O4 prog w) A (X3 (m+1) (.ref a)) Q E s:=by
 have g:=Wx f;obtain⟨o,c,n,i,_,hd,j⟩:=f;unfold X3;refine My (Rc g F.slot_tuple_eq.lookup ?_);show OH _ _ (VG (.ref a) (.type "tuple")>>=_) _ _ s;refine My (QE g Vb ?_);simp only[Ra,OT,PD];refine My (QB i hd ?_);refine My ?_;show OH _ _ (forIn c _ _) _ _ s;rw[<-Sy];refine UM _ (λrest r s'=>r.1=Oi/\s'=s/\∀v∈rest,carriedByValue v=On) _ ?_ ?_ _ _ ⟨rfl,rfl,j.byValue⟩
 .rintro v rest r s' ⟨d,rfl,b⟩
  rw[eqIsQuiet_byValue _ (b v Ox)];refine My (Oj ?_);simp only[Ra,OT,PD];exact Oj ⟨rfl,rfl,λu e=>b u (Op _ e)⟩
 .rintro⟨r1,l⟩ s' ⟨d,rfl,_⟩
  simp only at d;subst d;exact Oj h
theorem Jh(c:L1 prog w s.heap k a)(h:Q On s):OH (O4 prog w) A (X3 8 (.ref a)) Q E s:=by
 have d:=c.ty;obtain⟨o,n,t,b,e,_,hd,f⟩:=c;unfold X3;refine My (Rc d F.slot_tuple_eq.lookup ?_);show OH _ _ (VG (.ref a) (.type "tuple")>>=_) _ _ s;refine My (QE d Vb ?_);simp only[Ra,OT,PD];refine My (QB e hd ?_);refine My ?_;show OH _ _ (forIn #[R9 k.1 t,OM b] _ _) _ _ s;rw[<-Sy];simp only[RP,R6];rw[eqIsQuiet_byValue _ (v:= .int k.1 t) rfl];exact My (My (Oj (Oj (My (My (Jg (m:=6) f (Oj (Oj (Oj h)))))))))
def PKd(prog:Pc)(w:Pk):HeapKind prog w fh where
 is:=L1 prog w
 hash:=hB On
 draws:=λk=>k.2.length+3
 room:=λA=>A.units+1<T4
 inj:=λd e=>d.inj e
 keeps:=λx i hd hs=>by
  obtain⟨j,n,t,b,c,l,a,m⟩:=x;refine⟨j,n,t,b,(hs.2 _ ?_).trans c,l,a,(js prog w).keeps m i hd hs⟩;rintro rfl;obtain rfl:=O8 (c.symm.trans i);rw[hd]at a;exact nomatch a
 pyHash:=λf g h=>LE f g h
 eqBool:=λf d e h=>Z_ f d e h
 quiet:=λg h=>Jh g h
def FKd(prog:Pc)(w:Pk):HeapKind prog w fh where
 is:=λh k a=>k.1=0/\(js prog w).is h k.2 a
 hash:=hB Os
 draws:=λk=>k.2.length+1
 room:=λA=>A.units+1<T4
 inj:=λc d=>RQ (c.1.trans d.1.symm) ((js prog w).inj c.2 d.2)
 keeps:=λx i hd hs=>⟨x.1,(js prog w).keeps x.2 i hd hs⟩
 pyHash:=λf g h=>(js prog w).pyHash (Nat.lt_of_succ_lt f) g.2 h
 eqBool:=λ{A E s x y a b Q} f c d h=>(js prog w).eqBool (Nat.lt_of_succ_lt f) c.2 d.2 (by
  have e:decide (x.2=y.2)=decide (x=y):=by
   by_cases q:x.2=y.2
   .rw[OL q,OL (RQ (c.1.trans d.1.symm) q)]
   .rw[Pn q,Pn (λz=>q (Px _ z))]
  rw[e];exact h)
 quiet:=λg h=>(js prog w).quiet g.2 h
def KB(prog:Pc)(w:Pk):Bool->HeapKind prog w fh
 |true=>PKd prog w
 |false=>FKd prog w
theorem ql{b:Bool}:(KB prog w b).hash=hB b:=by cases b<;>rfl
theorem jt{b:Bool}{A:PU}(h:A.units+1<T4):(KB prog w b).room A:=by cases b<;>exact h
def t_(K:OU)(H:Hp):Bool->fh->Oq->Prop
 |true,k,c=>∃e,jn K H c [.int k.1,.ref e]/\jn K H e (k.2.map V.int)
 |false,k,c=>k.1=0/\jn K H c (k.2.map V.int)
abbrev XY(x:fh×Oq×V)(y:fh×Oq×Ov):Prop:=x.1=y.1/\x.2.1=y.2.1/\aI x.2.2 y.2.2
theorem je:∀{xs:List (fh×Oq×V)} {ys:List (fh×Oq×Ov)},TW XY xs ys->xs.map (·.1)=ys.map (·.1)
 |_,_,.nil=>rfl
 |_,_,.cons h t=>by rw[OG,OG,h.1,je t]
theorem xN:∀{xs:List (fh×Oq×V)} {ys:List (fh×Oq×Ov)},TW XY xs ys->∀y∈ys,∃x∈xs,XY x y
 |_,_,.nil,y,h=>by cases h
 |_,_,.cons (a:=a) h t,y,hy=>by
  rcases OK.mp hy with rfl|hy
  .exact⟨a,Ox,h⟩
  .obtain⟨x,b,e⟩:=xN t y hy
   exact⟨x,Op _ b,e⟩
noncomputable def nq(xs:List (fh×Oq×V))(k:fh):Option V:=(xs.find? λx=>decide (x.1=k)).map (·.2.2)
theorem jf:∀{xs:List (fh×Oq×V)} {ys:List (fh×Oq×Ov)},TW XY xs ys->gE (nq xs k) ((VX ys k).map (·.2))
 |_,_,.nil=>by simp[nq,VX,gE]
 |_,_,.cons (a:=a) (b:=b) h t=>by
  have ih:=jf (k:=k) t;unfold nq VX at ih⊢;rw[Rm,Rm,<-h.1];by_cases q:a.1=k
  .rw[OL q];exact h.2.2
  .rw[Pn q];exact ih
theorem pW(h:XY x y):∀{xs:List (fh×Oq×V)} {ys:List (fh×Oq×Ov)},TW XY xs ys->TW XY (xs++[x]) (ys++[y])
 |_,_,.nil=> .cons h .nil
 |_,_,.cons h' t=> .cons h' (pW h t)
variable{X:Cx}{a_:List (Oq×O7)}{σ:St}{H:Hp}
theorem mz{b:Bool}(I:dk X a_ σ H s)(h:t_ X.K H b k c):(KB X.prog X.w b).is s.heap k c:=by
 cases b with
 |true=>
  obtain⟨e,a,d⟩:=h;obtain⟨its,f,⟨o,g,i,n,hd⟩,_⟩:=I.tuple a;obtain⟨j,l,rfl,⟨t,rfl⟩,rfl⟩:=rC f;exact⟨o,n,t,e,g,i,hd,j3 I d⟩
 |false=>exact⟨h.1,j3 I h.2⟩
theorem Yy{a_:List (Oq×O7)}{σ:St}{H:Hp}{s:OB}(I:dk X a_ σ H s):Tt<s.heap.objs.size:=TC (by decide) (show QV<s.heap.objs.size from(I.mod.glob.keeps I.bk).lt)
theorem iu{b:Bool}(I:dk X a_ σ H s)(d:H a=on (bY a b ep xs))(e:∀x∈xs,t_ X.K H b x.1 x.2.1):∃ys,s.heap.DictOfH (KB X.prog X.w b) a ys/\TW XY xs ys/\ys.length<=OS/\(a==Tt)=Os:=by
 obtain⟨o,es,ys,f,g,h,i,j,k,l,c⟩:xK a b ep xs s.heap:=(I.hok a _ d).1;refine⟨ys,⟨o,es,ep,f,g,h,?_,λy m=>?_,j⟩,c,l,k⟩
 .rw[i];unfold entryOfKey;rw[ql]
 .obtain⟨x,n,p,q,_⟩:=xN c y m
  rw[<-p,<-q];exact mz I (e x n)
def KP(K:OU):R2:=λx y H Q=>∃a b ep xs k c v,x= .ref a/\y= .ref c/\H a=on (bY a b ep xs)/\(∀x∈xs,t_ K H b x.1 x.2.1)/\t_ K H b k c/\nq xs k=on v/\Q v H
theorem zB(l:X.A.units+2<T4):K_ X (KP X.K):=by
 intro g i a_ s σ H x y v u Q I m n h hs;obtain⟨a,b,ep,xs,k,c,o,rfl,rfl,t,B,C,J,q⟩:=h;cases m;cases n;obtain⟨ys,d,p,_,_⟩:=iu I t B;have f:=jf (k:=k) p;rw[J]at f;cases e:VX ys k with
 |none=>rw[e]at f;exact f.elim
 |some r=>
  rw[e]at f;exact UX (x:=r.2) d.typeIs PySem.F.slot_dict_getitem.lookup (wpAny_getItem_heap (Q:=λj s'=>j=r.2/\EP X a_ σ Q j s') (jt l) (mz I C) d e ⟨rfl,o,H,I.tok _,f,q⟩) hs
theorem nJ{b:Bool}:Zq X newDict λD=>bY D b 0 []:=λa_ s σ H E Q I h=>Ph (h _ (I.laid (t':=s.toks) (λ_ _ q=>Ol _ q) (OD _) (qq ⟨_,#[],[],OI _ rfl,⟨rfl,rfl,rfl⟩,rfl,rfl,.nil,beq_eq_false_iff_ne.mpr (Ne.symm (Pr (Yy I))),PV _,.nil⟩)) λb o e=>Ol _ e)
def z7(K:OU)(b:Bool)(D:Oq)(e f:TE):TB:=λσ H Q=>e σ H λx g=>f σ g λy a=>∃ep xs k c,x= .ref c/\a D=on (bY D b ep xs)/\(∀x∈xs,t_ K a b x.1 x.2.1)/\t_ K a b k c/\k∉xs.map (·.1)/\xs.length<OS/\∀d,Q σ (upd a D (bY D b d (xs++[(k,c,y)])))
theorem jR{D:Oq}{b:Bool}(L:X.A.units+1<T4)(N:gens[d+1]?=Oi)(O:PE X ke tk)(R:PE X ve tv)(a:X.xe=λ_ _=>False):PB X (.D ke ve) gens scope pos d D (z7 X.K b D tk tv):=by
 intro a_ s σ H Q I h k Q' E' T;unfold gu;rw[N];show OH _ _ (Zh (.D ke ve) (.ref D) X.env>>=λ_=>k) _ _ _;unfold Zh;have t:=O a_ s σ H _ I h;rw[a]at t;refine My (My (PN t (λu U W=>?_) λ_ _ f=>f.elim));obtain⟨v,Y,Z,r,q1⟩:=W;have B:=R a_ U σ Y _ Z q1;rw[a]at B;refine My (P3 (PN B (λu2 s2 h4=>?_) λ_ _ f=>f.elim));obtain⟨v2,H2,i,r2,ep0,xs,j,c,rfl,C,hx,hc,hn,hl,q⟩:=h4;cases r;obtain⟨ys,dd,p,hz,l⟩:=iu i C hx;have F:=je p;have e0:VX ys j=Oi:=by
  cases e:VX ys j with
  |none=>rfl
  |some r=>
   exfalso
   unfold VX at e;cases m:ys.find? (λx=>decide (x.1=j))with
   |none=>rw[m]at e;cases e
   |some y=>
    have:=List.find?_some m;exact hn (by rw[F];exact OC.mpr ⟨y,List.mem_of_find?_eq_some m,PR this⟩)
 refine My (Q2 (P3 (wpAny_dictSet_heap (jt L) (mz i hc) dd (λh' d' sb=>?_) hz)));rw[storedH_new e0]at d';obtain⟨o,es,ep,J,g2,g3,g4,g5,g6⟩:=d';have g:ys.length=xs.length:=by rw[<-Oh (f:=(·.1)),<-F,Oh]
 refine T _ σ _ (i.write (by rw[C];trivial) (.inl rfl) (λb u n e=>(sb.2 b n).trans e) ⟨o,J⟩ (qq ⟨o,es,_,J,g2,g3,?_,g6,l,?_,pW ⟨rfl,rfl,r2⟩ p⟩)) (q ep)
 .rw[g4];unfold entryOfKey;rw[ql]
 .rw[ON,g,PH];omega
theorem BW{b:Bool}{k l a d:Expr}{f:List Expr}{rest:List Qp}{scope:Scope}{pos:TD}{i dr:List Pj}{dc:List Nat}{g:TG}{tt:TT}{p:Oq->TB}{r:TI}(t:X.calm=On)(S:dt X scope i dr dc)(u:PI X a d r)
  (y:∀(cl:List (Pj×Oq)) (C:Oq) (j:List Oq) (s:OB) (H:Hp),PG (az X i scope cl C j s H) a g/\dm (az X i scope cl C j s H) f tt/\∀D,PB (az X i scope cl C j s H) (.D k l) (⟨a,d,f,0⟩::rest) scope pos 0 D (p D))
  (hs:∀x,Pz d X.env x=QR x:=by intro _;rfl):PE X (.DictComp k l (⟨a,d,f,0⟩::rest) scope pos) (kF (λD=>bY D b 0 []) dr dc r λD J=>cL J g tt (p D)):=by
 intro a_ s σ H Q I h;refine Rz (use:=Oi) rfl hs (S.clo I.ok) S.kind S.loc (PN (u a_ s σ H _ I h) (λv Y B=>PN B (λF Z L=>?_) λ_ _ x=>x) λ_ _ x=>x);obtain⟨it,j,tn,J,H2,e,N,T,n,f2,q⟩:=L;subst e;refine gq (c:= .D k l) nJ (RR:=λacc C=>W4 (O4 X.prog X.w) X.A X.xe Oi _ acc C) t S y N T n f2 q λD C s' O m R ns U W=>?_;exact⟨m,ns,λh' o=>⟨.ref D,O,R.letgo U o,rfl,W⟩⟩
end
end L2.Hs
namespace L2.Pu
open PySem PySem.Spec PyProof.Rows L2.Hs
def dK:Bool->fh->D
 |true,k=> .tup [.int k.1,ln k.2]
 |false,k=>ln k.2
def B6(b:Bool)(k:fh):Prop:=b=Os->k.1=0
theorem LW{b:Bool}(a:B6 b k)(c:B6 b l)(h:dK b k=dK b l):k=l:=by
 cases b with
 |true=>
  simp only[dK,D.tup.injEq,Rx,D.int.injEq,and_true]at h;exact RQ h.1 (dZ (Px D.tup h.2))
 |false=>exact RQ ((a rfl).trans (c rfl).symm) (dZ h)
section
variable{K:OU}{F:Fx}{H:Hp}{E:St->XK}
theorem uB(h:c4 K F H (.tup ds) v):∃a xs,v= .ref a/\TQ K F H a xs/\bb K F H ds xs:=by
 unfold c4 at h;exact h
theorem oq(h:TQ K F H a xs)(hd:bb K F H ds xs):c4 K F H (.tup ds) (.ref a):=by
 unfold c4;exact⟨a,xs,rfl,h,hd⟩
theorem TQ.sq(h:TQ K F H c xs):jn K H c xs:=h.imp (·.2) id
theorem eG.s{b:Bool}(h:eG K F H b k c):t_ K H b k c:=by
 cases b with
 |true=>
  obtain⟨e,a,d⟩:=h;exact⟨e,a.sq,d.sq⟩
 |false=>exact⟨h.1,h.2.sq⟩
theorem eG.z{b:Bool}(h:eG K F H b k c):B6 b k:=λe=>by subst e;exact h.1
theorem pb{b:Bool}(g:B6 b k)(h:c4 K F H (dK b k) v):∃c,v= .ref c/\eG K F H b k c:=by
 cases b with
 |true=>
  obtain⟨a,xs,rfl,q,d⟩:=uB h;obtain⟨i,j,rfl,d1,d2⟩:=bb.two d;cases d1.int;obtain⟨e,ys,rfl,q2,f⟩:=uB d2;cases bb.ints k.2 f;exact⟨a,rfl,e,q,q2⟩
 |false=>
  obtain⟨a,xs,rfl,q,d⟩:=uB h;cases bb.ints k.2 d;exact⟨a,rfl,g rfl,q⟩
theorem HM{b:Bool}(h:eG K F H b k c):c4 K F H (dK b k) (.ref c):=by
 cases b with
 |true=>
  obtain⟨e,a,d⟩:=h;exact oq a (bb.cons rfl (bb.cons (oq d (bb.ofInts k.2)) bb.nil))
 |false=>exact oq h.2 (bb.ofInts k.2)
abbrev y3(b:Bool)(p:fh×D):D:= .tup [dK b p.1,p.2]
def Dk(b:Bool)(kvs:List (fh×D))(os:List D):Prop:=os=kvs.map (y3 b)/\(kvs.map (·.1)).Nodup/\kvs.length<=OS/\∀p∈kvs,B6 b p.1
theorem Jr{b:Bool}{p q:fh×D}(a:B6 b p.1)(c:B6 b q.1)(h:y3 b p=y3 b q):p=q:=by
 simp only[y3,D.tup.injEq,Rx,and_true]at h;exact RQ (LW a c h.1) h.2
theorem jS{b:Bool}:∀{l m:List (fh×D)},(∀p∈l,B6 b p.1)->(∀p∈m,B6 b p.1)->l.map (y3 b)=m.map (y3 b)->l=m
 |[],[],_,_,_=>rfl
 |[],_::_,_,_,h=>by cases h
 |_::_,[],_,_,h=>by cases h
 |p::l,q::m,hl,hm,h=>by
  rw[OG,OG,Rx]at h;rw[Jr (hl p Ox) (hm q Ox) h.1,jS (λx a=>hl x (Op _ a)) (λx a=>hm x (Op _ a)) h.2]
theorem Dk.eq{b:Bool}{os:List D}(x:Dk b l os)(y:Dk b m os):l=m:=jS x.2.2.2 y.2.2.2 (x.1.symm.trans y.1)
open Classical in
def kg(b:Bool)(os:List D):Option D:=if h:∃kvs,Dk b kvs os then on (.dct b (h.choose.map (·.1)) (h.choose.map (·.2)))else Oi
theorem v6{b:Bool}{kvs:List (fh×D)}{os:List D}(h:Dk b kvs os):kg b os=on (.dct b (kvs.map (·.1)) (kvs.map (·.2))):=by
 have q:∃kvs,Dk b kvs os:=⟨kvs,h⟩;unfold kg;rw[dif_pos q,q.choose_spec.eq h]
theorem uD{b:Bool}{os:List D}(h:kg b os=on d):∃kvs,Dk b kvs os/\d= .dct b (kvs.map (·.1)) (kvs.map (·.2)):=by
 unfold kg at h;split at h
 .rename_i q
  cases h;exact⟨_,q.choose_spec,rfl⟩
 .cases h
noncomputable def RD(K:OU)(b:Bool):AR where
 R:=λF H D as=>∃ep,∃a:List ((fh×Pu.D)×Oq×V),as=a.map (λz=>y3 b z.1)/\H D=on (bY D b ep (a.map λz=>(z.1.1,z.2)))/\∀z∈a,eG K F H b z.1.1 z.2.1/\c4 K F H z.1.2 z.2.2
 Z:=λl=>∃kvs more,Dk b kvs (l++more)
 tr:=λh k t=>by
  obtain⟨ep,a,e,f,c⟩:=h;exact⟨ep,a,e,k _ f,λz d=>⟨(c z d).1.tr t,c4.tr t _ _ (c z d).2⟩⟩
 zp:=λh=>by
  obtain⟨kvs,more,h⟩:=h;exact⟨kvs,_,by rw[<-PY];exact h⟩
def DV(f g:FD):FL:=λδ=>M.bind (f δ) λk=>M.bind (g δ) λv=>M.ret [.tup [k,v]]
theorem nN{b:Bool}{D:Oq}:dY K (RD K b) D (z7 K b D (tV K f E0) (tV K g E0)) (DV f g):=λF H δ β I σ as os Q fr hA B J hR e hz k=>by
 obtain⟨ep,d,rfl,hD,C⟩:=hR;obtain⟨W,β1,e1,e2⟩:=M.bind_inv e;obtain⟨X,β2,e3,e4⟩:=M.bind_inv e2;cases e4;obtain⟨kvs,more,L,Y,z3,Z⟩:=hz;have N:∀p∈d.map (·.1),B6 b p.1:=λp r=>by
  obtain⟨z,h,rfl⟩:=OC.mp r;exact(C z h).1.z
 have O:d.length<kvs.length:=by
  have:=Px T7 L;simp at this;omega
 have ez:(d.map (·.1)).map (y3 b)=(kvs.take d.length).map (y3 b):=by
  rw[U8,<-L,PY,List.take_append_of_le_length (by simp),Q8 (by simp),Oy];rfl
 have ek:=jS N (λp r=>Z p (US r)) ez;have R:y3 b kvs[d.length]= .tup [W,X]:=by
  have h0:(kvs.map (y3 b))[d.length]?=on (.tup [W,X]):=by
   rw[<-L,PY,QG (by simp)];simp
  rw[Ou,Oo O]at h0;exact O8 h0
 have u:=Z _ (Pq O);generalize r:kvs[d.length]=p at R u;obtain⟨j,vv⟩:=p;simp only[y3,Pu.D.tup.injEq,Rx,and_true]at R;obtain⟨rfl,rfl⟩:=R;have y:j∉d.map (·.1.1):=λhm=>by
  have h2:kvs.take d.length++(j,vv)::kvs.drop (d.length+1)=kvs:=by
   rw[<-r,<-P9 O,Ri]
  rw[<-h2,<-ek,Pd,OG,T8]at Y;refine Y.2.2 j ?_ j Ox rfl;rw[Oy];exact hm
 refine⟨F,δ,β,fr,J,E0.run e1 λv H1 t hv=>⟨F,δ,β1,t.fr,J.tr (t.tr fr),E0.run e3 λv2 H2 m T=>?_⟩⟩;have U:=c4.tr (m.tr t.fr) _ _ hv;obtain⟨c,rfl,kc⟩:=pb u U;have i:=(t.tr fr).trans (m.tr t.fr);refine⟨ep,_,j,c,rfl,m.kp D _ (t.kp D _ hD B) B,λx h=>?_,kc.s,?_,?_,λA=>?_⟩
 .obtain⟨z,h',rfl⟩:=OC.mp h
  exact((C z h').1.tr i).s
 .rw[Oy];exact y
 .rw[Oh];omega
 have tD:na F D H2 (upd H2 D (bY D b A ((d.map λz=>(z.1.1,z.2))++[(j,c,v2)]))) I:=by
  refine⟨λa o h n _=>by rw[b_ n];exact h,λa h q=>?_,fr.bgA,λb l q=>?_⟩
  .by_cases z:a=D
   .subst z;rw[aj]at q;cases q
   .rw[b_ z]at q;exact m.fr.occ a h q
  .rw[b_ (B b l q).1.symm,b_ (B b l q).2.symm]
   exact m.fr.bag b l q
 have tt:=tD.tr m.fr hA;refine k σ _ (((t.trans m).toD D).trans tD) (J.tr (i.trans tt)) ⟨A,d++[((j,vv),c,v2)],by rw[Pd];rfl,by rw[Pd];exact aj,λz h=>?_⟩;rcases Qb.mp h with h|h
 .exact⟨(C z h).1.tr (i.trans tt),c4.tr (i.trans tt) _ _ (C z h).2⟩
 .cases O6.mp h
  exact⟨kc.tr tt,c4.tr tt _ _ T⟩
theorem uC{F:Fx}{H:Hp}{α:Type}{f:α->D}{g:α->V}:∀{a:List α},(∀z∈a,c4 K F H (f z) (g z))->bb K F H (a.map f) (a.map g)
 |[],_=>bb.nil
 |z::a,h=>bb.cons (h z Ox) (uC λx b=>h x (Op z b))
end
theorem uA{K:OU}{E:St->XK}{kb:Bool}{dr:List Pj}{dc:List Nat}{g:TG}{f:Oq->TB}{it:FL}{tg:m_}{tt:Dn->M Bool}{b:FL}(j:ci K g tg)(k:di tg)(l:∀D,dY K (RD K kb) D (f D) b){i:St}{H:Hp}{Q:VK}(h:tV K (gn dr.length dc it tg tt b (kg kb)) E i H Q):
  kF (λD=>bY D kb 0 []) dr dc (iV K it E) (λD J=>cL J g (hE K tt E0) (f D)) i H Q:=by
 refine qC j k l (λF H D=>⟨0,[],rfl,aj,λx a=>OX a (by simp)⟩) (λos d e=>?_) h λF v m D os d fr c n e q=>?_
 .obtain⟨kvs,s,_⟩:=uD e
  exact⟨kvs,[],by rw[Pf];exact s⟩
 .obtain⟨kvs,s,rfl⟩:=uD e
  obtain⟨ep,o,rfl,r,a⟩:=n;have t:kvs=o.map (·.1):=jS s.2.2.2 (λp u=>by
   obtain⟨z,h,rfl⟩:=OC.mp u;exact(a z h).1.z) (by rw[<-s.1,Oy];rfl)
  refine q _ _ (To.refl fr) ?_;unfold c4;subst t;refine⟨D,ep,_,rfl,⟨c,r⟩,by simp,λx h=>?_,?_⟩
  .obtain⟨z,h',rfl⟩:=OC.mp h
   exact(a z h').1
  .rw[Oy,Oy]
   exact uC λz h=>(a z h).2
section
variable{X:Cx}{E:St->XK}{ke ve cp iter:Expr}{ifs:List Expr}{rest:List Qp}{scope:Scope}{pos:TD}{Nc dr:List Pj}{dc:List Nat}{g:TG}{tb:Oq->TB}
theorem IK{kb:Bool}(c:X.calm=On)(S:dt X scope Nc dr dc)(d:PI X cp iter (iV X.K it E))
  (e:∀(cl:List (Pj×Oq)) (C:Oq) (a:List Oq) (s:OB) (H:Hp),PG (az X Nc scope cl C a s H) cp g/\dm (az X Nc scope cl C a s H) ifs (hE X.K tt E0)/\∀D,PB (az X Nc scope cl C a s H) (.D ke ve) (⟨cp,iter,ifs,0⟩::rest) scope pos 0 D (tb D))
  (f:ci X.K g tg) (i:di tg) (j:∀D,dY X.K (RD X.K kb) D (tb D) b) (hs:∀x,Pz iter X.env x=QR x:=by intro _;rfl):
  PE X (.DictComp ke ve (⟨cp,iter,ifs,0⟩::rest) scope pos) (tV X.K (gn dr.length dc it tg tt b (kg kb)) E):=
 (BW (b:=kb) c S d e hs).imp λk H Q h=>uA f i j h
noncomputable def gy:List D->Option (List Int)
 |[]=>on []
 | .int i::r=>(gy r).map (i::·)
 |_=>Oi
def fI:Bool->D->Option fh
 |false,.tup ds=>(gy ds).map λl=>(0,l)
 |true,.tup [.int i,.tup ds]=>(gy ds).map λl=>(i,l)
 |_,_=>Oi
theorem pY:∀(l:List Int),gy (l.map .int)=on l
 |[]=>rfl
 |i::l=>by show(gy (l.map .int)).map _=_;rw[pY l];rfl
theorem l4:∀{ds:List D} {l:List Int},gy ds=on l->ds=l.map .int
 |[],l,h=>by cases h;rfl
 | .int i::r,l,h=>by
  have h':(gy r).map (i::·)=on l:=h;cases q:gy r with
  |none=>rw[q]at h';cases h'
  |some m=>rw[q]at h';cases h';rw[l4 q];rfl
 | .non::_,_,h=>by cases h
 | .bl _::_,_,h=>by cases h
 | .str _::_,_,h=>by cases h
 | .ty _::_,_,h=>by cases h
 | .txt::_,_,h=>by cases h
 | .lst _::_,_,h=>by cases h
 | .tup _::_,_,h=>by cases h
 | .scr _::_,_,h=>by cases h
 | .obj _ _ _::_,_,h=>by cases h
 | .bag::_,_,h=>by cases h
 | .adr _::_,_,h=>by cases h
 | .dct _ _ _::_,_,h=>by cases h
theorem mB{b:Bool}(h:B6 b k):fI b (dK b k)=on k:=by
 cases b with
 |true=>show(gy _).map _=_;rw[pY];rfl
 |false=>show(gy _).map _=_;rw[pY];exact Px on (RQ (h rfl).symm rfl)
theorem jZ{b:Bool}(h:fI b d=on k):B6 b k/\d=dK b k:=by
 unfold fI at h;split at h
 .rename_i ds
  cases q:gy ds with
  |none=>rw[q]at h;cases h
  |some l=>rw[q]at h;cases h;exact⟨λ_=>rfl,by rw[l4 q];rfl⟩
 .rename_i i ds
  cases q:gy ds with
  |none=>rw[q]at h;cases h
  |some l=>rw[q]at h;cases h;exact⟨λz=>(by cases z),by rw[l4 q];rfl⟩
 .cases h
noncomputable def lp(ks:List fh)(vs:List D)(k:fh):Option D:=((ks.zip vs).find? λp=>decide (p.1=k)).map (·.2)
variable{K:OU}{F:Fx}{H:Hp}
def RelD(K:OU)(F:Fx)(H:Hp):Option D->Option V->Prop
 |none,v=>v=Oi
 |some d,v=>∃u,v=on u/\c4 K F H d u
theorem o7:∀{xs:List (fh×Oq×V)} {vs:List D},bb K F H vs (xs.map (·.2.2))->RelD K F H (lp (xs.map (·.1)) vs k) (nq xs k)
 |[],vs,_=>by unfold lp nq;rfl
 |x::xs,vs,h=>by
  cases vs with
  |nil=>cases h
  |cons d vs=>
   obtain⟨u,r,e,a,b⟩:=h;rw[OG,Rx]at e;obtain⟨rfl,rfl⟩:=e;have ih:=o7 (k:=k) b;unfold lp nq at ih⊢;rw[OG,QU,Rm,Rm];by_cases q:x.1=k
   .rw[OL q];exact⟨_,rfl,a⟩
   .rw[Pn q];exact ih
def DP:D->D->Option D
 | .dct b ks vs,y=>(fI b y).bind (lp ks vs)
 |_,_=>Oi
theorem NT:aX K (KP K) DP:=λF H β Q d1 d2 d y A fr h i e k=>by
 unfold DP at e;split at e
 .rename_i b ks vs
  cases q:fI b d2 with
  |none=>rw[q]at e;cases e
  |some f=>
   rw[q]at e;have j:lp ks vs f=on d:=e;obtain⟨l,rfl⟩:=jZ q;obtain⟨c,rfl,m⟩:=pb l i;unfold c4 at h;obtain⟨a,ep,xs,rfl,n,rfl,o,p⟩:=h;have:=o7 (k:=f) p;rw[j]at this;obtain⟨u,r,t⟩:=this;exact⟨a,b,ep,xs,f,c,u,rfl,rfl,n.2,λx v=>(o x v).s,m.s,r,k u H (To.refl fr) t⟩
 .cases e
def Nw(K:OU):V->List V->Hp->VK->Prop:=λx ys H Q=>∃a b ep xs k c z,x= .ref a/\ys=[.ref c,z]/\H a=on (bY a b ep xs)/\(∀x∈xs,t_ K H b x.1 x.2.1)/\t_ K H b k c/\Q ((nq xs k).getD z) H
variable{o e:Expr}{es:List Expr}{apos cpos:TD}
theorem Jy(n:X.A.units+2<T4):MtR X "dict.get" (Nw X.K):=by
 intro l s N H x xs v us Q I r t h;obtain⟨a,b,ep,ys,k,c,z,rfl,rfl,u,B,C,q⟩:=h;cases r;obtain⟨O,J,rfl,r1,L⟩:=rC t;cases r1;obtain⟨j,d,p,_,hs⟩:=iu I u B;have f:=jf (k:=k) p;refine call_meetsIn Ws d.typeIs PySem.F.entry_dict_get (PySem.F.args_dict_get_3 _ _ _) (meetsH_dict_get_default (KB X.prog X.w b) a c hs J) ⟨jt n,k,j,mz I C,d,_,H,I.tok _,?_,q⟩;cases m:nq ys k with
 |none=>
  rw[m]at f;cases i:(VX j k).map (·.2)with
  |none=>exact L
  |some w=>rw[i]at f;exact f.elim
 |some y=>
  rw[m]at f;cases i:(VX j k).map (·.2)with
  |none=>rw[i]at f;exact f.elim
  |some w=>rw[i]at f;exact f
def DN(f:FD)(g:FL):FD:=λδ=>M.bind (f δ) λd=>match d with
 | .dct b ks vs=>M.bind (g δ) λas=>M.ofO (match as with
  |[k,z]=>(fI b k).map λk=>(lp ks vs k).getD z
  |_=>Oi)
 |_=>M.fail
theorem Nd{g:FL}(hu:X.A.units+2<T4)(ho:PE X o (tV X.K f E))(ha:PA X (e::es) (j1 X.K g E))
  (n:SJ o "get" X.env (PZ o X.env)=PZ o X.env:=by rfl)
  (B:((QX cpos (OJ (e::es) X.env)).all (λx=>!x.1)&&(RI cpos (QD [] X.env)).all (λx=>x.1.isSome)
   &&decide ((e::es).length+([]:List Vo).length+(if([]:List Vo).isEmpty then 0 else 1)<30))=On:=by rfl)
  (p:(apos.endLine==cpos.line)=On:=by rfl) (hs:OJ (e::es) X.env=(Os,PZ e X.env)::OJ es X.env:=by rfl) (m:(QX cpos (OJ es X.env)).any (·.1)=Os:=by rfl):
  PE X (.Call (.Attribute o "get" apos) (e::es) [] cpos) (tV X.K (DN f g) E):=by
 intro j s J H Q I h;obtain⟨F,δ,β,fr,vk,h⟩:=h;refine Yp n B p rfl (e_ (ho j s J H _ I ⟨F,δ,β,fr,vk,(run.bind (R:=c4 X.K F) h)⟩) λv s1 h1=>?_);obtain⟨x,H1,I1,r1,d,β1,t,hd,q1⟩:=h1;have fail:∀{N:M D},N=M.fail->run (c4 X.K F) F E J N H1 Q β1->False:=λ{N} e r=>by
  obtain⟨r,β',e',_⟩:=r;rw[e]at e';cases e'
 cases d<;>first|exact(fail rfl q1).elim|skip
 rename_i b ks vs;have C:=hd;unfold c4 at C;obtain⟨a,ep,xs,rfl,O,rfl,hk,dl⟩:=C;cases r1;obtain⟨ys,dd,_,_,_⟩:=iu I1 O.2 λx T=>(hk x T).s;refine⟨"dict","dict.get",Wa,Ws,PySem.F.type_dict_get,dd.typeIs,λb e=>?_,?_⟩
 .cases e
  obtain⟨ob,_,_,g1,g2,_⟩:=dd;exact⟨ob,g1,g2.2.1⟩
 have hA:=ha cpos j s1 J H1 _ I1 ⟨F,δ,β1,t.fr,vk.tr (t.tr fr),run.bind (R:=bb X.K F) q1⟩;rw[hs]at hA⊢;refine Uw (by show(Os||(QX cpos (OJ es X.env)).any (·.1))=Os;rw[m]<;>rfl) (WO (e_ hA λus s2 h2=>?_))
 obtain⟨ws,L,I2,r2,as,β2,t2,U,q2⟩:=h2;obtain⟨z,y,kf⟩:=run.ofO q2;have tt:=t2.tr t.fr;split at y
 .rename_i k zz
  cases W:fI b k with
  |none=>rw[W]at y;cases y
  |some i=>
   rw[W]at y;cases y;obtain⟨hz,rfl⟩:=jZ W;obtain⟨w1,Y,rfl,Z,hw2⟩:=bb.two U;obtain⟨c,rfl,kc⟩:=pb hz Z;have dl2:=bb.tr tt _ _ dl;have hk2:∀x∈xs,t_ X.K L b x.1 x.2.1:=λx T=>((hk x T).tr tt).s;refine Jy hu j s2 J L (.ref a) [.ref c,Y] (.ref a) us Q I2 rfl r2 ⟨a,b,ep,xs,i,c,Y,rfl,rfl,tt.kp a _ O.1 O.2,hk2,kc.s,?_⟩;refine kf _ L (To.refl t2.fr) ?_;show c4 X.K F L ((lp (xs.map (·.1)) vs i).getD zz) ((nq xs i).getD Y);have l:=o7 (k:=i) dl2;cases q:lp (xs.map (·.1)) vs i with
   |none=>
    rw[q]at l;have l':nq xs i=Oi:=l;rw[l'];exact hw2
   |some d=>
    rw[q]at l;obtain⟨u,l',hu'⟩:=l;rw[l'];exact hu'
 .cases y
end
end L2.Pu
namespace L2.Hs
open PySem PySem.Spec PyProof.Rows
section
variable{prog:Pc}{w:Pk}{A:PU}{E:Ov->OB->Prop}{s:OB}{d it v:Oq}{od:O7}{es:Array QZ}{ep i:Nat}{ok ov:Ov}
theorem xF(a:s.TypeIs (.ref d) "dict")(hd:(d==Tt)=Os)(h:Q (.ref s.heap.objs.size) {s with heap:=s.heap.push {cls:= .type "dict_items",data:= .fields #[.ref d]}}):OH (O4 prog w) A (VF (.builtin "dict.items") [.ref d]) Q E s:=by
 refine Pe F.slot_dict_items a F.entry_dict_items ?_ (F.args_dict_items_1 _);unfold Builtin.«dict.items»;refine My ?_;unfold Builtin.Dict.noArgs;refine My (wpAny_notOrdered_dict a ?_);show OH _ _ (QR d) _ _ s;refine Oj ?_;show OH _ _ (Sz d>>=_) _ _ s;unfold Sz;rw[Ot (by rw[hd];exact OE)];exact My (Oj (My (Ph (Oj ⟨_,rfl,h⟩))))
theorem xj(a:s.heap.IsItemsView v d)(e:s.heap.get? d=on od)(hd:od.data= .dict es ep)
  (h:Q (.ref s.heap.objs.size) {s with heap:=s.heap.push {cls:= .type "dict_itemiterator",data:= .fields #[.none,.bool Os,.ref d,.int 0 0,.int es.size 0,.int ep 0,.none,.none]}}):OH (O4 prog w) A (UW (.ref v)) Q E s:=by
 obtain⟨o,b,f,c⟩:=id a;refine Tc a.typeIs Xq (Pe Xq a.typeIs F.entry_dict_items_iter ?_ (F.args_dict_items_iter_1 _));unfold Builtin.«dict_items.__iter__»;refine My (Oj (My ?_));unfold Builtin.Dict_items.dictOf;refine My (Qa b c (x:= .ref d) rfl (Oj (My ?_)));unfold Builtin.Dict_items.newIterator;refine My (Sj e hd (My (SO e hd ?_)));simp only[show QL "dict_itemiterator"=On from by decide,PM];refine Ph (Oj ⟨_,rfl,"dict_itemiterator",_,⟨_,OI _ rfl,rfl⟩,Qx.lookup,?_⟩)
  (by simp only[sizeOk,TN,OR,ON,OO,VO,Qo];omega)
 simpa[RZ,TN]using h
theorem xh(a:Uk s.heap it d i es.size ep ok ov)(h:Q (.ref it) s):OH (O4 prog w) A (UW (.ref it)) Q E s:=by
 have c:s.TypeIs (.ref it) "dict_itemiterator":=⟨_,a,rfl⟩;refine Tc c V6 (Pe V6 c (b:=Builtin.«dict_keyiterator.__iter__») (W5 (id':="dict_keyiterator.__iter__") (by kernel_rfl) rfl (by decide +kernel) (by kernel_rfl)) ?_ (F.args_dict_itemiterator_iter_1 _));show OH _ _ (ret (.ref it)) _ _ s;exact Oj ⟨_,rfl,"dict_itemiterator",_,c,Qx.lookup,h⟩
theorem xi{e:QZ}(m:Uk s.heap it d i es.size ep ok ov)(ho:s.heap.get? d=on od)(hd:od.data= .dict es ep)(Y:es[i]?=on e)
  (hQ:∀h',IsItemIterOut h' it d (i+1) es.size ep e.key e.val s.heap.objs.size->h'.get? s.heap.objs.size=on {cls:= .type "tuple",data:= .seq #[e.key,e.val]}->h'.objs.size=s.heap.objs.size+1->
   (∀b o,b≠it->s.heap.get? b=on o->h'.get? b=on o)->Q (on (.ref s.heap.objs.size)) {s with heap:=h'}):OH (O4 prog w) A (Sa (.ref it)) Q E s:=by
 obtain⟨n,g,T,U,os⟩:=s;have u:Shared.TypeIs ⟨n,g,T,U,os⟩ (.ref it) "dict_itemiterator":=⟨_,m,rfl⟩;have W:i<es.size:=by
  rcases Vu i es.size with h|h
  .exact h
  .simp[Q6 h]at Y
 obtain rfl:es[i]=e:=by rw[Sb W]at Y;exact O8 Y
 unfold Sa;refine My (R8 (wpAny_callSpecial?_slot (name:=Qn "__next__") u Qx
  (Pe Qx u VU ?_ (VL _))))
 refine My (Oj (My (My ?_)))
 first|refine My (RN u (Oj ?_))|refine My (SF u (Oj ?_))
 refine My (Ta m rfl ?_);simp only[show QL "dict_itemiterator"=On from by decide,PM];show OH _ _ (if(OM d==Pg)=On then _ else _) _ _ _;rw[Ot (show ¬((OM d==Pg)=On)from OE)];refine My (Oj (My (Sj ho hd ?_)));rw[Ot (by simp)];refine My (Oj (My (SO ho hd ?_)));rw[Ot (by simp)];refine Oj ?_;simp only[show ¬((i:Int)<0)from by omega,PD,P0,Sb W];refine My ?_
 first|refine My (RN u (Oj ?_))|refine My (SF u (Oj ?_))
 refine My (UY u ?_);show OH _ _ (Vk (.ref it) 3 (RZ ((i:Int)+1))>>=_) _ _ ⟨n,g,T,U,os⟩;refine My (Qi m (by simp) λa c f=>?_)
 replace f:Pa it n a:=f
 replace c:Uk a it d (i+1) es.size ep ok ov:=by
  have e:((i+1:Nat):Int)=(i:Int)+1:=by omega
  unfold Uk;rw[e];simpa[RZ]using c
 have l:Shared.TypeIs ⟨a,g,T,U,os⟩ (.ref it) "dict_itemiterator":=⟨_,c,rfl⟩;refine My (P3 (My (UY l (My (UY l ?_)))));show OH _ _ (Uf (.ref it) 6 es[i].key es[i].val) _ _ ⟨a,g,T,U,os⟩;unfold Uf;refine My (Xb ?_);have j:Uk (a.push {cls:= .type "tuple",data:= .seq #[es[i].key,es[i].val]}) it d (i+1) es.size ep ok ov:=Ol _ c;have k:a.objs.size=n.objs.size:=f.1;have Z:it≠n.objs.size:=Pr (OZ m);have y:(a.push {cls:= .type "tuple",data:= .seq #[es[i].key,es[i].val]}).get? n.objs.size=on {cls:= .type "tuple",data:= .seq #[es[i].key,es[i].val]}:=by rw[<-k];exact OI _ rfl
 have B:(a.push {cls:= .type "tuple",data:= .seq #[es[i].key,es[i].val]}).objs.size=n.objs.size+1:=by rw[Qk,k]
 have C:∀b o,b≠it->n.get? b=on o->(a.push {cls:= .type "tuple",data:= .seq #[es[i].key,es[i].val]}).get? b=on o:=λb o X e=>Ol _ (f.extBut b o X e);generalize a.push {cls:= .type "tuple",data:= .seq #[es[i].key,es[i].val]}=h₂ at*;show OH _ _ (TR (.ref it)>>=_) _ _ ⟨h₂,g,T,U,os⟩;rw[k];refine My ?_;unfold TR;refine My (Qa j rfl (x:= .none) rfl (Oj ?_));simp only[PM];refine My (Qa j rfl (x:=ok) rfl (My (Qa j rfl (x:=ov) rfl ?_)));refine My (Qi j (by simp) λp F H=>?_);refine My (Qi F (by simp) λq I J=>?_);refine My (Qi I (by simp) λr L N=>?_);refine My (Qi L (by simp) λt O R=>?_);have sb:=((show Pa it h₂ p from H).trans (show Pa it p q from J)).trans ((show Pa it q r from N).trans (show Pa it r t from R));exact My (Wu (Oj (Oj ⟨_,rfl,Oj (hQ t O (sb.extBut _ _ Z.symm y) (by rw[sb.1,B]) λb o X e=>sb.extBut b o X (C b o X e))⟩)))
theorem zC(g:A.handled=Oi)(c:Uk s.heap it d i es.size ep ok ov)(f:s.heap.get? d=on od)(hd:od.data= .dict es ep)(h:es.size<=i)
  (j:∀h',UP it s.heap h'->Q Oi {s with heap:=h'}):OH (O4 prog w) A (Sa (.ref it)) Q E s:=by
 have e:s.TypeIs (.ref it) "dict_itemiterator":=⟨_,c,rfl⟩;unfold Sa;refine My (R8 (wpAny_callSpecial?_slot (name:=Qn "__next__") e Qx
  (Pe Qx e VU ?_ (VL _))))
 refine My (Oj (My (My ?_)))
 first|refine My (RN e (Oj ?_))|refine My (SF e (Oj ?_))
 refine My (Ta c rfl ?_);simp only[show QL "dict_itemiterator"=On from by decide,PM];show OH _ _ (if(OM d==Pg)=On then _ else _) _ _ s;rw[Ot (show ¬((OM d==Pg)=On)from OE)];refine My (Oj (My (Sj f hd ?_)));rw[Ot (by simp)];refine My (Oj (My (SO f hd ?_)));rw[Ot (by simp)];refine Oj ?_;simp only[show ¬((i:Int)<0)from by omega,PD,P0,Q6 h];refine My ?_
 first|refine My (RN e (Oj ?_))|refine My (SF e (Oj ?_))
 show OH _ _ (Vk (.ref it) 2 .none>>=_) _ _ s;refine My (RM c rfl (by simp) ?_);show OH _ _ (Wj (.type "StopIteration") []>>=_) _ _ _;refine My ?_;simp only[Wj,newTuple];refine My (Ph ?_ (by size_fits));refine My (m:=RJ _ _) (RW (a:=Pg) (by first|rfl|(simp only[RJ];rfl)) ?_)
 refine Ph ?_ (by size_fits);simp only[W9];refine My (VB ?_);rw[show A.in1.handled=Oi from g];refine My (Oj (Wv ?_));refine My (QE (T:="StopIteration") (b:=On) ⟨_,OI _ rfl,rfl⟩ Vj ?_);exact Oj (j _ (((Qd ..).extBut.push _).push _))
end
end L2.Hs
namespace L2.Pu
open PySem PySem.Spec PyProof.Rows L2.Hs
noncomputable def Iti(a:Oq)(ep n:Nat):It:=
 ⟨λi H=>∃b xs,H a=on (bY a b ep xs)/\xs.length=n/\i<n,
  λi H v c=>∃p x,H p=Oi/\v= .ref p/\c=upd H p (.tup [.ref x.1,x.2])/\∀b xs,H a=on (bY a b ep xs)->(xs[i]?).map (·.2)=on x,
  λi H=>∃b xs,H a=on (bY a b ep xs)/\xs.length=n/\i=n⟩
theorem GI:∀{xs:List (fh×Oq×V)} {ys:List (fh×Oq×Ov)} {i:Nat} {y:fh×Oq×Ov},TW XY xs ys->ys[i]?=on y->∃x,xs[i]?=on x/\XY x y
 |_,_,0,_,.cons h t,e=>by cases e;exact⟨_,rfl,h⟩
 |_,_,i+1,_,.cons h t,e=>GI (i:=i) t e
 |_,_,0,_,.nil,e=>by cases e
 |_,_,_+1,_,.nil,e=>by cases e
section
variable{X:Cx}{a_:List (Oq×O7)}{σ:St}{H:Hp}{s:OB}{a:Oq}{b:Bool}{ep i:Nat}{xs:List (fh×Oq×V)}
theorem pK(I:dk X a_ σ H s)(h:H a=on (bY a b ep xs)):∃(o:O7) (es:Array QZ),s.heap.get? a=on o/\o.data= .dict es ep/\es.size=xs.length/\o.ExactDict/\(a==Tt)=Os/\∀(i:Nat) (e:QZ),es[i]?=on e->∃x,xs[i]?=on x/\e.key= .ref x.2.1/\aI x.2.2 e.val:=by
 obtain⟨o,es,ys,j,k,l,d,u,m,v,g⟩:xK a b ep xs s.heap:=(I.hok a _ h).1;have n:ys.length=xs.length:=by rw[<-Oh (f:=(·.1)),<-je g,Oh]
 refine⟨o,es,j,l,by rw[<-Pb,d,Oh,n],k,m,λi e c=>?_⟩;rw[<-RT,d,Ou]at c;cases q:ys[i]? with
 |none=>rw[q]at c;cases c
 |some y=>
  rw[q]at c;cases c;obtain⟨x,p,_,r,t⟩:=GI g q;exact⟨x,p,by rw[r],t⟩
theorem wq{P:Pc}{w:Pk}{K:OU}{x1}(a it:Oq)(n ep:Nat):
  oa P w K (.Tuple elts x1 pos) (Iti a ep n) [it] it (λi h=>∃ok d,Uk h it a i n ep ok d) where
 mem:=by simp
 obj:=λi h st b c=>by
  obtain⟨ok,d,e⟩:=st;cases O6.mp c;exact⟨_,e,λv q=>by cases q⟩
 keep:=λi h h' st k=>by
  obtain⟨ok,d,e⟩:=st;exact⟨ok,d,k it (by simp) _ e⟩
 item:=by
  intro X m p r J i a_ s σ H E I f st t;subst m p r;obtain⟨ok,d,e⟩:=st;obtain⟨b,xs,A,W,L⟩:=t;obtain⟨o,es,g,j,Y,h4,h5,Z⟩:=pK I A;have hn:n=es.size:=by omega
  subst hn;have B:es[i]?=on es[i]:=Sb L;refine xi e g j B λh' io gt sz kp=>⟨_,rfl,wpAny_letOwnedTupleGo_items (s:={s with heap:=h'}) io λC ei N=>?_⟩;obtain⟨x,ex,O,Q⟩:=Z i _ B;have R:s.heap.objs.size≠it:=Rb (OZ e);have I2:dk X a_ σ (upd H s.heap.objs.size (.tup [.ref x.2.1,x.2.2])) {s with heap:=C,toks:=s.toks}:=
   dk.turnNew I f (λb u c q=>N.extBut b u (λz=>c (by rw[z];simp)) (kp b u (λz=>c (by rw[z];simp)) q)) (OD _) ⟨by show 2<=OS;decide,[es[i].key,es[i].val],.cons O (.cons Q .nil),_,N.extBut _ _ R gt,rfl,_,rfl⟩
  refine⟨.ref s.heap.objs.size,_,I2,rfl,⟨s.heap.objs.size,x.2,I.hok.fresh (OD _),rfl,rfl,λb' xs' F=>?_⟩,⟨_,_,ei⟩,λb c=>?_⟩
  .obtain⟨o',es',T,U,_,_,_,g6⟩:=pK I F
   rw[g]at T;cases T;rw[j]at U;cases U;obtain⟨y,ey,l,fv⟩:=g6 i _ B;rw[ey];rw[O]at l
   injection l with l
   exact Px on (RQ l.symm (aI.inj fv Q))
  .cases O6.mp c
   rw[b_ R.symm];exact(f _ c).1
 done:=by
  intro X m p r J i a_ s σ H E I f st t;subst m p r;obtain⟨ok,d,e⟩:=st;obtain⟨b,xs,A,W,L⟩:=t;obtain⟨o,es,g,j,Y,_⟩:=pK I A;have hn:n=es.size:=by omega
  subst hn;refine zC (I.ok.hd J) e g j (by omega) λh' kp=>⟨rfl,dk.turnL (t':=s.toks) I f λb o c q=>kp b o (λz=>c (by rw[z];simp)) q⟩
 self:=λ_ _ _ _ _ st h=>by
  obtain⟨ok,d,e⟩:=st;exact xh (es:=(OY n (⟨0,.none,.none⟩:QZ)).toArray) (by rw[OR,Qw];exact e) h
variable{E:St->XK}{K:OU}{o:Expr}{apos cpos tpos:TD}{elts:List Expr}{x1:Nat}
def Z0(to:TE):TI:=λσ H R=>to σ H λx c=>∃a b ep xs,x= .ref a/\c a=on (bY a b ep xs)/\R (Iti a ep xs.length) c
theorem BR(p:PE X o to)(c:SJ o "items" X.env (PZ o X.env)=PZ o X.env:=by rfl)(d:(apos.endLine==cpos.line)=On:=by rfl):PI X (.Tuple elts x1 tpos) (.Call (.Attribute o "items" apos) [] [] cpos) (Z0 to):=by
 intro a_ s σ H R I h;refine wpAny_Call_method0_late c d (e_ (p a_ s σ H _ I h) λv f g=>?_);obtain⟨x,m,n,r1,a,b,ep,xs,rfl,r,q⟩:=g;cases r1;obtain⟨j,es,g,t,u,k,y,_⟩:=pK n r;refine⟨"dict","dict.items",Wa,PySem.F.slot_dict_items,PySem.F.type_dict_items,⟨j,g,k.1⟩,λb e=>?_,?_⟩
 .cases e;exact⟨j,g,k.2.1⟩
 refine Uw rfl (PySem.evalArgs_none (xF ⟨j,g,k.1⟩ y ?_));have l:dk X a_ σ m {f with heap:=f.heap.push {cls:= .type "dict_items",data:= .fields #[.ref a]},toks:=f.toks}:=n.kept λb o e=>Ol _ e;refine xj (s:={f with heap:=f.heap.push {cls:= .type "dict_items",data:= .fields #[.ref a]}}) ⟨_,OI _ rfl,rfl,rfl⟩ (Ol _ g) t ?_;rw[u];exact⟨_,[_],_,_,m,rfl,l.kept (t':=f.toks) λb o e=>Ol _ e,wq a _ _ ep,⟨_,_,OI _ rfl⟩,λb A=>by
  cases O6.mp A;exact l.fpOk (OD _) (l.hok.fresh (OD _)),q⟩
def ZX:D->Option (List D)
 | .dct b ks vs=>on (Tw (λk v=> .tup [dK b k,v]) ks vs)
 |_=>Oi
theorem zD{F:Fx}{H:Hp}{b:Bool}{a:Oq}{ep:Nat}{xs:List (fh×Oq×V)}(C:¬F.A a)(I:H a=on (bY a b ep xs))(g:ks=xs.map (·.1))(J:∀x∈xs,eG K F H b x.1 x.2.1)(h:bb K F H vs (xs.map (·.2.2))):v_ K (Iti a ep xs.length) F H (Tw (λk v=> .tup [dK b k,v]) ks vs):=λT j β2 t fr i=>by
 have L:vs.length=xs.length:=by rw[h.length,Oh]
 have N:ks.length=xs.length:=by rw[g,Oh]
 have c:=t.kp a _ C I;refine⟨λd hd=>?_,λe=>⟨b,xs,c,rfl,by rw[e,U4,N,L,WT]⟩⟩;have e:i<xs.length:=by
  have:=(OF.mp hd).1;rw[U4]at this;omega
 refine⟨⟨b,xs,c,rfl,e⟩,λy U O=>?_⟩;obtain⟨p,x,l,rfl,rfl,Q⟩:=O;have m:=Q b xs c;rw[Oo e]at m;have f:xs[i].2=x:=O8 m;subst f;have n:bG j (upd j p (.tup [.ref xs[i].2.1,xs[i].2.2])):=bG.upd l;obtain⟨v,q⟩:∃v,vs[i]?=on v:=⟨_,Oo (by omega)⟩;have R:ks[i]?=on xs[i].1:=by rw[g,Ou,Oo e];rfl
 rw[WQ,R,q]at hd;cases hd;have d2:=bb.tr t _ _ h;obtain⟨u,r,du⟩:=d2.get q;rw[Ou,Oo e]at r;cases r;have B:=(fr.same n).tr fr;exact⟨n,oq (.inl ⟨fr.fresh l,.inl aj⟩) (bb.cons (c4.tr B _ _ (HM ((J _ (Pq e)).tr t))) (bb.cons (c4.tr B _ _ du) bb.nil))⟩
def ZN(f:FD):FL:=λδ=>M.bind (f δ) λd=>M.ofO (ZX d)
theorem JM(m:PE X o (tV X.K f E))(c:SJ o "items" X.env (PZ o X.env)=PZ o X.env:=by rfl)(g:(apos.endLine==cpos.line)=On:=by rfl):PI X (.Tuple elts x1 tpos) (.Call (.Attribute o "items" apos) [] [] cpos) (iV X.K (ZN f) E):=
 (BR m c g).imp λσ H R j=>lk j λF δ β fr n h=>⟨F,δ,β,fr,n,(run.bind (R:=c4 X.K F) h).mono λv p j=>by
  obtain⟨d,β1,t,hd,r1⟩:=j;obtain⟨ds,e,k⟩:=run.ofO r1;cases d<;>first|(cases e;done)|skip
  cases e;unfold c4 at hd;obtain⟨a,ep,xs,rfl,l,q,r,u⟩:=hd;exact⟨a,_,ep,xs,rfl,l.2,k _ p (To.refl t.fr) (zD l.1 l.2 q r u)⟩⟩
end
end L2.Pu
namespace L2.Hs
open PySem PySem.Spec PyProof.Rows
theorem vD:mroOf (.type "reversed")=QR [.type "reversed",.type "object"]:=by rw[mroOf_type];kernel_rfl
theorem CO:typeLookup (.type "reversed") "__new__"=QR (on (.builtin "reversed.__new__")):=by rw[WC,Va];kernel_rfl
theorem CJ:Bind.madeBy (.type "reversed")=QR (on "reversed.__new__"):=madeBy_type vD CO (by decide +kernel)
theorem IU:isSubtype (.type "reversed") (.type "reversed")=QR On:=by rw[S9];kernel_rfl
theorem BA:isSubtype (.type "range_iterator") (.type "reversed")=QR Os:=by rw[S9];kernel_rfl
theorem JS:entryFor table "reversed.__new__"=on Builtin.«reversed.__new__»:=entryFor_of_tree (by kernel_rfl)
section
variable{prog:Pc}{w:Pk}{A:PU}{E:Ov->OB->Prop}{s:OB}
theorem DT(a:IsRange s.heap r 0 n 1 t u v)(j:0<=n)(g:n<2^62)
  (h:Q (.ref s.heap.objs.size) {s with heap:=s.heap.push {cls:= .type "range_iterator",data:= .fields #[RZ (n-1),RZ n,RZ (-1)]}}):OH (O4 prog w) A (VF (.type "reversed") [.ref r]) Q E s:=by
 refine wpAny_call (codeAny_of_tree ?_);show OH _ _ (callAny (.type "reversed") _) _ _ _;refine Oj ⟨Code.quiet_builtin _ (by decide +kernel),TZ F.entry_type_call ?_⟩;rw[Around.under_plain (weight_type_call_type "reversed" [.ref r] []) (units_type_call_type "reversed" [.ref r] [])];have g:(Ru "reversed"==Ru "type")=Os:=by decide +kernel
 have k:((XS "reversed").bind (·.mro.findSome? λt=>(XS t).bind λb=>if b.noNew then on On else if b.attrs.any (·.1=="__new__")then on Os else Oi)).getD Os=Os:=by decide +kernel
 have e:=vD;have c:=CJ;have i:checkTypeCall "reversed" ⟨[.ref r],[]⟩=QR ():=by kernel_rfl
 repeat (any_goals (first|assumption|wp_step))
 refine codeAny_call_builtin (by decide +kernel) JS (RW (show checkBuiltinCall "reversed.__new__" ⟨[.type "reversed",.ref r],[]⟩=QR () by kernel_rfl) ?_);have f:s.TypeIs (.ref r) "range":=⟨_,a,rfl⟩;unfold Builtin.«reversed.__new__»
 repeat (any_goals (first|assumption|wp_step))
 refine RW IU (Oj ?_);refine My (m:=T6 _ _ _) ?_;refine RW (show T6 "reversed" (Ru "reversed") ⟨[.type "reversed",.ref r],[]⟩=QR ()from rfl) ?_;refine My (m:=checkCount "reversed" 1 1 _) (Oj ?_);show OH _ _ (specialOf (.ref r) (Qn "__reversed__")>>=_) _ _ s;refine My (Rc f F.slot_range_reversed.lookup ?_);show OH _ _ (bindSpecial (.builtin "range.__reversed__") (.ref r)>>=_) _ _ s;refine My (RW (F.slot_range_reversed.bind _) ?_);show OH _ _ (rule "reversed.__new__.own-method">>=_) _ _ s;refine My (R0 (My (Xc (codeAny_call_builtin F.slot_range_reversed.plain F.entry_range_reversed (F.slot_range_reversed.check _ _ _ _ _ _ _ _ f (F.args_range_reversed_1 _) ?_)))));unfold Builtin.«range.__reversed__»;refine My (m:=selfOnly "range.__reversed__" _) (Oj (My ?_));unfold Builtin.Range.rangeFields;refine My (Qa a rfl (x:= .int 0 t) rfl (My (m:=asInt? _) (Oj ?_)));refine My (Qa a rfl (x:= .int n u) rfl (My (m:=asInt? _) (Oj ?_)));refine My (Qa a rfl (x:= .int 1 v) rfl (My (m:=asInt? _) (Oj (Oj ?_))));have hn:Vn 0 n 1=n:=by rw[rangeSize_one];split<;>omega
 simp only[hn];have d:(P8 0&&P8 n&&P8 1&&P8 (-1)&&P8 (0-1)&&P8 n)=On:=by
  have:P8 n=On:=by unfold P8;simp;omega
  rw[this];decide
 simp only[d,PM,Ra,OT,PD];rw[show(0:Int)+(n-1)*1=n-1 by omega];refine My (Ph (Oj (Oj ?_)));exact My (QE (T:="range_iterator") (b:=Os) ⟨_,OI _ rfl,rfl⟩ BA (My (R0 (Oj h))))
end
end L2.Hs
namespace L2.Pu
open PySem PySem.Spec PyProof.Rows L2.Hs
noncomputable def Itd(n:Nat):It:=⟨λi _=>i<n,λi H v a=>v= .int ((n:Int)-1-i)/\a=H,λi _=>n<=i⟩
theorem uN{P:Pc}{w:Pk}{K:OU}(it:Oq)(n:Nat):oa P w K tg (Itd n) [it] it (λi h=>Wp h it ((n:Int)-1+(i:Nat)*-1) ((n:Int)-(i:Nat)) (-1)) where
 mem:=by simp
 obj:=λi h st b c=>by
  cases O6.mp c;exact⟨_,st,λv z=>by
   have C:Data.fields _=Data.cell v:=z;cases C⟩
 keep:=λi h h' st k=>k it (by simp) _ st
 item:=by
  intro X g j l m i a s A H E I f st p;subst g j l;obtain⟨q,f1,f2,r,u,y⟩:=f it (by simp);refine(Walks.range (prog:=X.prog) (w:=X.w) (I.ok.hd m) it ((n:Int)-1) (-1) n).item i s _ _ p st λv h' B F d J=>?_;obtain⟨t,rfl⟩:=F;have L:dk X a A H {s with heap:=h',toks:=B}:=I.turned (λb o c e=>J b o (by simpa using c) e) q f1 r u y;exact⟨_,rfl,rT (s:={s with heap:=h',toks:=B}) (n:="range_iterator") d rfl rfl (by decide) ⟨.int ((n:Int)-1-i),H,L,⟨t,by rw[show(n:Int)-1+(i:Int)*-1=(n:Int)-1-i by omega]⟩,⟨rfl,rfl⟩,d,λb c=>(f b c).1⟩⟩
 done:=by
  intro X g j l m i a s A H E I f st p;subst g j l;obtain⟨q,f1,f2,r,u,y⟩:=f it (by simp);exact Yq (I.ok.hd m) st (by have:n<=i:=p;omega) λh' N=>⟨rfl,I.turned (t':=s.toks) (λb o c e=>N b o c e) q f1 r u y⟩
 self:=λ_ _ _ _ _ st h=>UZ st h
section
variable{X:Cx}{E:St->XK}{K:OU}{tg:Expr}
def N4(a:TA):TI:=λb H R=>a b H λvs c=>∃j:Int,vs=[.int j]/\0<=j/\j<2^62/\R (Itd j.toNat) c
theorem yM(f:Gl X "reversed")(g:X.mg "reversed"=Oi)(n:Gl X "range")(hm:X.mg "range"=Oi)(ha:PA X [a] ta)(hs:OJ [a] X.env=[(Os,PZ a X.env)]:=by rfl)
  (i:OJ [.Call (.Name "range" p) [a] [] pos] X.env=[(Os,PZ (.Call (.Name "range" p) [a] [] pos) X.env)]:=by rfl):PI X tg (.Call (.Name "reversed" p2) [.Call (.Name "range" p) [a] [] pos] [] pos2) (N4 ta):=by
 intro c s l H R I h;refine Call_ (fF I f g PyProof.Rows.Boot.«reversed» (Qh ?_ i rfl));refine Xo (Call_ (fF I n hm boot_range (Qh (e_ (ha pos c s l H _ I h) λus d r=>?_) hs rfl)));obtain⟨vs,m,v,r1,j,rfl,q1,q2,q⟩:=r;obtain⟨u,rfl,t,rfl⟩:=iD r1;refine call_range_1 (XJ (DT (IsRange.new ..) q1 q2 (UZ (x:=j-1) (left:=j) (step:=-1) (OI _ rfl) ?_)));have k:dk X c l m {d with heap:=d.heap.push {cls:= .type "range",data:= .fields #[.int 0 d.toks,.int j t,.int 1 (d.toks+1)]},toks:=d.toks+1+1}:=v.kept λb o e=>Ol _ e;refine⟨_,[_],_,_,m,rfl,k.kept (t':=d.toks+1+1) λb o e=>Ol _ e,uN _ j.toNat,?_,λb y=>?_,q⟩
 .show Wp _ _ (((j.toNat:Nat):Int)-1+((0:Nat):Int)*-1) (((j.toNat:Nat):Int)-((0:Nat):Int)) (-1)
  rw[show((j.toNat:Nat):Int)-1+((0:Nat):Int)*-1=j-1 by omega,show((j.toNat:Nat):Int)-((0:Nat):Int)=j by omega];exact OI _ rfl
 .cases O6.mp y
  exact k.fpOk (OD _) (k.hok.fresh (OD _))
noncomputable def gL(n:Nat):List D:=(Oz n).map λ(i:Nat)=> .int ((n:Int)-1-i)
theorem xk:v_ K (Itd n) F H (gL n):=λe f β2 t fr i=>by
 refine⟨λd hd=>?_,λa=>?_⟩
 .unfold gL at hd
  have a:i<n:=by
   have:=(OF.mp hd).1;simpa using this
  rw[Ou,Py a]at hd;cases hd;exact⟨a,λx g ⟨b,c⟩=>by subst b c;exact⟨bG.refl _,rfl⟩⟩
 .show n<=i
  rw[a];simp[gL]
def rF:List D->Option (List D)
 |[.int j]=>if(decide (0<=j)&&decide (j<2^62))=On then on (gL j.toNat)else Oi
 |_=>Oi
theorem DE(b:Gl X "reversed")(c:X.mg "reversed"=Oi)(j:Gl X "range")(hm:X.mg "range"=Oi)(ha:PA X [a] (j1 X.K g E))(hs:OJ [a] X.env=[(Os,PZ a X.env)]:=by rfl)
  (d:OJ [.Call (.Name "range" p) [a] [] pos] X.env=[(Os,PZ (.Call (.Name "range" p) [a] [] pos) X.env)]:=by rfl):PI X tg (.Call (.Name "reversed" p2) [.Call (.Name "range" p) [a] [] pos] [] pos2) (iV X.K (cX rF g) E):=
 (yM b c j hm ha hs d).imp λq H R f=>lk f λF δ β fr m h=>⟨F,δ,β,fr,m,(run.bind (R:=bb X.K F) h).mono λvs n f=>by
  obtain⟨ds,β1,t,hd,r1⟩:=f;obtain⟨l,e,k⟩:=run.ofO r1;unfold rF at e;split at e
  .split at e
   .rename_i i
    cases e;simp only[O9,Po]at i;obtain⟨v,rfl,o⟩:=bb.one hd;cases o.int;exact⟨_,rfl,i.1,i.2,k _ n (To.refl t.fr) xk⟩
   .cases e
  .cases e⟩
variable{e m:Expr}{te tm:TE}{pos p2:TD}
theorem BP(a:List Ov):X6 a.toArray Oi Oi (on (-1))=a.reverse.toArray:=by
 have b:Sw Oi Oi (on (-1)) a.toArray.size=((a.length:Int)-1,-1,-1):=by simp[Sw]
 unfold X6;rw[b];refine Px _ ?_;have c:sliceRange ((a.length:Int)-1) (-1) (-1)=(Oz a.length).map λk=>a.length-1-k:=by
  unfold sliceRange;have d:(if(-1:Int)>0 then(if(a.length:Int)-1< -1 then(-1-((a.length:Int)-1)+-1-1)/ -1 else 0)else(if(a.length:Int)-1>-1 then((a.length:Int)-1- -1- -1-1)/(- -1)else 0)).toNat=a.length:=by
   rw[Ot (by decide)];split
   .rw[show(- -1:Int)=1 by decide,Int.ediv_one];omega
   .omega
  simp only[d];exact O1 λk _=>by omega
 show(sliceRange ((a.length:Int)-1) (-1) (-1)).filterMap _=_;rw[c,XO];rcases a with _|⟨x,r⟩
 .rfl
 generalize j:x::r=a;rw[ut (g:=λk=>a.getD (a.length-1-k) x) λk f=>by
  have:k<a.length:=OV.mp f;simp only[TK,UK];rw[Om,Oo (by omega)];rfl]
 refine QC (by simp) λi h l=>?_;have n:i<a.length:=by simpa using h
 rw[Re,RC,Xi,Om,Oo (by omega)];rfl
def Zx(K:OU)(te tm:TE):TE:=λc H Q=>te c H λx d=>tm c d λy b=>∃a xs,x= .ref a/\y= .int (-1)/\fy K b a xs/\∀p,b p=Oi->Q (.ref p) (upd b p (.lst xs.reverse))
theorem K2(l:PE X e te)(hm:PE X m tm):PE X (.Subscript e (.Slice Oi Oi (on m) p2) pos) (Zx X.K te tm):=by
 intro c s f H Q I h;refine Subscript_ (e_ (l c s f H _ I h) λv n o=>?_);obtain⟨x,p,r,r1,q1⟩:=o;refine wpAny_Slice ?_;rw[XD];refine Oj (Oj ?_);rw[evalPart_some];refine e_ (hm c n f p _ r q1) λu d B=>?_;obtain⟨y,C,g,F,a,xs,rfl,rfl,sq,q⟩:=B;cases r1;obtain⟨t,rfl⟩:=F;obtain⟨its,i,pl,j⟩:=g.list sq;have k:dk X c f C {d with heap:=d.heap.push {cls:= .type "slice",data:= .fields #[.none,.none,.int (-1) t]}}:=g.kept (t':=d.toks) λb J q=>Ol _ q;show OH (O4 X.prog X.w) X.A (XF e (.Slice Oi Oi (on m) p2) (.ref a) (.ref d.heap.objs.size)) (EP X c f Q) X.xe {d with heap:=d.heap.push {cls:= .type "slice",data:= .fields #[.none,.none,.int (-1) t]}};refine tail_any (ops:=[.ref a,.ref d.heap.objs.size]) (pl.isList.push _).typeIs slot_list_getitem.lookup (XG (pl.isList.push _) (VM ..) .none .none (.int (-1) t) (by simp) ?_ (by rw[OR,<-i.length];exact j)) (by with_unfolding_all rfl)
 rw[BP];exact⟨.ref _,_,k.lnew (t':=d.toks) (its:=its.reverse) (ys:=xs.reverse) i.reverse (by rw[Xu];exact j),rfl,q _ (k.hok.fresh (OD _))⟩
noncomputable def KK:D->D->Option D
 | .lst ds,.int (-1)=>on (.lst ds.reverse)
 |_,_=>Oi
theorem bb.reverse:∀{ds:List D} {xs:List V},bb K F H ds xs->bb K F H ds.reverse xs.reverse
 |[],xs,h=>by have q:xs=[]:=h;subst q;exact bb.nil
 |d::ds,xs,h=>by
  obtain⟨x,r,rfl,a,b⟩:=h;rw[Ua,Ua];exact bb.append (bb.reverse b) (bb.cons a bb.nil)
theorem Na(o:PE X e (tV X.K f E))(hm:PE X m (tV X.K g E)):PE X (.Subscript e (.Slice Oi Oi (on m) p2) pos) (tV X.K (f2 KK f g) E):=
 (K2 o hm).imp λu H Q b=>lk b λF δ β fr l h=>⟨F,δ,β,fr,l,(run.bind (R:=c4 X.K F) h).mono λv y b=>o0 b λd β1 t hd r1=>⟨F,δ,β1,t.fr,l.tr (t.tr fr),(run.bind (R:=c4 X.K F) r1).mono λA B b=>o0 b λd2 β2 i j q=>by
  obtain⟨z,c,k⟩:=run.ofO q;unfold KK at c;split at c
  .cases c
   obtain⟨a,xs,rfl,sq,r⟩:=c4.sqL (c4.tr (i.tr t.fr) _ _ hd);cases j.int;exact⟨a,xs,rfl,rfl,sq,λp n=>k _ _ (i.fr.upd _ n) (c4.newL i.fr n (bb.reverse r))⟩
  .cases c⟩⟩
end
end L2.Pu
namespace L2.Pu
open PySem
theorem Ze{A:PU}(a:en k A):A.units+2<T4:=Ql (XT (by decide:2<=64) _) a.units
open PySem.Spec PyProof.Rows L2.Hs
section
variable{X:Cx}{E:St->XK}{ke ve cp iter:Expr}{ifs:List Expr}{rest:List Qp}{scope:Scope}{pos:TD}{Nc dr:List Pj}{dc:List Nat}{g:TG}{tb:Oq->TB}
theorem Jj{kb:Bool}{b d:TD}(y:X.N.Nodup)(k:X.N[i]?=on x)(B:A_ X.env.scope x)(F:X.calm=On)(S:dt X scope Nc dr dc)(L:PI X cp iter wi)
  (O:∀(cl:List (Pj×Oq)) (C:Oq) (j:List Oq) (s:OB) (H:Hp),PG (az X Nc scope cl C j s H) cp g/\dm (az X Nc scope cl C j s H) ifs tt/\∀D,PB (az X Nc scope cl C j s H) (.D ke ve) (⟨cp,iter,ifs,0⟩::rest) scope pos 0 D (tb D))
  (l:Ts (.DictComp ke ve (⟨cp,iter,ifs,0⟩::rest) scope pos) (on (.Name x b)) d.line X.env=QR On:=by rfl)
  (hs:∀x,Pz iter X.env x=QR x:=by intro _;rfl) (R:X.fn x=On\/X.env.scope.names.lookup x=on .local:=by first|exact .inl rfl|exact .inr rfl|assumption):
  PS X (.Assign [.Name x b] (.DictComp ke ve (⟨cp,iter,ifs,0⟩::rest) scope pos) d) (ff (kF (λD=>bY D kb 0 []) dr dc wi λD J=>cL J g tt (tb D)) (dC i)):=by
 intro f s U H D I h;rw[exec_Assign_Name_used _ _ _ _ l];refine My (Q2 (My ?_));show OH _ X.A (do let _ <-comprehension (.DictComp ke ve (⟨cp,iter,ifs,0⟩::rest) scope pos) scope X.env _ newDict Os (PZ iter X.env) (on (TY (.Name x b) X.env))) _ _ s
 refine My (PN (Rz (use:=on (TY (.Name x b) X.env)) (Q:=λ_ s'=>SP X f D .next s') rfl hs (S.clo I.ok) S.kind S.loc
  (PN (L f s U H _ I h) (λv s1 W=>PN W (λY Z n=>?_) λ_ _ e=>e) λ_ _ e=>e)) (λ_ s' hq=>Oj (Oj hq)) λ_ _ e=>e)
 obtain⟨it,j,tn,J,H2,e,o,T,p,f2,q⟩:=n;subst e;refine gq (c:= .D ke ve) nJ (RR:=λacc C=>W4 (O4 X.prog X.w) X.A X.xe (on (TY (.Name x b) X.env)) _ acc C) F S O o T p f2 q λA C s' H' m I' ns r q'=>?_;show OH _ X.A (TY (.Name x b) X.env (.ref A)) _ _ s';refine V2 (kH I' y k B (v:= .ref A) rfl (λZ o n=>?_) R);obtain⟨a,sb,ha⟩:=n;have t:C≠a:=by
  rcases ha with rfl|ha
  .exact r.2.1
  .exact λz=>r.2.2.2.1 x a ha z.symm
 exact⟨m,ns.sameBut sb t,λh' u=>⟨_,H',o.letgo r u,q'⟩⟩
theorem yq{kb:Bool}{a c:TD}(j:X.N.Nodup)(d:X.N[i]?=on x)(k:A_ X.env.scope x)(l:X.calm=On)(S:dt X scope Nc dr dc)(m:PI X cp iter (iV X.K it E))
  (n:∀(cl:List (Pj×Oq)) (C:Oq) (f:List Oq) (s:OB) (H:Hp),PG (az X Nc scope cl C f s H) cp g/\dm (az X Nc scope cl C f s H) ifs (hE X.K tt E0)/\∀D,PB (az X Nc scope cl C f s H) (.D ke ve) (⟨cp,iter,ifs,0⟩::rest) scope pos 0 D (tb D))
  (o:ci X.K g tg) (p:di tg) (q:∀D,dY X.K (RD X.K kb) D (tb D) b)
  (e:Ts (.DictComp ke ve (⟨cp,iter,ifs,0⟩::rest) scope pos) (on (.Name x a)) c.line X.env=QR On:=by rfl)
  (hs:∀x,Pz iter X.env x=QR x:=by intro _;rfl) (r:X.fn x=On\/X.env.scope.names.lookup x=on .local:=by first|exact .inl rfl|exact .inr rfl|assumption):
  PS X (.Assign [.Name x a] (.DictComp ke ve (⟨cp,iter,ifs,0⟩::rest) scope pos) c) (tG X.K X.H₀ (lB i (gn dr.length dc it tg tt b (kg kb))) E):=
 aG ((Jj (kb:=kb) j d k l S m n e hs r).imp λD t H h=>uA o p q h)
end
end L2.Pu
namespace L2.Hs
open PySem PySem.Spec PyProof.Rows
section
variable{X:Cx}
def KN(K:OU):R2:=λx y H Q=>∃a b ep xs k c,x= .ref c/\y= .ref a/\H a=on (bY a b ep xs)/\(∀x∈xs,t_ K H b x.1 x.2.1)/\t_ K H b k c/\Q (.bl (nq xs k).isNone) H
theorem vx(i:X.A.units+2<T4):g_ X (P6 .NotIn) (KN X.K):=by
 intro c s t H x y v u Q I j l h;obtain⟨d,b,ep,xs,k,a,rfl,rfl,m,n,o,q⟩:=h;cases j;cases l;obtain⟨ys,hm,p,_,hd⟩:=iu I m n;have f:=jf (k:=k) p;show OH _ _ (do return U9 (!(<-contains (.ref d) (.ref a)))) _ _ s
 refine My ?_;unfold contains
 try with_reducible refine P3 ?_
 refine My (Rc hm.typeIs slot_dict_contains.lookup ?_);show OH _ _ (if(on (Value.builtin "dict.__contains__")==on Pg)=On then _ else _) _ _ s;rw[Ot (by rw[beq_builtin_none];exact OE)];refine My (wpAny_callSpecialUnlessNone?_slot (name:=Qn "__contains__") hm.typeIs slot_dict_contains
  (Pe slot_dict_contains hm.typeIs entry_dict_contains ?_ (args_dict_contains _ _)))
 show OH _ _ (dictGet d (.ref a)>>=_) _ _ s;refine My (wpAny_dictGet_heap (jt i) (mz I o) hm ?_);cases g:VX ys k with
 |some r=>
  rw[g]at f;cases e:nq xs k with
  |none=>rw[e]at f;exact f.elim
  |some z=>
   rw[e]at q;show OH _ _ (ret (.bool On)) _ _ _;exact Oj ⟨_,rfl,P7 (Oj ⟨.bl _,H,I.tok _,rfl,q⟩)⟩
 |none=>
  rw[g]at f;cases e:nq xs k with
  |some z=>rw[e]at f;exact f.elim
  |none=>
   rw[e]at q;show OH _ _ (Builtin.Dict.pendingKey? d (.ref a)>>=_) _ _ _;exact My (wpAny_pendingKey_other hd (Oj ⟨_,rfl,P7 (Oj ⟨.bl _,H,I.tok _,rfl,q⟩)⟩))
end
end L2.Hs
namespace L2.Pu
open PySem PySem.Spec PyProof.Rows L2.Hs
section
variable{K:OU}
def CC:D->D->Option D
 |y,.dct b ks vs=>(fI b y).map λk=> .bl (lp ks vs k).isNone
 |_,_=>Oi
theorem NQ:aX K (KN K) CC:=λF H β Q d1 d2 d p r fr h g e k=>by
 unfold CC at e;split at e
 .rename_i b ks vs
  cases q:fI b d1 with
  |none=>rw[q]at e;cases e
  |some f=>
   rw[q]at e;cases e;obtain⟨i,rfl⟩:=jZ q;obtain⟨c,rfl,j⟩:=pb i h;unfold c4 at g;obtain⟨a,ep,xs,rfl,l,rfl,m,n⟩:=g;refine⟨a,b,ep,xs,f,c,rfl,rfl,l.2,λx o=>(m x o).s,j.s,?_⟩;have:=o7 (k:=f) n
   dsimp only at k
   cases q2:lp (xs.map (·.1)) vs f with
   |none=>
    rw[q2]at this k;have t:nq xs f=Oi:=this;rw[t];exact k _ H (To.refl fr) rfl
   |some z=>
    rw[q2]at this k;obtain⟨u,t,_⟩:=this;rw[t];exact k _ H (To.refl fr) rfl
 .cases e
end
end L2.Pu
namespace L2.Pu
open PySem PySem.Spec PyProof.Rows
section
variable{X:Cx}{E:St->XK}{K:OU}{st:Qe}{H₀:Hp}{B:Ow}{bg:Option (Oq×Oq)}{H H':Hp}{δ:Ds}{β β':Bg}{σ:St}
end
end L2.Pu
namespace L2.Pu
open PySem PySem.Spec PyProof.Rows PySem.SeqAt
open PySem.AutoSeq1 (wpAny_loadPart')
open PySem.MeetsSeq PySem.MeetsSeq2 PySem.MeetsSeq3
end L2.Pu
namespace L2.Hs
open PySem PySem.Spec PyProof.Rows
section
variable{X:Cx}
def Kj(b:Bool):TE:=λ_ H Q=>∀D,H D=Oi->Q (.ref D) (upd H D (bY D b 0 []))
theorem tK{b:Bool}:PE X (.Dict [] [] pos) (Kj b):=by
 intro a s c H Q I h;rw[arm_eval_Dict];refine My (Q2 ?_);show OH _ _ newDict _ _ _;exact nJ a s c H _ _ I λe d _=>⟨.ref _,_,d,rfl,h _ (I.hok.fresh (OD _))⟩
def y1(xs:List (fh×Oq×V))(k:fh)(c:Oq)(v:V):List (fh×Oq×V):=if(nq xs k).isSome then xs.map (λx=>if x.1=k then(x.1,x.2.1,v)else x)else xs++[(k,c,v)]
theorem xO(h:∀x y,XY x y->XY (f x) (g y)):∀{xs:List (fh×Oq×V)} {ys:List (fh×Oq×Ov)},TW XY xs ys->TW XY (xs.map f) (ys.map g)
 |_,_,.nil=> .nil
 |_,_,.cons a t=> .cons (h _ _ a) (xO h t)
theorem AK(p:TW XY xs ys)(r:aI v u):TW XY (y1 xs k c v) (storedH ys k c u):=by
 have f:=jf (k:=k) p;unfold y1;cases e:VX ys k with
 |none=>
  rw[e]at f;cases q:nq xs k with
  |some w=>rw[q]at f;exact f.elim
  |none=>
   rw[storedH_new e];exact pW ⟨rfl,rfl,r⟩ p
 |some w=>
  rw[e]at f;cases q:nq xs k with
  |none=>rw[q]at f;exact f.elim
  |some a=>
   rw[storedH_old e];refine xO (λx y h=>?_) p;unfold putAt;rw[<-h.1];by_cases z:x.1=k
   .rw[OA z,OA z];exact⟨rfl,h.2.1,r⟩
   .rw[Ot z,Ot z];exact h
theorem IV(xs:List (fh×Oq×V))(k:fh)(c:Oq)(v:V):(y1 xs k c v).length<=xs.length+1:=by
 unfold y1;split
 .rw[Oh];omega
 .simp
def HH(K:OU):V->V->V->Hp->(Hp->Prop)->Prop:=λo i v H Q=>∃a b ep xs k c,o= .ref a/\i= .ref c/\H a=on (bY a b ep xs)/\(∀x∈xs,t_ K H b x.1 x.2.1)/\t_ K H b k c/\xs.length<OS/\∀d,Q (upd H a (bY a b d (y1 xs k c v)))
theorem sO(t:X.A.units+2<T4):GC X (HH X.K):=by
 intro j s Y H o i v Z iv u Q I y B C h;obtain⟨a,b,ep,xs,k,c,rfl,rfl,l,F,J,hl,q⟩:=h;cases y;cases B;obtain⟨ys,L,p,N,f⟩:=iu I l F;refine wpAny_setItem_heap (jt t) (mz I J) L (λh' d' O=>?_) N;have m:=AK (k:=k) (c:=c) p C;obtain⟨o,es,g,r,R,T,U,g5,W⟩:=d';have d:=Px T7 (je m);rw[Oh,Oh]at d;have:=IV xs k c v;exact⟨_,I.write (by rw[l];trivial) (.inl rfl) (λb u n e=>(O.2 b n).trans e) ⟨o,r⟩ (qq ⟨o,es,_,r,R,T,by rw[U];unfold entryOfKey;rw[ql],W,f,by omega,m⟩),q g⟩
end
end L2.Hs
namespace L2.Pu
open PySem PySem.Spec PyProof.Rows L2.Hs
def L_(ks:List fh)(k:fh):List fh:=if k∈ks then ks else ks++[k]
def YO(ks:List fh)(vs:List D)(k:fh)(d:D):List D:=if k∈ks then(ks.zip vs).map (λp=>if p.1=k then d else p.2)else vs++[d]
section
variable{K:OU}{F:Fx}{H:Hp}
theorem qf:∀{xs:List (fh×Oq×V)},(nq xs k).isSome=decide (k∈xs.map (·.1))
 |[]=>by simp[nq]
 |x::xs=>by
  have ih:=qf (k:=k) (xs:=xs);unfold nq at ih⊢;rw[Rm];by_cases q:x.1=k
  .rw[OL q];simp[q]
  .rw[Pn q]
   dsimp only
   rw[ih];exact decide_eq_decide.mpr (by rw[OG,OK];exact⟨.inr,λz=>z.resolve_left λy=>q y.symm⟩)
theorem BD{xs:List (fh×Oq×V)}:(y1 xs k c v).map (·.1)=L_ (xs.map (·.1)) k:=by
 unfold y1 L_;rw[qf];by_cases q:k∈xs.map (·.1)
 .rw[OA (OL q),OA q,Oy]
  refine O1 λx _=>?_;show(if x.1=k then(x.1,x.2.1,v)else x).1=x.1;split<;>rfl
 .rw[Ot (λz=>q (PR z)),Ot q,Pd];rfl
theorem IW{xs:List (fh×Oq×V)}(hd:c4 K F H d v)(h:bb K F H vs (xs.map (·.2.2))):bb K F H (YO (xs.map (·.1)) vs k d) ((y1 xs k c v).map (·.2.2)):=by
 unfold y1 YO;rw[qf];by_cases q:k∈xs.map (·.1)
 .rw[OA (OL q),OA q]
  clear q
  induction xs generalizing vs with
  |nil=>exact bb.nil
  |cons x xs ih=>
   cases vs with
   |nil=>cases h
   |cons w vs=>
    obtain⟨u,r,e,a,b⟩:=h;rw[OG,Rx]at e;obtain⟨rfl,rfl⟩:=e;refine bb.cons (xs:=((xs.map λx=>if x.1=k then(x.1,x.2.1,v)else x).map (·.2.2))) ?_ (ih b);show c4 K F H (if x.1=k then d else w) (if x.1=k then(x.1,x.2.1,v)else x).2.2;by_cases z:x.1=k
    .rw[OA z,OA z];exact hd
    .rw[Ot z,Ot z];exact a
 .rw[Ot (λz=>q (PR z)),Ot q,Pd]
  exact bb.append h (bb.cons hd bb.nil)
theorem Ko{b:Bool}(d:∀x∈xs,eG K F H b x.1 x.2.1)(f:eG K F H b k c):∀x∈y1 xs k c v,eG K F H b x.1 x.2.1:=λx a=>by
 unfold y1 at a;split at a
 .obtain⟨y,e,rfl⟩:=OC.mp a
  split
  .exact d y e
  .exact d y e
 .rcases Qb.mp a with h|h
  .exact d x h
  .cases O6.mp h
   exact f
variable{X:Cx}{E:St->XK}{st:Qe}
def LK(i:Nat)(b:Bool):G:=λδ β=>on (.nx (δ.set i (on (.odc b [] []))),β)
theorem Nq{b:Bool}(h:PS X st (ff (Kj b) (dC i))):PS X st (tG X.K X.H₀ (LK i b) E):=h.imp λD k H c=>by
 obtain⟨B,bg,δ,β,o,d,ok,e,q⟩:=c;cases e;intro p f;obtain⟨a,g⟩:=ok.newAt (i:=i) (sl:= .odc b [] []) (u:=bY p b 0 []) f (.inr ⟨_,aj⟩) λe _=>⟨p,rfl,e,0,[],aj,rfl,(λx j=>by cases j),bb.nil⟩;exact q _ _ _ g a
def rX(i:Nat)(a c:FD):G:=λδ β=>match c (j0 δ) β with
 |some (.ok d,β1)=>match a (j0 δ) β1 with
  |some (.ok kd,β2)=>match δ.getD i Oi with
   |some (.odc b ks vs)=>match fI b kd with
    |some k=>if(noL d&&decide (ks.length<OS))=On then on (.nx (δ.set i (on (.odc b (L_ ks k) (YO ks vs k d)))),β2)else Oi
    |none=>Oi
   |_=>Oi
  |_=>Oi
 |some (.error C,β1)=>on (.ex C δ,β1)
 |none=>Oi
theorem KA(h:PS X st (ff (tV X.K fv E) (DJ (jI i) (tV X.K fk E) (HH X.K)))):PS X st (tG X.K X.H₀ (rX i fk fv) E):=h.imp λD σ H R=>by
 obtain⟨B,bg,δ,β,o,T,ok,e,q⟩:=R;refine⟨qk B bg,j0 δ,β,ok.frA,ok.viewA,?_⟩;unfold rX at e;split at e
 .rename_i d β1 p
  refine⟨.ok d,_,p,λv H1 t hd=>?_⟩;obtain⟨g,U⟩:=ok.to rfl t;split at e
  .rename_i kd β2 W
   split at e
   .rename_i b ks vs N
    split at e
    .rename_i k Y
     split at e
     .rename_i hn
      cases e;rw[O9,Po]at hn;obtain⟨w,r,a,rfl,hB,h2⟩:=g.tell i _ (getD_some N);refine⟨_,r,qk B bg,j0 δ,β1,g.frA,g.viewA,.ok kd,_,W,λkv H2 Z y=>?_⟩;obtain⟨j,n⟩:=g.to rfl Z;obtain⟨_,l,a',e',hB',ep,xs,hD,A,O,dl⟩:=j.tell i _ (getD_some N);rw[r]at l;cases l;cases e';obtain⟨hz,rfl⟩:=jZ Y;have nk:noL (dK b k)=On:=by
       cases b with
       |true=>show(On&&(noLs (k.2.map Pu.D.int)&&On))=On;rw[iO];rfl
       |false=>exact iO k.2
      obtain⟨c,rfl,Q⟩:=pb hz (j.noB nk y);have I:=c4.tr n.tr _ _ (g.noB hn.1 hd);subst A;refine⟨a,b,ep,xs,k,c,rfl,rfl,hD,λx J=>(O x J).s,Q.s,by rw[<-Oh (f:=(·.1))];exact hn.2,λm=>?_⟩;obtain⟨L,s3⟩:=j.writeAt (sl:= .odc b (L_ (xs.map (·.1)) k) (YO (xs.map (·.1)) vs k d)) (u:=bY a b m (y1 xs k c v)) r hB (.inr ⟨_,aj⟩) λt=>⟨a,rfl,hB,m,_,aj,BD.symm,Ko (λx J=>(O x J).tr t) (Q.tr t),IW (c4.tr t _ _ I) (bb.tr t _ _ dl)⟩;exact q _ B _ ((U.trans n).trans s3) L
     .cases e
    .cases e
   .cases e
  .cases e
 .rename_i C β1 p
  cases e;refine⟨.error C,_,p,λH' t=>?_⟩;obtain⟨j,n⟩:=ok.to rfl t;exact q _ B H' n j
 .cases e
def BF:D->Option Int->Option Int->Option D
 | .tup xs,lo,hi=>if HT.sIx xs.length 0 lo=0/\HT.sIx xs.length xs.length hi=xs.length then Oi else on (.tup (iw xs lo hi))
 |_,_,_=>Oi
def DK(f:FD)(lo a:Option (FD)):FD:=λδ=>M.bind (f δ) λd=>M.bind (j9 lo δ) λl=>M.bind (j9 a δ) λh=>M.ofO (BF d l h)
theorem AS{X:Cx}{E:St->XK}{lo u:Option Expr}{fl y:Option (FD)}(I:PE X e (tV X.K f E))(J:qz X lo fl E)(L:qz X u y E):PE X (.Subscript e (.Slice lo u Oi p2) pos) (tV X.K (DK f fl y) E):=
 (nG Ks I J L).imp λT H Q i=>lk i λF δ β fr j r=>⟨F,δ,β,fr,j,(run.bind (R:=c4 X.K F) r).mono λv U ⟨d,β1,t,hd,r1⟩=>
  ⟨F,δ,β1,t.fr,j.tr (t.tr fr),(run.bind (R:=λ_ (a b:Option Int)=>b=a) r1).mono λl W ⟨Y,β2,g,m,N⟩=>
   ⟨F,δ,β2,g.fr,j.tr ((t.tr fr).trans (g.tr t.fr)),(run.bind (R:=λ_ (a b:Option Int)=>b=a) N).mono λh Z i=>by
    obtain⟨h',β3,n,o,O⟩:=i;subst m o;obtain⟨c,e,k⟩:=run.ofO O;have q:=c4.tr ((g.tr t.fr).trans (n.tr g.fr)) _ _ hd;unfold BF at e;split at e
    .split at e
     .cases e
     .rename_i A
      cases e;obtain⟨a,xs,rfl,sq,B⟩:=c4.sqT q;rw[B.length]at A;exact⟨a,xs,rfl,sq,A,λp C=>k _ _ (n.fr.upd _ C) (c4.newT n.fr C (B.cut l h))⟩
    .cases e⟩⟩⟩
end
end L2.Pu
namespace L2.Hs
open PySem PySem.Spec PyProof.Rows
section
variable{prog:Pc}{w:Pk}{A:PU}{E:Ov->OB->Prop}{s:OB}{d it:Oq}{od:O7}{es:Array QZ}{ep i:Nat}
theorem zy(hs:(d==Tt)=Os)(a:s.heap.get? d=on od)(c:od.cls= .type "dict")(hd:od.data= .dict es ep)
  (h:Q (.ref s.heap.objs.size) {s with heap:=s.heap.push {cls:= .type "dict_keyiterator",data:= .fields #[.ref d,.int 0 0,.int es.size 0,.int ep 0]}}):OH (O4 prog w) A (UW (.ref d)) Q E s:=by
 have b:s.TypeIs (.ref d) "dict":=⟨od,a,c⟩;refine Tc b F.slot_dict_iter (Pe F.slot_dict_iter b F.entry_dict_iter ?_ (F.args_dict_iter_1 _));unfold Builtin.«dict.__iter__» Builtin.Dict.dictSlotNone;refine My (My (wpAny_notOrdered_dict b ?_));show OH _ _ (QR (OM d)) _ _ s;refine Oj ?_;show OH _ _ (Sz d>>=_) _ _ s;unfold Sz;rw[Ot (by rw[hs];exact OE)];refine My (Oj (My (Sj a hd (My (SO a hd (My (Ph (Oj ⟨_,rfl,"dict_keyiterator",_,⟨_,OI _ rfl,rfl⟩,Q7.lookup,?_⟩))))))));simpa[RZ]using h
theorem zx{e:QZ}(c:s.heap.IsKeyIter it d i es.size ep)(j:s.heap.get? d=on od)(hd:od.data= .dict es ep)(k:es[i]?=on e)
  (l:∀h',h'.IsKeyIter it d (i+1) es.size ep->Pa it s.heap h'->Q (on e.key) {s with heap:=h'}):OH (O4 prog w) A (Sa (.ref it)) Q E s:=by
 obtain⟨o,g,m,f⟩:=id c;have b:=c.typeIs;obtain⟨h,rfl⟩:=Pw.mp k;unfold Sa;refine My (R8 (wpAny_callSpecial?_slot (name:=Qn "__next__") b Q7 (Pe Q7 b V5 ?_ (VT _))));refine My (Oj (My (My ?_)))
 first|refine My (RX b (Oj ?_))|refine My (SL b (Oj ?_))
 refine My (Ta g f ?_);simp only[show QL "dict_keyiterator"=Os from by decide,OT,PD];show OH _ _ (if(OM d==Pg)=On then _ else _) _ _ s;rw[Ot (show ¬((OM d==Pg)=On)from OE)];refine My (Oj (My (Sj j hd ?_)));rw[Ot (by simp)];refine My (Oj (My (SO j hd ?_)));rw[Ot (by simp)];refine Oj ?_;simp only[show ¬((i:Int)<0)from by omega,PD,P0,Sb h];refine My ?_
 first|refine My (RX b (Oj ?_))|refine My (SL b (Oj ?_))
 refine My (wpAny_isOneOf_keyiter b ?_);show OH _ _ (Vk (.ref it) 1 (RZ ((i:Int)+1))>>=_) _ _ s;refine My (RM g f (by simp) ?_);have a:(s.heap.update it (WA (·.setIfInBounds 1 (RZ ((i:Int)+1))))).IsKeyIter it d (i+1) es.size ep:=⟨_,Rh _ g (S4 (Qm f _)),(Uj ..).trans m,by rw[Qm f];simp[RZ]⟩;refine My (P3 (My (wpAny_isOneOf_keyiter (s:={s with heap:=s.heap.update it (WA (·.setIfInBounds 1 (RZ ((i:Int)+1))))}) a.typeIs ?_)));show OH _ _ (QR es[i].key) _ _ _;exact Oj (Oj ⟨_,rfl,Oj (l _ a (Qd ..))⟩)
theorem CY(j:A.handled=Oi)(e:s.heap.IsKeyIter it d i es.size ep)(f:s.heap.get? d=on od)(hd:od.data= .dict es ep)(k:es.size<=i)
  (l:∀h',UP it s.heap h'->Q Oi {s with heap:=h'}):OH (O4 prog w) A (Sa (.ref it)) Q E s:=by
 obtain⟨o,g,n,h⟩:=id e;have c:=e.typeIs;unfold Sa;refine My (R8 (wpAny_callSpecial?_slot (name:=Qn "__next__") c Q7 (Pe Q7 c V5 ?_ (VT _))));refine My (Oj (My (My ?_)))
 first|refine My (RX c (Oj ?_))|refine My (SL c (Oj ?_))
 refine My (Ta g h ?_);simp only[show QL "dict_keyiterator"=Os from by decide,OT,PD];show OH _ _ (if(OM d==Pg)=On then _ else _) _ _ s;rw[Ot (show ¬((OM d==Pg)=On)from OE)];refine My (Oj (My (Sj f hd ?_)));rw[Ot (by simp)];refine My (Oj (My (SO f hd ?_)));rw[Ot (by simp)];refine Oj ?_;simp only[show ¬((i:Int)<0)from by omega,PD,P0,Q6 k];refine My ?_
 first|refine My (RX c (Oj ?_))|refine My (SL c (Oj ?_))
 show OH _ _ (Vk (.ref it) 0 .none>>=_) _ _ s;refine My (RM g h (by simp) ?_);show OH _ _ (Wj (.type "StopIteration") []>>=_) _ _ _;refine My ?_;simp only[Wj,newTuple];refine My (Ph ?_ (by size_fits));refine My (m:=RJ _ _) (RW (a:=Pg) (by first|rfl|(simp only[RJ];rfl)) ?_)
 refine Ph ?_ (by size_fits);simp only[W9];refine My (VB ?_);rw[show A.in1.handled=Oi from j];refine My (Oj (Wv ?_));refine My (QE (T:="StopIteration") (b:=On) ⟨_,OI _ rfl,rfl⟩ Vj ?_);exact Oj (l _ (((Qd ..).extBut.push _).push _))
def KIt(h:P4)(I d:Oq)(es:Array QZ)(ep i:Nat):Prop:=h.IsKeyIter I d i es.size ep/\∃od,h.get? d=on od/\od.data= .dict es ep
theorem xS(q:A.handled=Oi)(j:I≠d):Walks prog w A I [I,d] [I] es.size (λi v=>∃e,es[i]?=on e/\v=e.key) (λi h=>KIt h I d es ep i) where
 sub:=λb a=>by simp at a;simp[a]
 frame:=λ_ _ _ st m=>by
  obtain⟨⟨o,r,t⟩,od,c,f⟩:=st;exact⟨⟨o,m I (by simp) o r,t⟩,od,m d (by simp) od c,f⟩
 item:=λi s Q E u st g=>by
  obtain⟨st,od,c,f⟩:=st;have n:es[i]?=on es[i]:=getElem?_pos es i u;exact zx st c f n λh' k p=>g _ h' s.toks ⟨_,n,rfl⟩ ⟨k,od,p.extBut d od (Ne.symm j) c,f⟩ λb o a e=>p.extBut b o (λz=>a (by simp[z])) e
 done:=λs Q E st g=>by
  obtain⟨st,od,c,f⟩:=st;exact CY q st c f (OD _) λh' l=>g h' s.toks λb o a e=>l b o (λz=>a (by simp[z])) e
 self:=λ_ _ _ _ st g=>wpAny_pyIter_keyiter st.1 g
end
end L2.Hs
namespace L2.Hs
open PySem PySem.SetTable PyProof.Rows
section
variable{prog:Pc}{w:Pk}{A:PU}{E:Ov->OB->Prop}{s:OB}
theorem uG{o:O7}{es:Array QZ}(hh:A.handled=Oi)(hs:(a==Tt)=Os)(O:s.heap.get? a=on o)(y:o.cls= .type "dict")(hd:o.data= .dict es ep)
  (hsz:es.size<=1000)
  (hQ:∀h' R vs,(∀b o,s.heap.get? b=on o->h'.get? b=on o)->s.heap.objs.size<=h'.objs.size->s.toks<=R->vs=es.toList.map (·.key)->Q vs {s with heap:=h',toks:=R}):OH (O4 prog w) A (collect (.ref a)) Q E s:=by
 unfold collect;refine My (Xc (TZ XM ?_));rw[SX XN _];show OH _ A.in1 (newList []>>=λl=>Vz (.builtin "list.__iadd__" ⟨[l,.ref a],[]⟩)) _ _ s;refine My (Ph ?_);refine Oj ⟨VA Ur _,TZ F.entry_list_iadd ?_⟩;rw[SX Ur _];have ha:=OZ O;have h:(s.heap.push {cls:= .type "list",data:= .seq ([]:List Ov).toArray}).get? a=on o:=Ol _ O;have B:(s.heap.push {cls:= .type "list",data:= .seq ([]:List Ov).toArray}).get? s.heap.objs.size=on {cls:= .type "list",data:= .seq ([]:List Ov).toArray}:=OI _ rfl;have r:s.heap.objs.size≠a:=Rb ha;have v:R1 (.ref s.heap.objs.size) (.ref a)=Os:=by simp[R1,r]
 have C:(⟨s.heap.push {cls:= .type "list",data:= .seq ([]:List Ov).toArray},s.gens,s.drawn,s.toks,s.os⟩:OB).TypeIs (.ref a) "dict":=⟨o,h,y⟩;show OH _ A.in1 (Rw (.ref s.heap.objs.size) (.ref a) (.ref s.heap.objs.size)) _ _ _;unfold Rw;refine My (U1 C ?_);rw[Ot (by rw[v];decide)];refine My (zy hs h y hd ?_);refine My (P3 ?_);unfold U5;have n:(⟨(s.heap.push {cls:= .type "list",data:= .seq ([]:List Ov).toArray}).push {cls:= .type "dict_keyiterator",data:= .fields #[.ref a,.int 0 0,.int es.size 0,.int ep 0]},s.gens,s.drawn,s.toks,s.os⟩:OB).TypeIs (.ref a) "dict":=⟨o,Ol _ h,y⟩;refine My (Rc n F.slot_dict_len.lookup ?_)
 (generalize t:("dict.__len__":String)=id0;wp_delta;rw[show splitId id0=on ("dict","__len__")from by subst t;decide +kernel];subst t)
 refine My (QE (b:=On) n (by rw[S9];kernel_rfl) ?_);rw[Ot (by decide)];show OH _ _ (if _ then _ else _) _ _ _;rw[OA (by decide)];refine My (U1 n ?_);refine Oj ?_;rw[OA (by decide)];refine My (R0 ?_);have T:(s.heap.push {cls:= .type "list",data:= .seq ([]:List Ov).toArray}).objs.size=s.heap.objs.size+1:=by rw[size_push']
 generalize j:(s.heap.push {cls:= .type "list",data:= .seq ([]:List Ov).toArray}).push {cls:= .type "dict_keyiterator",data:= .fields #[.ref a,.int 0 0,.int es.size 0,.int ep 0]}=f;have U:f.get? s.heap.objs.size=on (Q5 "list" #[] 0):=by rw[<-j];exact Ol _ B
 have gI:f.get? (s.heap.objs.size+1)=on {cls:= .type "dict_keyiterator",data:= .fields #[.ref a,.int 0 0,.int es.size 0,.int ep 0]}:=by rw[<-j,<-T];exact OI _ rfl
 have ga:f.get? a=on o:=by rw[<-j];exact Ol _ h
 have p:∀b g,s.heap.get? b=on g->f.get? b=on g:=λb g e=>by rw[<-j];exact Ol _ (Ol _ e)
 unfold Vw;refine My (My (SK U rfl ?_ (by show 0<=_;omega) (by show 1<=_;omega)));obtain⟨X,Y⟩:∃X,(f.update s.heap.objs.size (P5 λxs=>xs.push Pg)).get? s.heap.objs.size=on (Q5 "list" #[Pg] X):=⟨_,get?_update_seq U λxs=>xs.push Pg⟩;refine SK Y rfl ?_ (by show 1<=OS;decide) (by show 0<=_;omega);obtain⟨H,Z⟩:∃H,((f.update s.heap.objs.size (P5 λxs=>xs.push Pg)).update s.heap.objs.size (P5 λxs=>xs.pop)).get? s.heap.objs.size=on (Q5 "list" #[] H):=⟨_,get?_update_seq Y λxs=>xs.pop⟩;have c:∀b g,b≠s.heap.objs.size->f.get? b=on g->((f.update s.heap.objs.size (P5 λxs=>xs.push Pg)).update s.heap.objs.size (P5 λxs=>xs.pop)).get? b=on g:=λb g q e=>by
  rw[QH _ _ _ _ q,QH _ _ _ _ q];exact e
 generalize (f.update s.heap.objs.size (P5 λxs=>xs.push Pg)).update s.heap.objs.size (P5 λxs=>xs.pop)=h4 at Z c;have J:s.heap.objs.size+1≠a:=Rb (R4 ha);have st:KIt h4 (s.heap.objs.size+1) a es ep 0:=⟨⟨_,c _ _ (by omega) gI,rfl,rfl⟩,o,c a o (Ne.symm r) ga,hd⟩;have W:=xS (prog:=prog) (w:=w) (A:=A.in1) (I:=s.heap.objs.size+1) (d:=a) (es:=es) (ep:=ep) hh J;show OH _ _ (Vz _) _ _ _;rw[T];refine Oj ⟨VA F.plain_extend_loop _,codeAny_extend_loopS W.toS (by rw[Qo];omega) s.heap.objs.size (by simp;omega) _ es.size 0 _ #[] H rfl (PV _) st Z (ItemsOf.nil _) λs' k c' hm u m=>?_⟩;show OH _ A (load s.heap.objs.size>>=_) _ _ s';refine My (wpAny_load u ?_);refine Oj ?_;have L:s'={s with heap:=s'.heap,toks:=s'.toks}:=by
  have v:=hm.gens;have f:=hm.drawn;have h3:=hm.os;obtain⟨a1,a2,a3,a4,a5⟩:=s';simp only at v f h3;subst v f h3;rfl
 rw[L];refine hQ _ _ _ (λb g e=>?_) (Tz (OZ u)) hm.toks ?_
 .have q:=OZ e
  exact hm.heap b g (by simp only[OK,Qc,SD,Yn];exact⟨Pr q,Pr (R4 q)⟩) (c b g (Pr q) (p b g e))
 .refine QC (by rw[Pb,Oh,Pb,m.1]) λi q1 q2=>?_
  have N:i<k.size:=by simpa using q1
  obtain⟨e,he,hv⟩:=m.2 i _ (getElem?_pos k i N);rw[Rl,hv,Re,Rl];obtain⟨z1,z2⟩:=Pw.mp he;rw[z2]
theorem uO{o:O7}{es:Array QZ}{xs:List (List Int×Oq)}(v:A.handled=Oi)(hs:(a==Tt)=Os)(y:s.heap.get? a=on o)(B:o.cls= .type "dict")(hd:o.data= .dict es ep)(t:es.toList.map (·.key)=xs.map λk=>OM k.2)(q:(xs.map (·.1)).Nodup)(C:∀x∈xs,(js prog w).is s.heap x.1 x.2)(F:∀x∈xs,1<=x.1.length)(H:xs.length<64)
  (h:∀(l:Oq) (h':P4) (g r:Nat) (i:List (List Int×Oq)),i.Perm xs->Up (i.map (·.1))->h'.get? l=on (Q5 "list" (i.map λk=>OM k.2).toArray r)->s.heap.objs.size<=l->(∀b o,s.heap.get? b=on o->h'.get? b=on o)->s.toks<=g->Q (.ref l) {s with heap:=h',toks:=g}):
  OH (O4 prog w) A (VF (.builtin "sorted") [.ref a]) Q E s:=by
 have I:es.size=xs.length:=by rw[<-Pb,<-Oh (f:=λe:QZ=>e.key),t,Oh]
 refine V4 kind_sorted plain_sorted entry_sorted (args_sorted1 _) ?_;unfold Builtin.«sorted»;refine My (m:=checkCount "sorted" 1 1 _) (Oj ?_);refine My (uG v hs y B hd (by omega) λj g vs keep n htk pv=>?_);rw[t]at pv;subst pv;refine My (XH ?_ (by rw[Oh,Qo];omega));have c:∀b d,s.heap.get? b=on d->(j.push (Q5 "list" (xs.map λk=>OM k.2).toArray 0)).get? b=on d:=λb d e=>Ol _ (keep b d e);have p:(j.push (Q5 "list" (xs.map λk=>OM k.2).toArray 0)).get? j.objs.size=on (Q5 "list" (xs.map λk=>OM k.2).toArray 0):=OI _ rfl;show OH _ _ _ _ _ {s with heap:=j.push (Q5 "list" (xs.map λk=>OM k.2).toArray 0),toks:=g};refine My (P3 (Pe slot_list_sort ⟨_,p,rfl⟩ entry_list_sort (qG p (λk u=>⟨?_,F k u⟩) q (by omega) λh' i r q1 q2 q3 q4=>⟨_,rfl,?_⟩) (args_list_sort _)))
 .obtain⟨J,its,m,L,N,O,R⟩:=C k u
  exact⟨J,its,m,c _ _ L,N,O,R⟩
 .refine Oj ⟨_,rfl,h j.objs.size h' g r i q1 q2 q3 n (λb d e=>q4 b d (λz=>?_) (c b d e)) htk⟩
  have:=OZ e;exact OX (z▸this) (Nat.not_lt.mpr n)
variable{X:Cx}
abbrev kA(y:fh×Oq×V):List Int×Oq:=(y.1.2,y.2.1)
def tz(K:OU):List V->Hp->VK->Prop:=λxs H Q=>∃a ep ys,xs=[.ref a]/\H a=on (bY a Os ep ys)/\(∀x∈ys,t_ K H Os x.1 x.2.1/\1<=x.1.2.length)/\ys.length<64/\
 ∀(l:Oq) (b:List (List Int×Oq)),H l=Oi->b.Perm (ys.map kA)->Up (b.map (·.1))->Q (.ref l) (upd H l (.lst (b.map λz=>V.ref z.2)))
theorem GH:∀{xs:List (fh×Oq×V)} {ys:List (fh×Oq×Ov)},TW XY xs ys->xs.map kA=ys.map λy=>(y.1.2,y.2.1)
 |_,_,.nil=>rfl
 |_,_,.cons h t=>by
  rw[OG,OG,GH t];unfold kA;rw[h.1,h.2.1]
theorem y9:∀{l:List fh},l.Nodup->(∀x∈l,x.1=0)->(l.map (·.2)).Nodup
 |[],_,_=>V7
 |x::l,nd,h=>by
  rw[Pt]at nd;rw[OG,Pt];refine⟨λm=>?_,y9 nd.2 λy a=>h y (Op _ a)⟩;obtain⟨y,a,e⟩:=OC.mp m;have:y=x:=RQ ((h y (Op _ a)).trans (h x Ox).symm) e;exact nd.1 (this▸a)
theorem lJ(m:X.calm=On):cM X (.builtin "sorted") (tz X.K):=by
 intro g s Y H xs us Q I r h;obtain⟨a,ep,ys,rfl,ha,e,hn,q⟩:=h;obtain⟨u,rfl,n⟩:=iD r;cases n;obtain⟨t,⟨o,es,v,B,C,F,J,Z,L⟩,p,hz,f⟩:=iu I ha λx h=>(e x h).1;have i:=GH p;have N:=je p;have O:∀x∈t.map (·.1),x.1=0:=λx b=>by
  rw[<-N]at b;obtain⟨y,d,rfl⟩:=OC.mp b;exact(e y d).1.1
 refine uO (xs:=ys.map kA) (I.ok.hd m) f B C.1 F ?_ ?_ ?_ ?_ (by rw[Oh];exact hn) λl h' R T c j U W hs keep ht=>?_
 .rw[J,i,Oy,Oy];rfl
 .have:=y9 L O
  rw[Oy]at this;rw[i,Oy];exact this
 .intro x b
  obtain⟨y,d,rfl⟩:=OC.mp b;exact j3 I (e y d).1.2
 .intro x b
  obtain⟨y,d,rfl⟩:=OC.mp b;exact(e y d).2
 .refine⟨.ref l,_,I.laid (t':=R) (o:= .lst (c.map λz=>V.ref z.2)) keep hs ⟨?_,c.map λk=>OM k.2,T,?_,W⟩,rfl,q l c (I.hok.fresh hs) j U⟩
  .rw[Oh,j.length_eq,Oh,Qo];omega
  .exact kC c
end
end L2.Hs
namespace L2.Pu
open PySem PySem.Spec PyProof.Rows L2.Hs
def sK:List D->Option D
 |[.dct Os ks _]=>if ks.length<64 then fj (ks.map λk=>ln k.2)else Oi
 |_=>Oi
theorem zt{K:OU}:dD K (tz K) sK:=λF H β Q ds d vs fr h e k=>by
 unfold sK at e;split at e
 .rename_i ks A
  obtain⟨v,rfl,i⟩:=bb.one h;unfold c4 at i;obtain⟨a,ep,xs,rfl,n,rfl,j,B⟩:=i;split at e
  .rename_i hn
   rw[Oh]at hn;obtain⟨m,s,rfl⟩:=iE e;have hm:∀x∈xs,x.1.2∈m:=λx b=>by
    obtain⟨l,c,e⟩:=s.2.2.2 (ln x.1.2) (OC.mpr ⟨x.1,OC.mpr ⟨x,b,rfl⟩,rfl⟩);rw[dZ e];exact c
   refine⟨a,ep,xs,rfl,n.2,λx b=>⟨(j x b).s,(s.2.2.1 _ (hm x b)).1⟩,hn,λl o c f p=>?_⟩;have r:m=o.map (·.1):=rD s.1 p λy=>by
    refine⟨λg=>?_,λg=>?_⟩
    .obtain⟨q,t,e⟩:=OC.mp (s.2.2.1 y g).2
     obtain⟨x,b,rfl⟩:=OC.mp t;refine(f.map (·.1)).mem_iff.mpr ?_;rw[Oy];exact OC.mpr ⟨x,b,dZ e⟩
    .have:=(f.map (·.1)).mem_iff.mp g
     rw[Oy]at this;obtain⟨x,b,rfl⟩:=OC.mp this;exact hm x b
   rw[r]at k;refine k _ _ (fr.upd _ c) (c4.newL fr c (lH λz u=>?_));obtain⟨x,b,rfl⟩:=OC.mp (f.mem_iff.mp u);exact HM (j x b)
  .cases e
 .cases e
end L2.Pu
namespace L2.Pu
open PySem PySem.Spec PyProof.Rows
def lA:D->D->Option D
 |x,.lst ys=>match w_ x,toPs ys with
  |some p,on ps=>if(RU ps&&p.canLay0&&decide (p.depth<=9))=On then on (.bl (ps.any λy=>RA y p))else Oi
  |_,_=>Oi
 |_,_=>Oi
def KO(X:Cx):R2:=λx y H Q=>∃(F:Fx) (a b:D) (c:Bool),c4 X.K F H a x/\c4 X.K F H b y/\lA a b=on (.bl c)/\Q (.bl c) H
section
variable{X:Cx}
theorem uo(h:lA a b=on d):∃ys p ps,b= .lst ys/\w_ a=on p/\toPs ys=on ps/\RU ps=On/\p.canLay0=On/\p.depth<=9/\d= .bl (ps.any λy=>RA y p):=by
 unfold lA at h;split at h
 .split at h
  .rename_i p ps c e
   split at h
   .rename_i q
    rw[O9,O9]at q;cases h;exact⟨_,p,ps,rfl,c,e,q.1.1,q.1.2,PR q.2,rfl⟩
   .cases h
  .cases h
 .cases h
theorem yS(f:en k X.A):g_ X (P6 .In) (KO X):=by
 intro d s o H x y v u Q I g i h;obtain⟨F,a,b,c,d1,d2,e,q⟩:=h;obtain⟨ys,p,ps,rfl,j,l,c1,c2,c3,m⟩:=uo e;cases m;obtain⟨as,r1⟩:=fS I a x v p d1 j g;obtain⟨bs,n⟩:=fS I (.lst ys) y u (.list ps) d2 (by unfold w_;rw[l];rfl) i;exact SeqAt.in_list_reads n r1 c1 c2 (by have:=f.units;have:=VE (Tf ps) p.depth;omega) ⟨.bl _,H,I,rfl,q⟩
theorem HW:aX X.K (KO X) lA:=λF H β Q d1 d2 d c f fr a b e k=>by
 obtain⟨_,_,_,_,_,_,_,_,_,rfl⟩:=uo e;exact⟨F,d1,d2,_,a,b,e,k _ H (To.refl fr) rfl⟩
variable{P:Pc}{w:Pk}{K:OU}{mg:Pj->Option Ov}{base:P4}
theorem LL{st:Qe}{N ps:List Pj}(n m:Nat)(g:FL)(F:d5 K x qual st f fd)(S:c_ N ps (af st))(R:ps.length=n)(T:N.length=m)
  (u:∀(j:Ov) (A:PU) (outer:List VJ) (s:OB) (H:Hp) (E:XK),en k (A.deeper (SS qual (af st) s.heap.objs.size f j))->
   PSs (eF (hO P w) P w K mg base N qual (af st) f j A outer s H E) (bX st) (ng (x_ K g (λ_=>E)))):fw P w K mg base (hO P w) (k+1) f fd ps (Y7 K (cw K) n λds=>g (vw (ni m ds))):=by
 subst R T;refine F.okE S (λvs H Q E h=>h.1) λj A outer s H vs Q E Z h=>?_;obtain⟨hl,p,ds,β,fr,hd,r,y,e,h⟩:=h;refine⟨_,u j A outer s H E Z,?_⟩;obtain⟨B,ok,U,h1,hn⟩:=oA (N:=N) fr hd;have J:∀{L:Ow} {i:Hp},hY B H L i->Fr (eo L p.bg) i y->To p H i y/\∀a,p.A a->L a≠Oi:=λ{L i} s O=>by
  have hs:∀a,p.A a->L a≠Oi:=λa ha=>by
   rw[s.tg a (U a ha)];rcases U a ha with z|z<;>rw[z]<;>simp
  refine⟨⟨λa o ha n=>s.kp a o ha ?_,λa ha=>O.occ a (hs a ha),λb l e=>fr.bgA b l e,O.bag⟩,hs⟩;cases q:B a with
  |none=>exact .inl rfl
  |some t=>
   have:=U a (hn a (by rw[q];simp));rcases this with z|z
   .rw[q]at z;exact .inr z
   .obtain⟨b,l,e,w⟩:=h1 a z
    obtain⟨W,n2⟩:=n b l e;rcases w with w|w
    .exact OX w W
    .exact OX w n2
 refine⟨eo B p.bg,vw (ni N.length ds),β,ok.fr,ok.view,r,y,e,?_⟩;cases r with
 |ok d=>
  intro v i t hv;obtain⟨I,Y⟩:=ok.to (F:=eo B p.bg) rfl t;obtain⟨t1,hs⟩:=J Y I.fr;obtain⟨a,xs,rfl,n0,W,dl⟩:=hv;have tr:Tr ((eo B p.bg).but a) i (p.but a) i:=⟨λc hc _ z=>hc (Or.imp (hs c) id z),λ_ _ _ h=>h,rfl⟩;exact h _ i t1 ⟨a,xs,rfl,n0,W,bb.tr tr _ _ dl⟩
 |error C=>
  intro i t;obtain⟨I,Y⟩:=ok.to (F:=eo B p.bg) rfl t;exact h i (J Y I.fr).1
variable{E:St->XK}{o e c:Expr}{es:List Expr}{pos apos:TD}{m:Pj}{k n:Nat}{f C:Oq}{fd:O5}{ps:List Pj}{a sts:List Qe}{t:Dn->M Bool}{g h:FL}
theorem cw.pre{K:OU}(t:To F H H1 β1)(h:cw K F H1 H' ds v):cw K F H H' ds v:=by
 obtain⟨a,xs,b,d,r⟩:=h;exact⟨a,xs,b,t.none d,r⟩
def DM(t:Dn->M Bool)(g h:FL):FL:=λδ=>M.bind (t δ) λc=>if c=On then g δ else h δ
theorem No(q:PT X c (hE X.K t E))(ha:PSs X a (ng (x_ X.K g E)))(u:PSs X sts (ng (x_ X.K h E))):PSs X (.If c a [] pos::sts) (ng (x_ X.K (DM t g h) E)):=
 (cm (wL q ha ml) u).imp λD y H j=>lk j λF δ β fr l r=>⟨F,δ,β,fr,l,(run.bind (R:=λ_ (a b:Bool)=>b=a) r).mono λv p j=>by
  obtain⟨d,β1,t,hd,r0,β2,e,r1⟩:=j;subst hd;have i:run (cw X.K F p) F E y (if v=On then _ else _) p _ β1:=⟨r0,β2,e,by
   cases r0 with
   |error C=>exact r1
   |ok d=>exact λv A B I=>r1 v A B (I.pre t)⟩
  cases v with
  |true=>rw[OA rfl]at i⊢;exact⟨F,δ,β1,t.fr,l.tr (t.tr fr),i⟩
  |false=>rw[Ot OE]at i⊢;exact⟨F,δ,β1,t.fr,l.tr (t.tr fr),i⟩⟩
theorem yX{g:FL}{d:List D}(c:ri X.K C)(hm:pq X.K C m f)(G:fw X.prog X.w X.K X.mg X.base (hO X.prog X.w) k f fd ps (Y7 X.K (cw X.K) n mf))(p:en k X.A)(q:dE X.K fd ps d)(u:cK (hO X.prog X.w) X E)
  (v:PE X o (tV X.K fo E)) (ha:PA X (e::es) (j1 X.K g E)) (hn:∀δ β r l,g δ β=on (.ok r,l)->r.length+d.length+1=n)
  (i:OJ (e::es) X.env=(Os,PZ e X.env)::OJ es X.env:=by rfl) (j:(QX pos (OJ es X.env)).any (·.1)=Os:=by rfl)
  (y:PZ (.Call (.Attribute o m apos) (e::es) [] pos) X.env=(do
   let ov <-PZ o X.env
   Si apos.atName
   let (f,first) <-SN [ov] (UL ov m pl)
   W1 pos f first (QX pos (OJ (e::es) X.env)) (RI pos (QD [] X.env))):=by rfl):
  PE X (.Call (.Attribute o m apos) (e::es) [] pos) (x_ X.K (mI C m mf fo g d) E):=by
 obtain⟨ds,B,b,F,rd⟩:=q;exact(vq (pl:=pl) v c hm G p b F u ha i j y).imp λI H Q h=>nK cw.pre rd hn h
def DL(g:FL):FD:=λδ=>M.bind (g δ) λds=>M.ret (.lst ds)
theorem Nb(h:PE X e (x_ X.K g E)):PE X e (tV X.K (DL g) E):=h.imp λq H Q b=>lk b λF δ β fr d r=>⟨F,δ,β,fr,d,(run.bind (R:=cw X.K F H) r).mono λv u b=>o0 b λds β1 t i r1=>by
 obtain⟨a,xs,rfl,j,l,p⟩:=i;exact run.ret t.fr r1 ⟨a,xs,rfl,⟨λz=>fr.occ a z j,.inl l⟩,bb.tr Fx.tr_of _ _ p⟩⟩
theorem GJ{c:Bool}(b:t δ β=on (.ok c,β1))(d:(if c=On then g δ else h δ) β1=on r):DM t g h δ β=on r:=by
 unfold DM;rw[M.bind_ok b];exact d
theorem DS(e:cf nv dc it tg tt b δ β=on (.ok (.lst ds),β1)):eL nv dc it tg tt b δ β=on (.ok ds,β1):=by
 unfold cf at e;unfold eL;split at e
 .cases e
 .cases e
 .rename_i d
  split at e
  .rename_i i
   split at e
   .rename_i q
    cases e;simp only[d,i,OA q]
   .cases e
  all_goals cases e
theorem M2(e:g δ β=on (.ok ds,β1)):DL g δ β=on (.ok (.lst ds),β1):=by
 unfold DL;rw[M.bind_ok e];rfl
def LC(i j:Nat):Ds->M (List D):=λδ=>match δ.getD i Oi,δ.getD j Oi with
 |some (.own ds),on (.sh d)=>M.ofO ((la (.lst ds) d).bind cW)
 |_,_=>M.fail
theorem Kz{g:G}(l:kn X.K tgg tg)(h:PS X (.For tgt iter body [] pos) (wv (LB X.K (Wi (tE X.K) (jI i) (jI j))) tgg (tG X.K X.H₀ g E))):PS X (.For tgt iter body [] pos) (tG X.K X.H₀ (mG (LC i j) tg g) E):=yt (λ{B bg H δ β N R} ok r=>by
 unfold LC at r;split at r
 .rename_i ds d b p
  obtain⟨es,e,k⟩:=run.ofO r;obtain⟨v,u,a,ys,rfl,_,y,A⟩:=ok.tell i _ (getD_some b);obtain⟨w,F,I⟩:=ok.tell j _ (getD_some p);cases d<;>first|cases e|skip
  rename_i n;cases(show c4 X.K (eo B bg) H (.int n) w from I).int;cases q:o1 ds n with
  |none=>rw[show la (.lst ds) (.int n)=o1 ds n from rfl,q]at e;cases e
  |some c=>
   rw[show la (.lst ds) (.int n)=o1 ds n from rfl,q]at e;obtain⟨v,J,hd⟩:=uK A q;refine⟨_,u,_,F,a,ys,n,v,rfl,rfl,fy.of y,J,?_⟩;cases c<;>first
    |(cases e;obtain⟨a,xs,rfl,sq,L⟩:=c4.sqL hd;exact .inl ⟨a,rfl,⟨xs,sq⟩,k _ H (To.refl ok.fr) (uk hd)⟩)
    |(cases e;obtain⟨a,xs,rfl,sq,L⟩:=c4.sqT hd;exact .inr ⟨a,rfl,⟨xs,sq⟩,k _ H (To.refl ok.fr) (vL hd)⟩)
    |cases e
 .obtain⟨_,_,e,_⟩:=r
  cases e) l h
end
end L2.Pu
namespace L2.Pu
open PySem L2.Hs
def j4(k:List Int):LI->LI
 |[]=>[k]
 |x::l=>if cJ k x=On then k::x::l else if k=x then x::l else x::j4 k l
theorem mm:∀{l:LI},y∈j4 k l↔y=k\/y∈l
 |[]=>by simp[j4]
 |x::l=>by
  unfold j4;split
  .simp
  .split
   .rename_i h
    subst h;simp
   .rw[OK,mm,OK]
    exact or_left_comm
theorem vN:∀{l:LI},Up l->Up (j4 k l)
 |[],_=>by unfold j4;exact SH _ _
 |x::l,h=>by
  obtain⟨a,b⟩:=SE.mp h;unfold j4;split
  .rename_i q
   refine SE.mpr ⟨λy hy=>?_,h⟩;rcases OK.mp hy with rfl|hy
   .exact q
   .exact o8 q (a y hy)
  .split
   .exact h
   .rename_i q1 q2
    refine SE.mpr ⟨λy hy=>?_,vN b⟩;rcases mm.mp hy with rfl|hy
    .cases q:cJ x y with
     |true=>rfl
     |false=>exact OX (mx (by simpa using q1) q) q2
    .exact a y hy
def kI(ks:LI):LI:=ks.foldr j4 []
theorem l8:∀ks,Up (kI ks)
 |[]=> .nil
 |k::ks=>vN (l8 ks)
theorem dO:∀{ks:LI},y∈kI ks↔y∈ks
 |[]=>by simp[kI]
 |k::ks=>by
  show y∈j4 k (kI ks)↔_;rw[mm,dO,OK]
theorem GT{l:LI}(h:Up l):l.Nodup:=h.imp λ{a b} q e=>by
 subst e;rw[gW]at q;cases q
theorem Kq{ks:LI}(b:∀k∈ks,1<=k.length){m:LI}(hm:m.length<63)(c:∀k∈ks,k∈m):fj (ks.map ln)=on (.lst ((kI ks).map ln)):=by
 refine sL ⟨l8 ks,Ql (nd_len (GT (l8 ks)) λx e=>c x (dO.mp e)) hm,λk a=>⟨b k (dO.mp a),OC.mpr ⟨k,dO.mp a,rfl⟩⟩,λd hd=>?_⟩;obtain⟨k,a,rfl⟩:=OC.mp hd;exact⟨k,dO.mpr a,rfl⟩
end L2.Pu
namespace L2.Nt
noncomputable def sm{α:Type}(l:List α)(f:α->Nat):Nat:=(l.map f).sum
section
variable{α β:Type}
theorem yh{f:α->Nat}:sm [] f=0:=rfl
theorem bH{a:α}{l:List α}{f:α->Nat}:sm (a::l) f=f a+sm l f:=by unfold sm;rw[OG,O3]
theorem sM{l m:List α}{f:α->Nat}:sm (l++m) f=sm l f+sm m f:=by unfold sm;rw[Pd,VP]
theorem cY:∀{l:List α},(∀a∈l,f a=g a)->sm l f=sm l g
 |[],_=>rfl
 |a::l,h=>by rw[bH,bH,h a Ox,cY λb c=>h b (Op a c)]
theorem oC{g:β->α}{f:α->Nat}{l:List β}:sm (l.map g) f=sm l λb=>f (g b):=by unfold sm;rw[Oy];rfl
theorem md{g:β->List α}{f:α->Nat}:∀{l:List β},sm (l.flatMap g) f=sm l λb=>sm (g b) f
 |[]=>rfl
 |b::l=>by rw[PL,sM,bH,md]
theorem u4:∀{l:List α},(sm l λ_=>0)=0
 |[]=>rfl
 |a::l=>by rw[bH,u4]
theorem yi:∀{l:List α},(sm l λa=>f a+g a)=sm l f+sm l g
 |[]=>rfl
 |a::l=>by rw[bH,bH,bH,yi];omega
theorem kJ:∀{l:List α},(sm l λa=>c*f a)=c*sm l f
 |[]=>rfl
 |a::l=>by rw[bH,bH,kJ,Nat.mul_add]
theorem GZ:∀{n:Nat},m<=n->sm (Oz (m+1)) f=sm (Oz (n+1)) λa=>if a<=m then f a else 0
 |0,h=>by
  obtain rfl:m=0:=by omega
  exact cY λa ha=>by
   have:=OV.mp ha;rw[OA (by omega)]
 |n+1,h=>by
  rcases Vu m (n+1)with q|q
  .rw[Ro (n:=n+1),sM,<-GZ (by omega:m<=n),bH,yh,Ot (by omega)]
   omega
  .obtain rfl:m=n+1:=by omega
   exact cY λa ha=>by
    have:=OV.mp ha;rw[OA (by omega)]
noncomputable def bZ:List Nat->Nat->List (List Nat)
 |[],0=>[[]]
 |[],_+1=>[]
 |x::r,c=>(Oz (RK x c+1)).flatMap λa=>(bZ r (c-a)).map (a::·)
noncomputable def less(r v:List Nat):List Nat:=Tw (·-·) r v
theorem xT:sm (bZ (x::r) c) f=sm (Oz (RK x c+1)) λa=>sm (bZ r (c-a)) λv=>f (a::v):=by
 show sm ((Oz (RK x c+1)).flatMap λa=>(bZ r (c-a)).map (a::·)) f=_;rw[md];exact cY λa _=>oC
end
end L2.Nt
namespace L2.Nt
open L2.Pu
noncomputable def ch:Nat->Nat->Nat
 |_,0=>1
 |0,_+1=>0
 |n+1,k+1=>ch n k+ch n (k+1)
theorem pM:∀{n k:Nat},n<k->ch n k=0
 |0,k+1,_=>by simp[ch]
 |n+1,k+1,h=>by
  show ch n k+ch n (k+1)=0;rw[pM (by omega),pM (by omega)]
theorem qw(n:Nat):ch n 0=1:=by cases n<;>rfl
theorem v8:∀n,ch n n=1
 |0=>rfl
 |n+1=>by
  show ch n n+ch n (n+1)=1;rw[v8 n,pM (by omega)]
theorem xy(n:Nat):d4 (n+1)=(n+1)*d4 n:=RH (d4 n) (n+1)
theorem lI:∀n a b:Nat,a+b=n->ch (a+b) a*(d4 a*d4 b)=d4 (a+b)
 |n,0,b,_=>by rw[qw];simp[d4]
 |n,a+1,0,_=>by rw[Nat.add_zero,v8];simp[d4]
 |0,a+1,b+1,h=>by omega
 |n+1,a+1,b+1,h=>by
  have c:=lI n a (b+1) (by omega);have d:=lI n (a+1) b (by omega);have e:a+1+(b+1)=(a+b+1)+1:=by omega
  have f:a+(b+1)=a+b+1:=by omega
  have g:a+1+b=a+b+1:=by omega
  rw[f]at c;rw[g]at d;rw[e];show(ch (a+b+1) a+ch (a+b+1) (a+1))*(d4 (a+1)*d4 (b+1))=d4 (a+b+1+1);rw[xy (a+b+1),Xv];have i:ch (a+b+1) a*(d4 (a+1)*d4 (b+1))=(a+1)*d4 (a+b+1):=by
   rw[<-c,xy a];simp only[Te,SR,RH]
  have j:ch (a+b+1) (a+1)*(d4 (a+1)*d4 (b+1))=(b+1)*d4 (a+b+1):=by
   rw[<-d,xy b];simp only[Te,SR,RH]
  rw[i,j,<-Xv,show a+1+(b+1)=a+b+1+1 by omega]
theorem ma:sm (Oz (n+1)) f=f 0+sm (Oz n) λa=>f (a+1):=by
 rw[WM,bH,oC]
theorem AN:∀(x y c:Nat),(sm (Oz (c+1)) λa=>ch x a*ch y (c-a))=ch (x+y) c
 |0,y,c=>by
  rw[ma,qw,Nat.one_mul,WU,QJ];have:(sm (Oz c) λa=>ch 0 (a+1)*ch y (c-(a+1)))=0:=(cY λa _=>by rw[pM (by omega),WV]).trans u4;rw[this];rfl
 |x+1,y,0=>by rw[ma];simp[qw,yh]
 |x+1,y,c+1=>by
  have b:=AN x y (c+1);have d:=AN x y c;rw[ma]at b;rw[ma];have e:(sm (Oz (c+1)) λa=>ch (x+1) (a+1)*ch y (c+1-(a+1)))=(sm (Oz (c+1)) λa=>ch x a*ch y (c-a))+sm (Oz (c+1)) λa=>ch x (a+1)*ch y (c+1-(a+1)):=by
   rw[<-yi];refine cY λa _=>?_;show(ch x a+ch x (a+1))*_=_;rw[Xv,Nat.add_sub_add_right]
  rw[e,d];have f:x+1+y=x+y+1:=by omega
  rw[f];show _=ch (x+y) c+ch (x+y) (c+1);rw[<-b,qw,qw];omega
theorem vdm(x y c:Nat):(sm (Oz (RK x c+1)) λa=>ch x a*ch y (c-a))=ch (x+y) c:=by
 rw[GZ (VE x c),<-AN];refine cY λa ha=>?_;have:=OV.mp ha;by_cases q:a<=x
 .rw[OA (by omega)]
 .rw[Ot (by omega),pM (by omega),WV]
def pc:List Nat->List Nat->Nat
 |x::r,a::v=>ch x a*pc r v
 |_,_=>1
theorem yQ:∀(r:List Nat) (c:Nat),sm (bZ r c) (pc r)=ch r.sum c
 |[],0=>rfl
 |[],c+1=>rfl
 |x::r,c=>by
  rw[xT,O3,<-vdm];exact cY λa _=>by rw[<-yQ r (c-a),<-kJ];rfl
theorem hX:∀{r:List Nat} {c:Nat} {v:List Nat},v∈bZ r c->v.sum=c/\(less r v).sum+c=r.sum/\v.length=r.length/\pr (r.map d4)=pc r v*(pr (v.map d4)*pr ((less r v).map d4))
 |[],0,v,h=>by cases O6.mp h;exact⟨rfl,rfl,rfl,rfl⟩
 |[],c+1,v,h=>by cases h
 |x::r,c,v,h=>by
  have h':v∈(Oz (RK x c+1)).flatMap λa=>(bZ r (c-a)).map (a::·):=h;obtain⟨a,ha,d⟩:=PX.mp h';obtain⟨u,e,rfl⟩:=OC.mp d;have f:=OV.mp ha;obtain⟨g,i,j,k⟩:=hX e;refine⟨by rw[O3,g];omega,?_,by rw[OO,j,OO],?_⟩
  .show((x-a)::less r u).sum+c=_
   rw[O3,O3,<-i];omega
  .show d4 x*pr (r.map d4)=(ch x a*pc r u)*((d4 a*pr (u.map d4))*(d4 (x-a)*pr ((less r u).map d4)))
   have b:=lI x a (x-a) (by omega);rw[show a+(x-a)=x by omega]at b;rw[k,<-b];simp only[Te,SR,RH]
def mu:List Nat->Nat
 |[]=>1
 |x::r=>ch (x+r.sum) x*mu r
theorem ik:∀r:List Nat,mu r*pr (r.map d4)=d4 r.sum
 |[]=>rfl
 |x::r=>by
  show(ch (x+r.sum) x*mu r)*(d4 x*pr (r.map d4))=d4 (x::r).sum;rw[O3,<-lI _ x r.sum rfl,<-ik r];simp only[Te,SR,RH]
theorem qc(r:List Nat):0<pr (r.map d4):=tH λx a=>by
 obtain⟨n,_,rfl⟩:=OC.mp a;exact jw n
theorem Lk(r:List Nat):d4 r.sum/pr (r.map d4)=mu r:=by rw[<-ik,Nat.mul_div_cancel _ (qc r)]
def Yx:List Nat->List Nat->Nat
 |_,[]=>1
 |r,c::cs=>sm (bZ r c) λv=>mu v*Yx (less r v) cs
theorem GG:∀{r:List Nat},r.sum=0->mu r=1
 |[],_=>rfl
 |x::r,h=>by
  rw[O3]at h;obtain rfl:x=0:=by omega
  show ch _ 0*mu r=1;rw[qw,GG (by omega)]
theorem pJ:∀(cs r:List Nat),r.sum=cs.sum->Yx r cs=mu r
 |[],r,h=>(GG h).symm
 |c::cs,r,h=>by
  rw[O3]at h;refine Nat.eq_of_mul_eq_mul_right (qc r) ?_;rw[ik];show sm (bZ r c) (λv=>mu v*Yx (less r v) cs)*_=_;rw[RH,<-kJ];have e:(sm (bZ r c) λv=>pr (r.map d4)*(mu v*Yx (less r v) cs))=sm (bZ r c) λv=>(d4 c*d4 (r.sum-c))*pc r v:=by
   refine cY λv a=>?_;obtain⟨b,f,g,d⟩:=hX a;rw[pJ cs (less r v) (by omega),d];have m1:=ik v;have m2:=ik (less r v);rw[b]at m1;rw[show(less r v).sum=r.sum-c by omega]at m2;rw[<-m1,<-m2];simp only[Te,SR,RH]
  rw[e,kJ,yQ,RH];have:=lI r.sum c (r.sum-c) (by omega);rw[show c+(r.sum-c)=r.sum by omega]at this;exact this
def lg:List Nat->List Nat->Prop
 |[],[]=>True
 |a::v,x::r=>a<=x/\lg v r
 |_,_=>False
theorem lg.refl:∀r,lg r r
 |[]=>trivial
 |_::r=>⟨OD _,lg.refl r⟩
theorem lg.tr:∀{u v r:List Nat},lg u v->lg v r->lg u r
 |[],[],[],_,_=>trivial
 |_::_,_::_,_::_,h,q=>⟨OP h.1 q.1,h.2.tr q.2⟩
 |[],_::_,_,h,_=>h.elim
 |_::_,[],_,h,_=>h.elim
 |[],[],_::_,_,q=>q.elim
 |_::_,_::_,[],_,q=>q.elim
theorem lg.len:∀{v r:List Nat},lg v r->v.length=r.length
 |[],[],_=>rfl
 |_::_,_::_,h=>Px (·+1) h.2.len
 |[],_::_,h=>h.elim
 |_::_,[],h=>h.elim
theorem lg.less:∀{v r:List Nat},lg v r->lg (less r v) r
 |[],[],_=>trivial
 |a::v,x::r,h=>⟨Nat.sub_le x a,h.2.less⟩
 |[],_::_,h=>h.elim
 |_::_,[],h=>h.elim
theorem lg.pr:∀{v r:List Nat},lg v r->L2.Pu.pr (v.map (·+1))<=L2.Pu.pr (r.map (·+1))
 |[],[],_=>OD _
 |_::_,_::_,h=>Nat.mul_le_mul (Nat.succ_le_succ h.1) h.2.pr
 |[],_::_,h=>h.elim
 |_::_,[],h=>h.elim
theorem lg.sum:∀{v r:List Nat},lg v r->v.sum<=r.sum
 |[],[],_=>OD _
 |_::_,_::_,h=>by rw[O3,O3];exact We h.1 h.2.sum
 |[],_::_,h=>h.elim
 |_::_,[],h=>h.elim
theorem cP:∀{r:List Nat} {c:Nat} {v:List Nat},v∈bZ r c->lg v r
 |[],0,v,h=>by cases O6.mp h;exact trivial
 |[],c+1,v,h=>by cases h
 |x::r,c,v,h=>by
  have h':v∈(Oz (RK x c+1)).flatMap λa=>(bZ r (c-a)).map (a::·):=h;obtain⟨a,ha,b⟩:=PX.mp h';obtain⟨u,d,rfl⟩:=OC.mp b;have e:=OV.mp ha;exact⟨by omega,cP d⟩
theorem jW:∀{r v:List Nat},lg v r->v∈bZ r v.sum
 |[],[],_=>O6.mpr rfl
 |x::r,a::v,h=>by
  refine PX.mpr ⟨a,OV.mpr (by rw[O3];have:=h.1;omega),OC.mpr ⟨v,?_,rfl⟩⟩;rw[O3,Ux];exact jW h.2
 |[],_::_,h=>h.elim
 |_::_,[],h=>h.elim
theorem gY{α a:Type}{f:α->List a}{n:Nat}:∀{l:List α},(∀x∈l,(f x).length<=n)->(l.flatMap f).length<=l.length*n
 |[],_=>by simp
 |x::l,h=>by
  rw[PL,ON,OO,Nat.succ_mul,Vt];exact We (gY λy b=>h y (Op _ b)) (h x Ox)
theorem jG:∀(r:List Nat) (c:Nat),(bZ r c).length<=pr (r.dropLast.map (·+1))
 |[],0=>OD _
 |[],_+1=>PV _
 |[x],c=>by
  have h:bZ [x] c=(Oz (RK x c+1)).flatMap λa=>(bZ [] (c-a)).map (a::·):=rfl;rw[h,Ro,QI,ON];have e:((Oz (RK x c)).flatMap λa=>(bZ [] (c-a)).map (a::·))=[]:=by
   refine SG.mpr λa ha=>?_;have:=OV.mp ha;obtain⟨n,hn⟩:∃n,c-a=n+1:=⟨c-a-1,by omega⟩;rw[hn];rfl
  rw[e];cases q:c-RK x c<;>simp[bZ,q,pr]
 |x::y::r,c=>by
  have h:=gY (l:=Oz (RK x c+1)) (f:=λa=>(bZ (y::r) (c-a)).map (a::·)) (n:=pr ((y::r).dropLast.map (·+1))) λa _=>by rw[Oh];exact jG (y::r) (c-a)
  rw[OW]at h;refine OP h ?_;show _<=(x+1)*pr ((y::r).dropLast.map (·+1));exact Tg _ (by omega)
theorem j8{α β a:Type}{f:α->List β}{g:β->List a}(l:List α):(l.flatMap f).flatMap g=l.flatMap λx=>(f x).flatMap g:=List.flatMap_assoc
theorem rJ(r:List Nat)(k:Nat):pr ((r.take k).map (·+1))<=pr (r.map (·+1)):=by
 conv=>rhs;rw[<-Ri k r,Pd,yI]
 exact Uy _ (tH λx a=>by
  obtain⟨n,_,rfl⟩:=OC.mp a;omega)
theorem rM(l:List Nat):(nI l).map Int.toNat=l:=by
 rw[Oy];exact(O1 λx _=>rfl).trans (UR l)
theorem gj(h:nI l=nI m):l=m:=by rw[<-rM l,h,rM]
theorem za{α a:Type}{f:α->a}{l:List α}(h:(l.map f).Nodup):l.Nodup:=(T9.mp h).imp λq e=>q (Px f e)
theorem zb{α c:Type}{f:α->c}(inj:∀a b,f a=f b->a=b){l:List α}(h:l.Nodup):(l.map f).Nodup:=T9.mpr (h.imp λq e=>q (inj _ _ e))
theorem iU{cs:List Nat}(h:k<cs.length):cs.drop k=cs.getD k 0::cs.drop (k+1):=by
 rw[P9 h,Om,Oo h];rfl
noncomputable def G_:List (Nat×Nat)->List Nat->Bool
 |p::ps,a::v=>decide (p.1<=a)&&decide (a<=p.2)&&G_ ps v
 |_,_=>On
def vB(ps:List (Nat×Nat))(r:List Nat)(c:Nat):List (List Nat):=(bZ r c).filter (G_ ps)
theorem Kb(h:v∈vB ps r c):v∈bZ r c:=(SB.mp h).1
theorem pX{p:Nat×Nat}:vB (p::ps) (x::r) c=(Oz (RK x c+1)).flatMap λa=>if p.1<=a/\a<=p.2 then(vB ps r (c-a)).map (a::·)else[]:=by
 show((Oz (RK x c+1)).flatMap λa=>(bZ r (c-a)).map (a::·)).filter (G_ (p::ps))=_;rw[Xs];refine Px (WK · _) (funext λa=>?_);rw[VN];by_cases q:p.1<=a/\a<=p.2
 .rw[OA q]
  refine Px (PQ (a::·)) (Vp λv _=>?_);show(decide (p.1<=a)&&decide (a<=p.2)&&G_ ps v)=G_ ps v;rw[OL q.1,OL q.2];rfl
 .rw[Ot q,WJ.mpr,RE]
  intro v _ h;have h:(decide (p.1<=a)&&decide (a<=p.2)&&G_ ps v)=On:=h;simp only[O9,Po]at h;exact q h.1
noncomputable def lK:List (Nat×Nat)->List Nat->List Nat
 |p::ps,x::r=>RK x p.2::lK ps r
 |_,_=>[]
noncomputable def lw(ps:List (Nat×Nat)):List Nat:=ps.map (·.1)
theorem GS:∀{ps:List (Nat×Nat)} {r:List Nat} {c:Nat} {v:List Nat},ps.length=r.length->v∈vB ps r c->(lw ps).sum<=c/\c<=(lK ps r).sum
 |[],[],c,v,_,h=>by
  have:=hX (Kb h);simp at this;simp[lw,lK];omega
 |p::ps,x::r,c,v,e,h=>by
  rw[pX]at h;obtain⟨a,ha,h⟩:=PX.mp h;by_cases q:p.1<=a/\a<=p.2
  .rw[OA q]at h
   obtain⟨u,b,rfl⟩:=OC.mp h;have i:=GS (by simpa using e) b;have:=OV.mp ha;simp only[lw,lK,OG,O3]at i⊢;omega
  .rw[Ot q]at h;cases h
noncomputable def YQ(x:Nat)(p:Nat×Nat)(few a:Nat)(b:List Nat×Nat):List (List Nat×Nat):=(Oz (RK (RK x p.2+few) b.2+1-few-WN p.1 (b.2-a))).map λi=>(b.1++[WN p.1 (b.2-a)+i],b.2-(WN p.1 (b.2-a)+i))
def nj(ps:List (Nat×Nat))(r:List Nat)(c:Nat):Nat->List (List Nat×Nat)
 |0=>[([],c)]
 |k+1=>(nj ps r c k).flatMap (YQ (r.getD k 0) (ps.getD k (0,0)) ((lw ps).drop (k+1)).sum ((lK ps r).drop (k+1)).sum)
theorem lD{b:Type}{f:Nat->List b}{lo n N:Nat}(h:∀a<N,f a≠[]->lo<=a/\a<n)(hn:n<=N):(Oz N).flatMap f=(Oz (n-lo)).flatMap λi=>f (lo+i):=by
 have e:∀{a},a<N->¬(lo<=a/\a<n)->f a=[]:=λ{a} ha q=>R3 λz=>q (h a ha z);obtain⟨d,rfl⟩:∃d,N=n+d:=⟨N-n,by omega⟩;have z:(Oz d).flatMap (λa=>f (n+a))=[]:=SG.mpr λa ha=>e (by have:=OV.mp ha;omega) (by omega);rw[List.range_add,QI,S3,z,Pf];rcases Nat.le_total lo n with q|q
 .obtain⟨m,rfl⟩:∃m,n=lo+m:=⟨n-lo,by omega⟩
  rw[List.range_add,QI,SG.mpr λa ha=>e (by have:=OV.mp ha;omega) (by have:=OV.mp ha;omega),Q3,S3,Ux]
 .rw[show n-lo=0 by omega,SG.mpr λa ha=>e (by have:=OV.mp ha;omega) (by have:=OV.mp ha;omega)];rfl
theorem sG:∀{ps:List (Nat×Nat)} {r:List Nat} (k:Nat),lK (ps.drop k) (r.drop k)=(lK ps r).drop k
 |_,_,0=>rfl
 |[],r,k+1=>by simp[lK]
 |p::ps,[],k+1=>by cases h:(ps.drop k)<;>simp[lK,h]
 |p::ps,x::r,k+1=>sG k
theorem dL{α:Type}{l:List α}{k:Nat}{d:α}(h:k<l.length):l.getD k d=l[k]:=by rw[Om,Oo h];rfl
theorem cy{α a:Type}{f g:α->List a}:∀{l:List α},(∀x∈l,f x=g x)->l.flatMap f=l.flatMap g
 |[],_=>rfl
 |x::l,h=>by rw[PL,PL,h x Ox,cy λy b=>h y (Op _ b)]
theorem u3{ps:List (Nat×Nat)}{r:List Nat}(e:ps.length=r.length)(c:Nat):∀k,k<=r.length->((nj ps r c k).flatMap λb=>(vB (ps.drop k) (r.drop k) b.2).map (b.1++·))=vB ps r c
 |0,_=>by simp[nj]
 |k+1,h=>by
  rw[<-u3 e c k (by omega)];show((nj ps r c k).flatMap _).flatMap _=_;rw[j8];refine Px (WK · (nj ps r c k)) (funext λb=>?_);have g:k<r.length:=by omega
  have j:k<ps.length:=by omega
  rw[P9 g,P9 j,dL g,dL j,pX,QS];rw[lD (f:=λa=>(if ps[k].1<=a/\a<=ps[k].2 then(vB (ps.drop (k+1)) (r.drop (k+1)) (b.2-a)).map (a::·)else[]).map (b.1++·)) (N:=RK r[k] b.2+1) (lo:=WN ps[k].1 (b.2-((lK ps r).drop (k+1)).sum)) (n:=RK (RK r[k] b.2+1) (RK (RK r[k] ps[k].2+((lw ps).drop (k+1)).sum) b.2+1-((lw ps).drop (k+1)).sum)) (λa o ha=>?_) (Nat.min_le_left _ _)]
  .unfold YQ
   rw[S3,show RK (RK r[k] b.2+1) (RK (RK r[k] ps[k].2+((lw ps).drop (k+1)).sum) b.2+1-((lw ps).drop (k+1)).sum)=RK (RK r[k] ps[k].2+((lw ps).drop (k+1)).sum) b.2+1-((lw ps).drop (k+1)).sum by omega];refine cy λi l=>?_;have:=OV.mp l;rw[OA (by omega),Oy];exact O1 λv _=>by simp
  .by_cases q:ps[k].1<=a/\a<=ps[k].2
   .rw[OA q]at ha
    obtain⟨w,d⟩:=List.exists_mem_of_ne_nil _ ha;obtain⟨w,d,_⟩:=OC.mp d;obtain⟨v,m,_⟩:=OC.mp d;have:=GS (by simp[e]) m;rw[sG]at this;unfold lw at this⊢;rw[Rv]at this;omega
   .rw[Ot q]at ha;exact OX rfl ha
theorem Ka(c:Nat):vB [] [] c=if(c:Int)=0 then[[]]else[]:=by
 cases c with
 |zero=>rfl
 |succ n=>rw[Ot (by omega)];rfl
theorem IX{ps:List (Nat×Nat)}{r:List Nat}(a:ps.length=r.length)(c:Nat):((nj ps r c r.length).filter λb=>decide ((b.2:Int)=0)).map (·.1)=vB ps r c:=by
 rw[<-u3 a c r.length (OD _),SY,<-a,SY,a];generalize nj ps r c r.length=l
 induction l with
 |nil=>rfl
 |cons b l ih=>
  rw[PL,SZ,<-ih,Ka];by_cases q:(b.2:Int)=0
  .rw[OA q,OA (OL q)];simp
  .rw[Ot q,Ot (by simp;omega)];rfl
theorem uZ{r:List Nat}(c:Nat):∀k,k<=r.length->(nj ps r c k).length<=pr ((r.take k).map (·+1))
 |0,_=>OD _
 |k+1,h=>by
  have e:r[k]?=on r[k]:=Oo (by omega);rw[gU e];refine OP (gY (n:=r[k]+1) λb _=>?_) (Tg _ (uZ c k (by omega)));unfold YQ;rw[Oh,OW,dL (show k<r.length by omega)];omega
theorem ye(ps:List (Nat×Nat))(r:List Nat)(c:Nat):∀k,∀b∈nj ps r c k,b.2<=c/\b.1.length=k
 |0,b,h=>by cases O6.mp h;exact⟨OD _,rfl⟩
 |k+1,b,h=>by
  obtain⟨d,hd,a⟩:=PX.mp (show b∈(nj ps r c k).flatMap _ from h);obtain⟨i,_,rfl⟩:=OC.mp a;obtain⟨q1,q2⟩:=ye ps r c k d hd;exact⟨by show d.2-_<=c;omega,by rw[ON,q2];rfl⟩
theorem xZ:∀{ps:List (Nat×Nat)} {r:List Nat},(lK ps r).sum<=r.sum
 |[],r=>PV _
 |_::_,[]=>OD _
 |p::ps,x::r=>by
  have:=xZ (ps:=ps) (r:=r);simp only[lK,O3];omega
abbrev Wy:=Nat->List Nat->List (List Nat)
def Iv(cs:List Nat)(W:Wy):Prop:=∀k r,(W k r).Sublist (bZ r (cs.getD k 0))
def W_(W:Wy)(L:List (List Nat))(k:Nat):LI:=L.flatMap λr=>(W k r).map λv=>nI (less r v)
def YF(W:Wy)(L:List (List Nat))(k:Nat):List (List Nat):=(kI (W_ W L k)).map λk=>k.map Int.toNat
section
variable{W:Wy}{cs rs:List Nat}
theorem fW:y∈W_ W L k↔∃r∈L,∃v∈W k r,y=nI (less r v):=by
 unfold W_;constructor
 .intro h
  obtain⟨r,a,h⟩:=PX.mp h;obtain⟨v,b,rfl⟩:=OC.mp h;exact⟨r,a,v,b,rfl⟩
 .rintro⟨r,a,v,b,rfl⟩
  exact PX.mpr ⟨r,a,OC.mpr ⟨v,b,rfl⟩⟩
theorem wP(L:List (List Nat))(k:Nat):(YF W L k).map nI=kI (W_ W L k):=by
 unfold YF;rw[Oy];refine(O1 λy a=>?_).trans (UR _);obtain⟨r,_,v,_,rfl⟩:=fW.mp (dO.mp a);show nI ((nI _).map Int.toNat)=_;rw[rM];rfl
theorem fV:u∈YF W L k↔∃r∈L,∃v∈W k r,u=less r v:=by
 constructor
 .intro h
  have:nI u∈kI (W_ W L k):=by rw[<-wP];exact OC.mpr ⟨u,h,rfl⟩
  obtain⟨r,a,v,b,e⟩:=fW.mp (dO.mp this);exact⟨r,a,v,b,gj e⟩
 .rintro⟨r,a,v,b,rfl⟩
  exact OC.mpr ⟨nI (less r v),dO.mpr (fW.mpr ⟨r,a,v,b,rfl⟩),rM _⟩
def hL(W:Wy)(rs:List Nat):Nat->List (List Nat)
 |0=>[rs]
 |k+1=>YF W (hL W rs k) k
theorem tZ:∀k,(hL W rs k).Nodup
 |0=>SH _ _
 |k+1=>za (f:=nI) (by show(PQ nI (YF _ _ _)).Nodup;rw[wP];exact GT (l8 _))
theorem im(b:Iv cs W)(hs:rs.sum=cs.sum):∀k,k<=cs.length->∀r∈hL W rs k,lg r rs/\r.sum=(cs.drop k).sum
 |0,_,r,h=>by cases O6.mp h;exact⟨lg.refl _,hs⟩
 |k+1,hk,u,h=>by
  obtain⟨r,c,v,a,rfl⟩:=fV.mp (show u∈YF W (hL W rs k) k from h);have a:=(b k r).subset a;obtain⟨q1,q2⟩:=im b hs k (by omega) r c;have q3:=(hX a).2.1;rw[q2,iU (by omega),O3]at q3;exact⟨(cP a).less.tr q1,by omega⟩
theorem JA(a:Iv cs W)(hs:rs.sum=cs.sum)(b:k<=cs.length):(hL W rs k).length<=pr (rs.dropLast.map (·+1)):=
 OP (nd_len (tZ k) (m:=bZ rs (cs.drop k).sum) λr c=>by
  obtain⟨d,e⟩:=im a hs k b r c;rw[<-e];exact jW d) (jG _ _)
theorem vA(a:Iv cs W)(hs:rs.sum=cs.sum)(e:1<=rs.length)(f:pr (rs.dropLast.map (·+1))<63)(g:k<cs.length):fj ((W_ W (hL W rs k) k).map ln)=on (.lst ((hL W rs (k+1)).map λr=>ln (nI r))):=by
 refine(Kq (m:=(bZ rs (cs.drop (k+1)).sum).map nI) ?_ (by rw[Oh];exact Ql (jG _ _) f) ?_).trans ?_
 .intro x b
  obtain⟨r,c,v,d,rfl⟩:=fW.mp b;rw[Oh,((cP ((a k r).subset d)).less.tr (im a hs k (by omega) r c).1).len];exact e
 .intro x b
  obtain⟨r,c,v,d,rfl⟩:=fW.mp b;obtain⟨q1,q2⟩:=im a hs (k+1) g (less r v) (fV.mpr ⟨r,c,v,d,rfl⟩);exact OC.mpr ⟨less r v,by rw[<-q2];exact jW q1,rfl⟩
 .rw[<-wP,Oy];rfl
def Ys(W:Wy)(rs:List Nat)(n:Nat):List (Int×List Int):=(Oz n).flatMap λk=>(hL W rs k).map λr=>((k:Int),nI r)
theorem zw:∀n,(Ys W rs n).Nodup
 |0=>V7
 |n+1=>by
  unfold Ys;rw[Ro,QI,PL,Us,Pf];refine T8.mpr ⟨zw n,zb (λr s e=>gj (Sh.mp e).2) (tZ n),λx a y b e=>?_⟩;subst e;obtain⟨k,c,h⟩:=PX.mp a;obtain⟨r,_,rfl⟩:=OC.mp h;obtain⟨s,_,e⟩:=OC.mp b;have:=(Sh.mp e).1;have d:=OV.mp c;simp only at this;omega
def o_(W:Wy):Nat->Nat->List Nat->Nat
 |0,_,_=>1
 |j+1,k,r=>sm (W k r) λv=>o_ W j (k+1) (less r v)
def H_(W:Wy):Nat->Nat->List Nat->Nat
 |0,_,_=>1
 |j+1,k,r=>sm (W k r) λv=>mu v*H_ W j (k+1) (less r v)
theorem oB{α:Type}{f g:α->Nat}{l m:List α}(h:l.Sublist m)(q:∀a∈m,f a<=g a):sm l f<=sm m g:=by
 induction h with
 |slnil=>exact OD _
 |cons a _ ih=>rw[bH];exact OP (ih λx b=>q x (Op _ b)) (Nat.le_add_left _ _)
 |cons_cons a _ ih=>rw[bH,bH];exact We (q a Ox) (ih λx b=>q x (Op _ b))
theorem zV(a:Iv cs W):∀(j k:Nat) (r:List Nat),k+j=cs.length->H_ W j k r<=Yx r (cs.drop k)
 |0,k,r,h=>by rw[show k=cs.length by omega,SY];exact OD _
 |j+1,k,r,h=>by
  rw[iU (by omega)];exact oB (a k r) λv _=>Nat.mul_le_mul_left _ (zV a j (k+1) (less r v) (by omega))
noncomputable def Ic:List (Nat×Nat)->List Nat->List (List Nat)
 |p::ps,x::r=>(Oz (RK p.2 x+1-p.1)).flatMap λi=>(Ic ps r).map ((p.1+i)::·)
 |_,_=>[[]]
theorem z9:∀{ps:List (Nat×Nat)} {r:List Nat} {c:Nat},ps.length=r.length->(Ic ps r).filter (λv=>decide (v.sum=c))=vB ps r c
 |[],[],c,_=>by cases c<;>rfl
 |p::ps,x::r,c,h=>by
  have h':ps.length=r.length:=by simpa using h
  rw[pX,lD (lo:=p.1) (n:=RK (RK x c+1) (RK p.2 x+1)) (N:=RK x c+1) (λa d ha=>?_) (Nat.min_le_left _ _)]
  .show((Oz (RK p.2 x+1-p.1)).flatMap λi=>(Ic ps r).map ((p.1+i)::·)).filter _=_
   rw[Xs];have e:∀i,List.filter (λv=>decide (v.sum=c)) ((Ic ps r).map ((p.1+i)::·))=if p.1+i<=c then(vB ps r (c-(p.1+i))).map ((p.1+i)::·)else[]:=λi=>by
    rw[VN];by_cases q:p.1+i<=c
    .rw[OA q,<-z9 h']
     refine Px (PQ _) (Vp λv _=>?_);show decide (((p.1+i)::v).sum=c)=_;rw[O3];exact decide_eq_decide.mpr (by omega)
    .rw[Ot q,WJ.mpr,RE]
     intro v _ z;have z:decide (((p.1+i)::v).sum=c)=On:=z;rw[O3,Po]at z;omega
   rw[cy λi _=>e i];rw[lD (f:=λi=>if p.1+i<=c then(vB ps r (c-(p.1+i))).map ((p.1+i)::·)else[]) (lo:=0) (n:=RK (RK x c+1) (RK p.2 x+1)-p.1) (N:=RK p.2 x+1-p.1) (λa ha q=>⟨PV _,?_⟩) (by omega),WU]
   .refine cy λi b=>?_
    have:=OV.mp b;rw[QJ,OA (by omega),OA (by omega)]
   .by_cases z:p.1+a<=c
    .omega
    .rw[Ot z]at q;exact OX rfl q
  .by_cases q:p.1<=a/\a<=p.2
   .omega
   .rw[Ot q]at ha;exact OX rfl ha
noncomputable def ms(ps:List (Nat×Nat))(r:List Nat):Nat->List (List Nat)
 |0=>[[]]
 |k+1=>(ms ps r k).flatMap λu=>(Oz (RK (ps.getD k (0,0)).2 (r.getD k 0)+1-(ps.getD k (0,0)).1)).map λi=>u++[(ps.getD k (0,0)).1+i]
theorem vS{ps:List (Nat×Nat)}{r:List Nat}(c:ps.length=r.length):∀k,k<=r.length->((ms ps r k).flatMap λu=>(Ic (ps.drop k) (r.drop k)).map (u++·))=Ic ps r
 |0,_=>by simp[ms]
 |k+1,h=>by
  rw[<-vS c k (by omega)];show((ms ps r k).flatMap _).flatMap _=_;rw[j8];refine cy λu _=>?_;have a:k<r.length:=by omega
  have b:k<ps.length:=by omega
  rw[P9 a,P9 b,dL a,dL b];show _=((Oz (RK ps[k].2 r[k]+1-ps[k].1)).flatMap λi=>(Ic (ps.drop (k+1)) (r.drop (k+1))).map ((ps[k].1+i)::·)).map (u++·);rw[QS,S3];refine cy λi _=>?_;rw[Oy];exact O1 λv _=>by simp
theorem vR{ps:List (Nat×Nat)}{r:List Nat}(a:ps.length=r.length):ms ps r r.length=Ic ps r:=by
 rw[<-vS a r.length (OD _),SY,<-a,SY];show _=(ms ps r ps.length).flatMap λu=>[u++[]];generalize ms ps r ps.length=l
 induction l with
 |nil=>rfl
 |cons x l ih=>rw[PL,<-ih,Pf];rfl
theorem vQ{r:List Nat}:∀k,k<=r.length->(ms ps r k).length<=pr ((r.take k).map (·+1))
 |0,_=>OD _
 |k+1,h=>by
  have e:r[k]?=on r[k]:=Oo (by omega);rw[gU e];refine OP (gY (n:=r[k]+1) λb _=>?_) (Tg _ (vQ k (by omega)));rw[Oh,OW,dL (show k<r.length by omega)];omega
theorem zM:∀k,∀u∈ms ps r k,u.length=k
 |0,b,h=>by cases O6.mp h;rfl
 |k+1,b,h=>by
  obtain⟨d,hd,a⟩:=PX.mp (show b∈(ms ps r k).flatMap _ from h);obtain⟨i,_,rfl⟩:=OC.mp a;rw[ON,zM k d hd];rfl
def lst(W:Wy)(rs:List Nat):Nat->List (List (List Nat)×List Nat)
 |0=>[([],rs)]
 |k+1=>(lst W rs k).flatMap λq=>(W k q.2).map λv=>(q.1++[v],less q.2 v)
theorem yg{α:Type}:∀l:List α,(sm l λ_=>1)=l.length
 |[]=>rfl
 |x::l=>by rw[bH,yg l,OO,Vt]
theorem zd(r:List Nat):0<mu r:=Nat.pos_of_ne_zero λz=>by
 have:=ik r;rw[z,WV]at this;have:=jw r.sum;omega
theorem t0(b:Iv cs W)(hs:rs.sum=cs.sum):∀k,k<=cs.length->∀q∈lst W rs k,lg q.2 rs/\q.2.sum=(cs.drop k).sum/\q.1.length=k
 |0,_,q,h=>by cases O6.mp h;exact⟨lg.refl _,hs,rfl⟩
 |k+1,hk,u,h=>by
  obtain⟨q,c,d⟩:=PX.mp (show u∈(lst W rs k).flatMap _ from h);obtain⟨v,a,rfl⟩:=OC.mp d;have a:=(b k q.2).subset a;obtain⟨q1,q2,q3⟩:=t0 b hs k (by omega) q c;have q4:=(hX a).2.1;rw[q2,iU (by omega),O3]at q4;exact⟨(cP a).less.tr q1,by show(less q.2 v).sum=_;omega,by rw[ON,q3];rfl⟩
theorem zf(a:Iv cs W):∀k,k<=cs.length->(sm (lst W rs k) λq=>Yx q.2 (cs.drop k))<=Yx rs cs
 |0,_=>OD _
 |k+1,h=>by
  refine OP ?_ (zf a k (by omega));show sm ((lst W rs k).flatMap _) _<=_;rw[md];refine oB (UJ _) λq _=>?_;rw[oC,iU (k:=k) (by omega)];exact oB (a k q.2) λv _=>Nat.le_mul_of_pos_left _ (zd v)
theorem vF(a:Iv cs W)(hs:rs.sum=cs.sum)(b:k<=cs.length):(lst W rs k).length<=mu rs:=by
 rw[<-pJ cs rs hs,<-yg];refine OP (oB (UJ _) λq c=>?_) (zf a k b);rw[pJ _ _ (t0 a hs k b q c).2.1];exact zd _
def stW(W:Wy)(j k:Nat)(r:List Nat):List (List Nat):=(W k r).filter λv=>decide ((0:Int)<((o_ W j (k+1) (less r v):Nat):Int))
def Wk(W:Wy):Nat->List Nat->List (List Nat)->Prop
 |_,_,[]=>True
 |k,r,v::vs=>v∈W k r/\Wk W (k+1) (less r v) vs
theorem HU{α:Type}{f:α->Nat}{a:α}:∀{l:List α},a∈l->f a<=sm l f
 |b::l,h=>by
  rw[bH];rcases OK.mp h with rfl|h
  .omega
  .have:=HU (f:=f) h;omega
theorem xQ:∀{j k:Nat} {r:List Nat} {vs:List (List Nat)},Wk W k r vs->vs.length=j->0<o_ W j k r
 |_,_,_,[],_,rfl=>Nat.one_pos
 |_,k,r,v::vs,h,rfl=>O0 (xQ h.2 rfl) (HU (f:=λv=>o_ W vs.length (k+1) (less r v)) h.1)
def lR(u v:List Nat):List Nat:=Tw (·+·) u v
def y2(n:Nat):List (List Nat)->List Nat
 |[]=>OY n 0
 |v::vs=>lR v (y2 n vs)
theorem uc:∀{v r:List Nat},v.length=r.length->less (lR v r) v=r/\lg v (lR v r)
 |[],[],_=>⟨rfl,trivial⟩
 |x::v,y::r,h=>by
  obtain⟨a,b⟩:=uc (v:=v) (r:=r) (by simpa using h);refine⟨?_,Ry _ _,b⟩;show(x+y-x)::less (lR v r) v=_;rw[a,Ux]
theorem mj:∀{vs:List (List Nat)},(∀v∈vs,v.length=n)->(y2 n vs).length=n
 |[],_=>Qw
 |v::vs,h=>by
  show(Tw _ _ _).length=n;rw[U4,h v Ox,mj λu a=>h u (Op _ a),WT]
theorem GK:∀{vs:List (List Nat)} {k:Nat},(∀v∈vs,v.length=n)->(∀i r v,vs[i]?=on v->lg v r->v∈W (k+i) r)->Wk W k (y2 n vs) vs
 |[],_,_,_=>trivial
 |v::vs,k,h,hw=>by
  have b:∀u∈vs,u.length=n:=λu a=>h u (Op _ a);obtain⟨c,d⟩:=uc (v:=v) (r:=y2 n vs) (by rw[h v Ox,mj b]);refine⟨hw 0 _ v rfl d,?_⟩;show Wk W (k+1) (less (lR v (y2 n vs)) v) vs;rw[c];exact GK b λi r u a le=>by
   have:=hw (i+1) r u a le;rwa[show k+(i+1)=k+1+i by omega]at this
theorem ji:∀{l:List Nat} {i x y:Nat},l[i]?=on x->(l.set i y).sum+x=l.sum+y
 |a::l,0,x,y,h=>by
  cases h;show(y::l).sum+a=(a::l).sum+y;rw[O3,O3];omega
 |a::l,i+1,x,y,h=>by
  have:=ji (l:=l) (i:=i) (x:=x) (y:=y) h;show(a::l.set i y).sum+x=(a::l).sum+y;rw[O3,O3];omega
theorem MU{u v:List Nat}{i x y:Nat}(a:u[i]?=on x)(b:v[i]?=on y):(lR u v)[i]?=on (x+y):=by
 unfold lR;rw[WQ,a,b]
theorem yu:∀{vs:List (List Nat)},(∀v∈vs,v.length=n)->i<n->(y2 n vs).getD i 0=(vs.map λv=>v.getD i 0).sum
 |[],_,hi=>by
  show(OY n 0).getD i 0=0;rw[Om,Q1,OA hi];rfl
 |v::vs,h,hi=>by
  have a:∀w∈vs,w.length=n:=λw b=>h w (Op _ b);have c:=h v Ox;have d:=mj a;rw[OG,O3,<-yu a hi];show(lR v (y2 n vs)).getD i 0=_;rw[Om,MU (Oo (by omega)) (Oo (by omega)),dL (by omega),dL (by omega)];rfl
def l9(W:Wy):Nat->Nat->List Nat->List (List (List Nat))
 |0,_,_=>[[]]
 |j+1,k,r=>(W k r).flatMap λv=>(l9 W j (k+1) (less r v)).map (v::·)
def wt(vs:List (List Nat)):Nat:=pr (vs.map mu)
theorem vE(m:Nat):∀k,k<=m->((lst W rs k).flatMap λq=>(l9 W (m-k) k q.2).map (q.1++·))=l9 W m 0 rs
 |0,_=>by
  show(l9 W (m-0) 0 rs).map ([]++·)++[]=_;rw[Pf,WU];exact(O1 λx _=>Q3 x).trans (UR _)
 |k+1,h=>by
  rw[<-vE m k (by omega)];show((lst W rs k).flatMap _).flatMap _=_;rw[j8];refine cy λq _=>?_;rw[show m-k=m-(k+1)+1 by omega,S3];show _=((W k q.2).flatMap λv=>(l9 W (m-(k+1)) (k+1) (less q.2 v)).map (v::·)).map (q.1++·);rw[QS];refine cy λv _=>?_;rw[Oy];exact O1 λu _=>by simp
theorem NM(m:Nat):(lst W rs m).map (·.1)=l9 W m 0 rs:=by
 rw[<-vE m m (OD _),UG];generalize lst W rs m=l
 induction l with
 |nil=>rfl
 |cons q l ih=>rw[OG,PL,ih];simp[l9]
theorem qb:∀(j k:Nat) (r:List Nat),(l9 W j k r).length=o_ W j k r
 |0,_,_=>rfl
 |j+1,k,r=>by
  show((W k r).flatMap _).length=_;rw[List.length_flatMap];show _=((W k r).map _).sum;congr 1;exact O1 λv _=>by rw[Oh,qb]
theorem vh:∀(j k:Nat) (r:List Nat),sm (l9 W j k r) wt=H_ W j k r
 |0,_,_=>rfl
 |j+1,k,r=>by
  show sm ((W k r).flatMap _) wt=_;rw[md];refine cY λv _=>?_;rw[oC,<-vh j (k+1) (less r v),<-kJ];rfl
theorem yE:∀{j k:Nat} {r:List Nat} {vs:List (List Nat)},vs∈l9 W j k r->Wk W k r vs/\vs.length=j
 |0,_,_,vs,h=>by cases O6.mp h;exact⟨trivial,rfl⟩
 |j+1,k,r,vs,h=>by
  obtain⟨v,a,b⟩:=PX.mp (show vs∈(W k r).flatMap _ from h);obtain⟨us,c,rfl⟩:=OC.mp b;obtain⟨d,e⟩:=yE c;exact⟨⟨a,d⟩,by rw[OO,e]⟩
theorem HA{α:Type}{f:α->Nat}:∀{l:List α},0<sm l f->∃v∈l,0<f v
 |[],h=>OX h (PF 0)
 |v::l,h=>by
  rw[bH]at h;by_cases q:0<f v
  .exact⟨v,Ox,q⟩
  .obtain⟨u,a,e⟩:=HA (l:=l) (f:=f) (by omega)
   exact⟨u,Op _ a,e⟩
theorem HR{W:Wy}{rs:List Nat}(h:0<o_ W m 0 rs):∀k,k<=m->∃r∈hL W rs k,0<o_ W (m-k) k r
 |0,_=>⟨rs,O6.mpr rfl,h⟩
 |k+1,hk=>by
  obtain⟨r,b,a⟩:=HR h k (by omega);rw[show m-k=m-(k+1)+1 by omega]at a;obtain⟨v,c,q⟩:=HA (show 0<sm (W k r) λv=>o_ W (m-(k+1)) (k+1) (less r v)from a);exact⟨less r v,fV.mpr ⟨r,b,v,c,rfl⟩,q⟩
theorem yF{W V:Wy}(h:∀i r,V i r=W (k+i) r):∀(j i:Nat) (r:List Nat),l9 V j i r=l9 W j (k+i) r
 |0,_,_=>rfl
 |j+1,i,r=>by
  show(V i r).flatMap _=(W (k+i) r).flatMap _;rw[h];exact cy λv _=>by rw[yF h j (i+1)];rfl
theorem N6{W:Wy}(b:v∈W k r):v∈(l9 W (j+1) k r).map (·.getD 0 [])↔(0:Int)<((o_ W j (k+1) (less r v):Nat):Int):=by
 rw[<-qb];constructor
 .intro h
  obtain⟨vs,c,rfl⟩:=OC.mp h;obtain⟨w,e,d⟩:=PX.mp (show vs∈(W k r).flatMap _ from c);obtain⟨us,a,rfl⟩:=OC.mp d;have:=UA a;show(0:Int)<(((l9 W j (k+1) (less r w)).length:Nat):Int);omega
 .intro h
  obtain⟨us,a⟩:=List.exists_mem_of_length_pos (l:=l9 W j (k+1) (less r v)) (by omega);exact OC.mpr ⟨v::us,PX.mpr ⟨v,b,OC.mpr ⟨us,a,rfl⟩⟩,rfl⟩
theorem Nm{W:Wy}:(W k r).filter (λv=>decide (v∈(l9 W (j+1) k r).map (·.getD 0 [])))=stW W j k r:=Vp λv a=>decide_eq_decide.mpr (N6 a)
theorem yG{W:Wy}{cs:List Nat}(a:Iv cs W):∀{j k:Nat} {r:List Nat} {vs:List (List Nat)},vs∈l9 W j k r->∀v∈vs,lg v r
 |0,_,_,vs,h,v,hv=>by cases O6.mp h;cases hv
 |j+1,k,r,vs,h,v,hv=>by
  obtain⟨w,c,d⟩:=PX.mp (show vs∈(W k r).flatMap _ from h);obtain⟨us,e,rfl⟩:=OC.mp d;have b:=cP ((a k r).subset c);rcases OK.mp hv with rfl|hv
  .exact b
  .exact(yG a e v hv).tr b.less
end
end L2.Nt
namespace L2.Pu
theorem yf{os a:List D}(h:fj os=on d)(q:∀d,d∈os↔d∈a):fj a=on d:=by
 obtain⟨ks,s,rfl⟩:=iE h;exact sL ⟨s.1,s.2.1,λk b=>⟨(s.2.2.1 k b).1,(q _).mp (s.2.2.1 k b).2⟩,λd hd=>s.2.2.2 d ((q d).mpr hd)⟩
theorem NN(h:y∉ks):lp ks vs y=Oi:=by
 unfold lp;rw[List.find?_eq_none.mpr]
 .rfl
 .rintro⟨a,b⟩ c q
  cases(show a=y from PR q);exact h (UF c).1
end L2.Pu
namespace Law
open PySem L2 L2.Pu
open L2.Hs (tL zB jR vx tK sO lJ)
noncomputable def dq(i:Nat):Qe:=PySem.Challenge.pw_edgetally_k18_counts_and_steps.main.body.getD i (.Pass ⟨0,0,0,0⟩)
abbrev yr:Qe:=dq 13
abbrev kN:Qe:=dq 14
abbrev kO:Qe:=dq 15
abbrev h9:Qe:=dq 16
abbrev mX:Qe:=dq 18
abbrev yp:Qe:=dq 19
abbrev oM:Qe:=dq 20
abbrev qL:Qe:=dq 22
abbrev kq:Qe:=dq 23
abbrev kr:Qe:=dq 24
abbrev qK:Qe:=dq 25
abbrev mU:Qe:=dq 26
abbrev qO:Qe:=dq 27
abbrev mY:Qe:=dq 28
abbrev kM:Qe:=dq 31
abbrev gF:Qe:=dq 32
abbrev gG:Qe:=dq 33
abbrev jl:Qe:=dq 34
abbrev ia:Qe:=dq 35
abbrev kt:Qe:=dq 36
abbrev iI:Qe:=dq 37
abbrev va:Qe:=dq 40
abbrev sW:Qe:=dq 41
abbrev sV:Qe:=dq 42
abbrev sY:Qe:=dq 43
abbrev qM:Qe:=dq 44
abbrev oI:Qe:=dq 45
abbrev mV:Qe:=dq 46
abbrev jo:Qe:=dq 47
abbrev sZ:Qe:=dq 48
abbrev oK:Qe:=dq 49
abbrev oJ:Qe:=dq 50
abbrev u9:Qe:=dq 51
abbrev sX:Qe:=dq 52
abbrev mW:Qe:=dq 53
abbrev ku:Qe:=dq 54
abbrev sU:Qe:=dq 55
abbrev oH:Qe:=dq 56
abbrev u7:Qe:=dq 57
abbrev qN:Qe:=dq 58
abbrev jp:Qe:=aA (dq 38) 0
abbrev mZ:Qe:=aA (dq 38) 9
abbrev iJ:Qe:=aA (dq 38) 6
abbrev kP:Qe:=aA (dq 38) 7
abbrev mh:Qe:=dq 59
abbrev sJ:Qe:=aA (dq 2) 0
set_option genSizeOf false in
set_option genInjectivity false in
structure Ad where
 Aa:Oq
 Ab:Oq
 Ac:O5
 Ae:Oq
 Af:Oq
 Ag:O5
 Ah:Oq
 Ai:O5
 Aj:Oq
 Ak:O5
 Al:Oq
 Am:O5
 An:Oq
 Ao:O5
 Aq:Oq
 Ar:O5
 As:Oq
 At:O5
 Au:Oq
 Av:O5
 Aw:Oq
 Ax:O5
 Ay:Oq
 Az:O5
 A0:Oq
 A1:O5
 A2:Oq
 A3:O5
 A4:Oq
 A5:O5
 A6:Oq
 A7:O5
 A8:Oq
 A9:O5
 Ba:Oq
 Bb:O5
 Bc:Oq
 Bd:O5
 Be:Oq
 Bf:O5
 Bh:Oq
 Bi:O5
 Bj:Oq
 Bk:O5
 Bl:Oq
 Bm:O5
 Bn:Oq
 Bo:O5
 Bp:Oq
 Bq:O5
 Br:Oq
 Bs:O5
 Bt:Oq
 Bu:O5
 Bv:Oq
 Bw:O5
 Bx:Oq
 By:O5
 Bz:Oq
 B0:O5
 B3:Oq
 B4:O5
 B5:Oq
 B7:O5
 B8:Oq
 Ca:O5
 Cb:Oq
 Cc:O5
 Cd:Oq
 Cf:O5
 Cg:Oq
 Ch:O5
 Ci:Oq
 Cj:O5
 Ck:Oq
 Cl:O5
 Cm:Oq
 Cn:O5
 Co:Oq
 Cp:O5
 Cq:Oq
 Cr:O5
 Cs:Oq
 Ct:O5
 Cu:Oq
 Cv:O5
 Cw:Oq
 Cy:O5
 Cz:Oq
 C0:O5
 C2:Oq
 C3:O5
 C4:Oq
 C5:O5
structure x0 (K:OU) (mg:Pj->Option Ov) (a:Ad):Prop where
 C6:mg "ValueError"=Oi
 C7:mg "abs"=Oi
 C8:mg "any"=Oi
 C9:mg "bool"=Oi
 Da:mg "enumerate"=Oi
 Db:mg "int"=Oi
 Dc:mg "isinstance"=Oi
 Dd:mg "len"=Oi
 Df:mg "list"=Oi
 Dg:mg "max"=Oi
 Dh:mg "min"=Oi
 Di:mg "range"=Oi
 Dj:mg "reversed"=Oi
 Dl:mg "sorted"=Oi
 Dm:mg "str"=Oi
 Do:mg "sum"=Oi
 Dp:mg "tuple"=Oi
 Dq:mg "zip"=Oi
 Dr:mT K mg "MOST" (.int 40)
 Dt:mT K mg "MOST_COLUMNS" (.int 6)
 Du:mT K mg "MOST_ROWS" (.int 4)
 Dv:mT K mg "WIDE" (.int 500)
 Dw:d5 K "free" "free" yr a.Af a.Ag
 Dx:mg "free"=on (.ref a.Af)
 Dy:dE K a.Ag ["rows","columns","pair"] [.tup [.int 0,.int 40]]
 Dz:d5 K "check_sums" "check_sums" kN a.Ah a.Ai
 D0:mg "check_sums"=on (.ref a.Ah)
 D3:aC K a.Ai ["rowsums","columnsums"] []
 D4:d5 K "check_pair" "check_pair" kO a.Aj a.Ak
 D5:mg "check_pair"=on (.ref a.Aj)
 D6:aC K a.Ak ["pair"] []
 D7:d5 K "settled_bounds" "settled_bounds" h9 a.Al a.Am
 D8:mg "settled_bounds"=on (.ref a.Al)
 D9:aC K a.Am ["bounds","rows","columns"] []
 Ea:d5 K "factorial" "factorial" mX a.An a.Ao
 Eb:mg "factorial"=on (.ref a.An)
 Ec:aC K a.Ao ["number"] []
 Ed:d5 K "ways" "ways" yp a.Aq a.Ar
 Ee:mg "ways"=on (.ref a.Aq)
 Ef:aC K a.Ar ["parts"] []
 Eg:d5 K "fillings" "fillings" oM a.As a.At
 Eh:mg "fillings"=on (.ref a.As)
 Ei:aC K a.At ["rests","many","pairs"] []
 Ej:d5 K "need_of" "need_of" qL a.Au a.Av
 Ek:mg "need_of"=on (.ref a.Au)
 El:aC K a.Av ["rowsums","over"] []
 Em:d5 K "room_inside" "room_inside" kq a.Aw a.Ax
 En:mg "room_inside"=on (.ref a.Aw)
 Eo:aC K a.Ax ["columnsums","bounds","over","column"] []
 Ep:d5 K "room_beside" "room_beside" kr a.Ay a.Az
 Er:mg "room_beside"=on (.ref a.Ay)
 Es:aC K a.Az ["bounds","over","column"] []
 Et:d5 K "room_of" "room_of" qK a.A0 a.A1
 Eu:mg "room_of"=on (.ref a.A0)
 Ev:aC K a.A1 ["columnsums","bounds","over","into"] []
 Ew:d5 K "narrowest" "narrowest" mU a.A2 a.A3
 Ex:mg "narrowest"=on (.ref a.A2)
 Ey:aC K a.A3 ["columnsums","bounds","over"] []
 Ez:d5 K "choices" "choices" qO a.A4 a.A5
 E2:mg "choices"=on (.ref a.A4)
 E3:aC K a.A5 ["many"] []
 E4:d5 K "check_fit" "check_fit" mY a.A6 a.A7
 E5:mg "check_fit"=on (.ref a.A6)
 E6:aC K a.A7 ["rowsums","columnsums","bounds"] []
 E7:d5 K "check_wide" "check_wide" kM a.A8 a.A9
 E8:mg "check_wide"=on (.ref a.A8)
 E9:aC K a.A9 ["rowsums"] []
 Fa:d5 K "settled_for_net" "settled_for_net" gF a.Ba a.Bb
 Fb:mg "settled_for_net"=on (.ref a.Ba)
 Fc:aC K a.Bb ["rowsums","columnsums","bounds"] []
 Fd:d5 K "column_fillings" "column_fillings" gG a.Bc a.Bd
 Fe:mg "column_fillings"=on (.ref a.Bc)
 Ff:aC K a.Bd ["rests","columnsums","bounds","column"] []
 Fg:d5 K "rests_behind" "rests_behind" jl a.Be a.Bf
 Fh:mg "rests_behind"=on (.ref a.Be)
 Fi:aC K a.Bf ["rests","counts"] []
 Fj:d5 K "nodes_by_level" "nodes_by_level" ia a.Bh a.Bi
 Fk:mg "nodes_by_level"=on (.ref a.Bh)
 Fl:aC K a.Bi ["rowsums","columnsums","bounds"] []
 Fm:d5 K "node_counts" "node_counts" kt a.Bj a.Bk
 Fn:mg "node_counts"=on (.ref a.Bj)
 Fo:aC K a.Bk ["rests","filled","behind"] []
 Fp:d5 K "counted_nodes" "counted_nodes" iI a.Bl a.Bm
 Fq:mg "counted_nodes"=on (.ref a.Bl)
 Fs:aC K a.Bm ["rowsums","columnsums","bounds"] []
 Ft:d5 K "_law_bag" "_law_bag" va a.Bn a.Bo
 Fu:mg "_law_bag"=on (.ref a.Bn)
 Fv:aC K a.Bo ["_law_script"] []
 Fw:d5 K "_law_pull" "_law_pull" sW a.Bp a.Bq
 Fy:mg "_law_pull"=on (.ref a.Bp)
 Fz:aC K a.Bq ["_law_bag_here","_law_lot"] []
 F4:d5 K "_law_same" "_law_same" sV a.Br a.Bs
 F5:mg "_law_same"=on (.ref a.Br)
 F6:aC K a.Bs ["_law_found","_law_due"] []
 F7:d5 K "_law_grid" "_law_grid" sY a.Bt a.Bu
 F8:mg "_law_grid"=on (.ref a.Bt)
 F9:aC K a.Bu ["_law_bag_here","_law_block","_law_columns","_law_things"] []
 Ga:d5 K "_law_small" "_law_small" qM a.Bv a.Bw
 Gb:mg "_law_small"=on (.ref a.Bv)
 Gc:aC K a.Bw ["_law_bag_here"] []
 Gd:d5 K "_law_turned" "_law_turned" oI a.Bx a.By
 Ge:mg "_law_turned"=on (.ref a.Bx)
 Gf:aC K a.By ["_law_block"] []
 Gg:d5 K "_law_rowsums" "_law_rowsums" mV a.Bz a.B0
 Gh:mg "_law_rowsums"=on (.ref a.Bz)
 Gi:aC K a.B0 ["_law_grid_here"] []
 Gj:d5 K "_law_columnsums" "_law_columnsums" jo a.B3 a.B4
 Gk:mg "_law_columnsums"=on (.ref a.B3)
 Gm:aC K a.B4 ["_law_grid_here"] []
 Gn:d5 K "_law_free" "_law_free" sZ a.B5 a.B7
 Go:mg "_law_free"=on (.ref a.B5)
 Gp:aC K a.B7 ["_law_block","_law_columns"] []
 Gq:d5 K "_law_bounds" "_law_bounds" oK a.B8 a.Ca
 Gr:mg "_law_bounds"=on (.ref a.B8)
 Gs:aC K a.Ca ["_law_bag_here","_law_grid_here"] []
 Gu:d5 K "_law_copied" "_law_copied" oJ a.Cb a.Cc
 Gv:mg "_law_copied"=on (.ref a.Cb)
 Gx:aC K a.Cc ["_law_block"] []
 Gy:d5 K "_law_fit" "_law_fit" u9 a.Cd a.Cf
 Gz:mg "_law_fit"=on (.ref a.Cd)
 G0:aC K a.Cf ["_law_rests","_law_lot","_law_pairs"] []
 G1:d5 K "_law_less" "_law_less" sX a.Cg a.Ch
 G2:mg "_law_less"=on (.ref a.Cg)
 G3:aC K a.Ch ["_law_rests","_law_column"] []
 G4:d5 K "_law_listing" "_law_listing" mW a.Ci a.Cj
 G5:mg "_law_listing"=on (.ref a.Ci)
 G6:aC K a.Cj ["_law_rowsums_here","_law_columnsums_here","_law_limits"] []
 G7:d5 K "_law_factorial" "_law_factorial" ku a.Ck a.Cl
 G8:mg "_law_factorial"=on (.ref a.Ck)
 G9:aC K a.Cl ["_law_lot"] []
 Ha:d5 K "_law_ways" "_law_ways" sU a.Cm a.Cn
 Hb:mg "_law_ways"=on (.ref a.Cm)
 Hc:aC K a.Cn ["_law_parts"] []
 Hd:d5 K "_law_weight" "_law_weight" oH a.Co a.Cp
 He:mg "_law_weight"=on (.ref a.Co)
 Hf:aC K a.Cp ["_law_columns"] []
 Hg:d5 K "_law_net" "_law_net" u7 a.Cq a.Cr
 Hh:mg "_law_net"=on (.ref a.Cq)
 Hi:aC K a.Cr ["_law_grid_here","_law_limits"] []
 Hj:d5 K "_law_nodes" "_law_nodes" qN a.Cs a.Ct
 Hk:mg "_law_nodes"=on (.ref a.Cs)
 Hl:aC K a.Ct ["_law_rowsums_here","_law_columnsums_here","_law_limits"] []
 Hm:d5 K "__init__" "Net.__init__" jp a.Cu a.Cv
 Hn:Mk K a.Ae a.Cu
 Ho:D_ K a.Cv ["self","rowsums","columnsums","bounds"] ["bounds"] 3 [.kw 0]
 Hq:d5 K "steps" "Net.steps" mZ a.Cw a.Cy
 Hr:pq K a.Ae "steps" a.Cw
 Ht:aC K a.Cy ["self","level","rests"] []
 Hu:d5 K "counts_at" "Net.counts_at" iJ a.Cz a.C0
 Hv:pq K a.Ae "counts_at" a.Cz
 Hw:aC K a.C0 ["self","level","rests"] []
 Hx:d5 K "tables" "Net.tables" kP a.C2 a.C3
 Hy:pq K a.Ae "tables" a.C2
 Hz:aC K a.C3 ["self"] []
 Ia:ri K a.Ae
 Ib:mg "Net"=on (.ref a.Ae)
 Id:dH K a.Ae "column_list"
 Ie:dH K a.Ae "counted"
 Ig:dH K a.Ae "pairs"
 Ih:dH K a.Ae "row_list"
 Ii:d5 K "__init__" "EdgeError.__init__" sJ a.Ab a.Ac
 Ij:aC K a.Ac ["self","word","why"] []
 Ik:mg "EdgeError"=on (.ref a.Aa)
 Il:Y0 K a.Aa "__init__" a.Ab
section
variable(P:Pc)(w:Pk){K:OU}{mg:Pj->Option Ov}(base:P4){a:Ad}
theorem iG:c_ ["_law_bag_here","_law_lot","_law_cells","_law_at","_law_cell"] ["_law_bag_here","_law_lot"] (af sW):=hU
theorem yU(N:x0 K mg a):fw P w K mg base (hO P w) 2 a.Bp a.Bq ["_law_bag_here","_law_lot"] (F3 K 2 jX):=by
 refine N.Fw.ok (k:=1) iG (λvs H Q E h=>h.1) (λY A outer s H vs Q E hr h=>?_);obtain⟨_,F,ds,β,fr,hd,r,Z,e,k⟩:=h;obtain⟨lot,rfl,ok,I,h1,rfl,rfl⟩:=ze e;obtain⟨v,w',rfl,d1,d2⟩:=bb.two hd;unfold c4 at d1;obtain⟨b,l,d,rfl⟩:=d1;cases d2.int;obtain⟨t,J⟩:=fr.bag b l d;obtain⟨ab,al,m⟩:=fr.bgA b l d;obtain⟨W,L,hc0,X⟩:=ok.at;obtain⟨_,_,hcp,_⟩:=vg ok I;have len:((β.cells.map V.int).length:Int)=(β.cells.length:Int):=by rw[Oh]
 have O:o1 (β.cells.map V.int) (β.pos:Int)=on (.int β.cell):=J2 (by rw[Ou,L];rfl);refine⟨_,cm (oV (i:=2) iG.nd rfl (QY rfl) (ft dh (pv 0) bL (λ_ _=>rfl)))
  (cm (oV (i:=3) iG.nd rfl (QY rfl) (dA k4 (ft dh (pv 0) bL (λ_ _=>rfl)) (jP lM (by rfl) N.Dd PySem.boot_len (d9 (pv 2) ii))))
  (cm (oV (i:=4) iG.nd rfl (QY rfl) (ft dh (pv 2) (pv 3) (λ_ _=>rfl)))
  (cm (wL (vi HL (pv 4) (dA K9 bL bL) (tQ _))
   (cm (fq (dA vy (pv 4) (pv 1)) (ig (pv 2) (pv 3) fQ)) (gT (ax (dA k4 (pv 4) (pv 1))))) ml)
  (cm (fq (dA oX (ft dh (pv 0) bL (λ_ _=>rfl)) bL) (ig (pv 0) bL fQ))
  (cm (fq (dA k4 (dA Lb (dA oX (dA oX (ft dh (pv 0) bL (λ_ _=>rfl)) (dA k4 (pv 4) bL)) bL) bL) bL) (ig (pv 0) bL fQ))
  (gT (ax (dA k4 (dA vy (ft dh (pv 0) bL (λ_ _=>rfl)) bL) (pv 1))))))))),?_⟩
 refine⟨_,rfl,b,_,_,_,rfl,rfl,fy.of t,rfl,?_⟩;refine⟨_,rfl,b,_,_,_,rfl,rfl,fy.of t,rfl,_,rfl,l,_,rfl,.inl (fy.of J),_,_,rfl,rfl,?_,?_⟩
 .have:=W
  rw[len];omega
 refine⟨_,rfl,_,rfl,l,_,_,_,rfl,rfl,fy.of J,by rw[len,X];exact O,?_⟩;refine⟨_,rfl,_,_,rfl,rfl,⟨by decide,by decide,by decide⟩,_,_,rfl,rfl,_,rfl,?_⟩;have occ:∀{R:Hp} {p:Oq} {o:HO},(∀c,F.A c->R c≠Oi)->∀c,F.A c->upd R p o c≠Oi:=λ{R p o} f c u z=>by
  by_cases q:c=p
  .subst q;rw[aj]at z;cases z
  .rw[b_ q]at z;exact f c u z
 refine ZZ (λg=>?_) (λg=>?_)
 .have Yy:(10:Int)^18<=β.cell:=PR g
  refine⟨_,rfl,_,rfl,_,_,rfl,rfl,⟨I,h1⟩,_,rfl,_,rfl,l,_,_,β.pos,rfl,rfl,J,?_,?_⟩
  .rw[len,X,Oh]
   exact JI W
  refine⟨_,rfl,_,rfl,_,_,rfl,rfl,I,?_⟩;have T:iN β lot=β.cell % lot:=OA Yy;have U:jO β lot=⟨β.cells.set β.pos (β.cell/lot),β.i,β.j⟩:=OA Yy;rw[T,U]at k;refine k _ _ ⟨λc o u n=>by rw[b_ (n b l d).2];exact u,occ fr.occ,fr.bgA,λb' l' y=>?_⟩ rfl;rw[d]at y;cases y;exact⟨by rw[b_ m];exact t,by rw[aj,Tv]⟩
 .have Yy:¬(10:Int)^18<=β.cell:=λq=>g (OL q)
  refine⟨_,rfl,b,_,_,_,rfl,rfl,fy.of t,rfl,_,_,rfl,rfl,_,rfl,b,_,_,1,rfl,rfl,t,rfl,?_⟩;have B:(upd H b (.lst [.ref l,.int (β.i+1),.int β.j])) b=on (.lst [.ref l,.int (β.i+1),.int β.j]):=aj;refine⟨_,rfl,b,_,_,_,rfl,rfl,fy.of B,rfl,_,rfl,_,_,rfl,rfl,(by show(0:Int)<2147483629;decide),_,_,rfl,rfl,_,_,rfl,rfl,_,_,rfl,rfl,.inr ⟨by decide,by decide⟩,_,_,rfl,rfl,(by show(0:Int)<2147483629;decide),_,rfl,b,_,_,2,rfl,rfl,B,rfl,?_⟩;have C:(upd (upd H b (.lst [.ref l,.int (β.i+1),.int β.j])) b (.lst [.ref l,.int (β.i+1),.int β.nxt])) b=on (.lst [.ref l,.int (β.i+1),.int β.nxt]):=aj;refine⟨_,rfl,b,_,_,_,rfl,rfl,fy.of C,rfl,_,_,rfl,rfl,⟨by decide,by decide⟩,_,rfl,_,_,rfl,rfl,I,?_⟩;have T:iN β lot=β.nxt/64 % lot:=Ot Yy;have U:jO β lot=⟨β.cells,β.i+1,β.nxt⟩:=Ot Yy;rw[T,U]at k;refine k _ _ ⟨λc o u n=>by rw[b_ (n b l d).1,b_ (n b l d).1];exact u,occ (occ fr.occ),fr.bgA,λb' l' y=>?_⟩ rfl;rw[d]at y;cases y;exact⟨C,by rw[b_ m.symm,b_ m.symm];exact J⟩
theorem BI:c_ ["_law_script"] ["_law_script"] (af va):=hU
theorem nd1:(["_law_cell"]:List Pj).Nodup:=by decide +kernel
theorem BY(N:x0 K mg a):fw P w K mg base (hO P w) 1 a.Bn a.Bo ["_law_script"] (Nn K):=by
 refine N.Ft.ok BI (λvs H Q E h=>?_) (λX A outer s H vs Q E hr h=>?_)
 .obtain⟨a,ns,rfl,_⟩:=h
  rfl
 .obtain⟨a,ns,rfl,Y,k⟩:=h
  refine⟨_,gT (ax (dR (d9 (dA Ld (mn rfl (dr:=["_law_cell"]) (dt.plain rfl (by decide +kernel) (by decide +kernel)) (Jl (nG u5 (pv 0) vn (vm bL)))
   (λcl C fp s H=>⟨vp (i:=0) nd1 rfl (QY rfl),tJ,λD=>aD rfl (jP DU (by rfl) N.C7 PyProof.Rows.Boot.«abs» (d9 (pv 0) ii)) rfl⟩)) (dR (d9 bL ii))) (d9 bL (d9 bL ii))))),?_⟩
  obtain⟨q,I,Z⟩:=Od ns;refine⟨_,rfl,63,rfl,a,_,rfl,Y,λp hp=>?_⟩;rw[I];have L:bG H (upd H p (.lst (q.map V.int))):=bG.upd hp;refine⟨p,rfl,⟨_,fy.of aj⟩,λD B=>?_⟩;have r:D≠p:=λz=>by subst z;rw[aj]at B;cases B
  refine xD (xs:=q.map V.int) (λi F g=>∃cs:List Int,(∃v,F=[v])/\cs.length=i/\(∀c∈cs,0<=c)/\g D=on (.lst (cs.map V.int))/\g p=on (.lst (q.map V.int))/\bG H g) ⟨[],⟨_,rfl⟩,rfl,(λ_ h=>nomatch h),aj,by rw[b_ r.symm,aj],L.trans (bG.upd B)⟩
   (λi F g _ ⟨_,_,_,_,_,e,_⟩=>fy.of e) ?_ ?_
  .rintro i x F g n ⟨cs,⟨v,rfl⟩,l,m,d,t,u⟩
   have hil:i<q.length:=by have:=(OF.mp n).1;rwa[Oh]at this
   obtain⟨z,rfl⟩:∃z,x=V.int z:=by
    rw[Ou]at n;cases e:q[i]? with
    |none=>rw[e]at n;cases n
    |some z=>rw[e]at n;exact⟨z,(O8 n).symm⟩
   unfold dC Ki;refine ZY ?_;refine⟨_,rfl,_,rfl,cs.map V.int,d,by rw[Oh];exact qI (by omega),cs++[if z<0 then -z else z],⟨_,rfl⟩,by rw[ON,l];rfl,λc hc=>?_,by rw[aj,Pd];rfl,by rw[b_ r.symm];exact t,λb o e=>?_⟩
   .rcases Qb.mp hc with hc|hc
    .exact m c hc
    .obtain rfl:c=_:=by simpa using hc
     split<;>omega
   .rw[b_ (aw e (L.free B))]
    exact u b o e
  .rintro F g ⟨cs,⟨v,rfl⟩,l,m,d,t,u⟩
   rw[Oh]at l;refine⟨by decide,λO j=>⟨D,O,_,_,rfl,rfl,by rw[b_ (aw d j)];exact d,aj,by rw[Oh];exact Tz (qI (by simp;omega)),λR y=>⟨(by show 3<=OS;decide),λT f=>?_⟩⟩⟩;have U:bG g (upd g O (.lst [V.int 1])):=bG.upd j;have W:=U.trans (bG.upd (o:= .lst (cs.map V.int++[V.int 1])) y);have J:R≠T:=λz=>by subst z;rw[aj]at f;cases f
   refine k T R _ ((u.trans W).free f) ((u.trans U).free y) ⟨cs++[1],0,0,aj,by rw[b_ J,aj,Pd];rfl,by simp,by rw[ON];simp;omega,λc hc=>?_,by decide⟩ ((u.trans W).trans (bG.upd f));rcases Qb.mp hc with hc|hc
   .exact m c hc
   .obtain rfl:c=1:=by simpa using hc
    decide
theorem iS(N:x0 K mg a):FB P w K mg base 2 "_law_pull" a.Bp a.Bq ["_law_bag_here","_law_lot"] 2 jX:=⟨yU P w base N,N.Fy,N.Fw.kp,N.Fz⟩
abbrev QF(K:OU)(a:Ad)(k:Nat)(x:Pj)(f:Oq)(d:O5)(ps:List Pj)(n:Nat):={m:List D->M D//∀(P:Pc) (w:Pk) {mg:Pj->Option Ov} (base:P4) (N:x0 K mg a),FB P w K mg base k x f d ps n m}
abbrev QM(K:OU)(a:Ad)(k:Nat)(f:Oq)(d:O5)(ps:List Pj)(n:Nat):={m:List D->M D//∀(P:Pc) (w:Pk) {mg:Pj->Option Ov} (base:P4) (N:x0 K mg a),fw P w K mg base (hO P w) k f d ps (F3 K n m)}
theorem Jc:c_ ["rows","columns","pair"] ["rows","columns","pair"] (af yr):=hU
def KQ(K:OU)(a:Ad):QM K a 2 a.Af a.Ag ["rows","columns","pair"] 3:=⟨_,λP w mg base N=>by
 exact bp (k:=1) 3 3 _ N.Dw Jc rfl rfl λb A outer s H E d=>ai (aK (ax (bf rfl (i4 ["row","pair","columns"] ["row"] [2,1]) (cr (by rfl) N.Di (d_ (vv 0))) (λcl C c s H=>⟨(ej 0 g8),aL,λD=>aD rfl (bf rfl (i4 ["column","pair"] ["column"] [1]) (cr (by rfl) N.Di (d_ (vv 2))) (λcl C c s H=>⟨(ej 0 g8),aL,λD=>aD rfl (vv 1) rfl⟩) am ar (λD=>aJ)) rfl⟩) am ar (λD=>aJ))))⟩
theorem rq:c_ ["rowsums","columnsums"] ["rowsums","columnsums"] (af kN):=hU
def ic(K:OU)(a:Ad):QF K a 2 "check_sums" a.Ah a.Ai ["rowsums","columnsums"] 2:=⟨_,λP w mg base N=>⟨by
 exact bp (k:=1) 2 2 _ N.Dz rq rfl rfl λb A outer s H E c=>ac (bS (ow (uX jU jU nP nP (ao) (cx N.Dd (d_ (vv 0))) (kD N.Du))) (ai (dI)) (bt))
   (ac (bS (ow (uX jU jU nP nP (ao) (cx N.Dd (d_ (vv 1))) (kD N.Dt))) (ai (dI)) (bt))
   (ac (bS (jh (sC (l6 (bE (lN rfl) xb (by rfl) N.C8 PyProof.Rows.Boot.«any» (d_ (bf rfl (i4 ["many"] ["many"] []) (aR (vv 0)) (λcl C d s H=>⟨(ej 0 g8),aL,λD=>aD rfl (l5 mv qj (vv 0) (ao)) rfl⟩) am ar (λD=>aJ))))) (oh (l6 (bE (lN rfl) xb (by rfl) N.C8 PyProof.Rows.Boot.«any» (d_ (bf rfl (i4 ["many"] ["many"] []) (aR (vv 1)) (λcl C d s H=>⟨(ej 0 g8),aL,λD=>aD rfl (l5 mv qj (vv 0) (ao)) rfl⟩) am ar (λD=>aJ)))))))) (ai (dI)) (bt))
   (ac (bS (bj (gh c) iQ (fc N.Do (d_ (vv 0))) (fc N.Do (d_ (vv 1)))) (ai (dI)) (bt))
   (ai (bS (bj rL xa (fc N.Do (d_ (vv 0))) (kD N.Dr)) (ai (dI)) (bt)))))),N.D0,N.Dz.kp,N.D3⟩⟩
theorem gz:c_ ["pair","low","high"] ["pair"] (af kO):=hU
def ie(K:OU)(a:Ad):QF K a 2 "check_pair" a.Aj a.Ak ["pair"] 1:=⟨_,λP w mg base N=>⟨by
 exact bp (k:=1) 1 3 _ N.D4 gz rfl rfl λb A outer s H E c=>ac (HD (gl (bC aE (bC aE eZ)) (bB (bB dP))) (fq (vv 0) (bK rfl (ay (ej 1 gz.nd) (ay (ej 2 gz.nd) bq)))))
   (ai (bS (ow (AW jU jU jU nP nP nP (ao) (vv 1) (vv 2) (kD N.Dr))) (ai (dI)) (bt))),N.D5,N.D4.kp,N.D6⟩⟩
theorem eE:c_ ["bounds","rows","columns","pairs","pair"] ["bounds","rows","columns"] (af h9):=hU
def cE(K:OU)(a:Ad):QF K a 3 "settled_bounds" a.Al a.Am ["bounds","rows","columns"] 3:=⟨_,λP w mg base N=>⟨by
 have c:=(KQ K a).2 P w base N;have b:=(ie K a).2 P w base N
 exact bp (k:=2) 3 5 _ N.D7 eE rfl rfl λf A outer s H E d=>ac (bS (bj tM w9 (vv 0) (wk)) (ai (aK (ax (IL c (d.mono (by decide)) (by rfl) N.Dx N.Dw.kp N.Dy f7 (et (vv 1) (vv 2)) (λδ β r e h=>by rw[(aS (aS zv)) δ β r e h];rfl))))) (bt))
   (ac (bS (jh (sC (bj (gh d) iQ (cx N.Dd (d_ (vv 0))) (vv 1)) (oh (l6 (bE (lN rfl) xb (by rfl) N.C8 PyProof.Rows.Boot.«any» (d_ (bf rfl (i4 ["pairs","columns"] ["pairs"] [2]) (aR (vv 0)) (λcl C g s H=>⟨(ej 0 g8),aL,λD=>aD rfl (l5 (gh d) iQ (cx N.Dd (d_ (vv 0))) (vv 1)) rfl⟩) am ar (λD=>aJ)))))))) (ai (dI)) (bt))
   (ac (bx aE (bi bT rfl (aR (vv 0)) (ej 3 eE.nd) (ai (bx aE (bi bT rfl (aR (vv 3)) (ej 4 eE.nd) (ai (oN (de (vc b d (d_ (vv 4)))))))))))
   (ai (aK (ax (bf rfl (i4 ["pairs"] ["pairs"] []) (aR (vv 0)) (λcl C g s H=>⟨(ej 0 g8),aL,λD=>aD rfl (cj dX lh (by rfl) N.Df PyProof.Rows.Boot.«list» (d_ (vv 0))) rfl⟩) am ar (λD=>aJ))))))),N.D8,N.D7.kp,N.D9⟩⟩
theorem fm:c_ ["number","product","factor"] ["number"] (af mX):=hU
def i7(K:OU)(a:Ad):QF K a 2 "factorial" a.An a.Ao ["number"] 1:=⟨_,λP w mg base N=>⟨by
 exact bp (k:=1) 1 3 _ N.Ea fm rfl rfl λb A outer s H E c=>ac (aG (f0 1 fm.nd (ao)))
   (ac (bx aE (bi bT rfl (j5 (by rfl) N.Di (et (ao) (bc aQ bO (vv 0) (ao)))) (ej 2 fm.nd) (ai (oO vI (kX (i:=1) fm.nd rfl (by first|exact QY rfl|exact Sg rfl) (vv 2) vM)))))
   (ai (aK (ax (vv 1))))),N.Eb,N.Ea.kp,N.Ec⟩⟩
theorem jj:c_ ["parts","part","told"] ["parts"] (af yp):=hU
def tF(K:OU)(a:Ad):QF K a 3 "ways" a.Aq a.Ar ["parts"] 1:=⟨_,λP w mg base N=>⟨by
 have b:=(i7 K a).2 P w base N
 exact bp (k:=2) 1 3 _ N.Ed jj rfl rfl λd A outer s H E c=>ac (bx aE (bi bT rfl (aR (vv 0)) (ej 1 jj.nd) (ai (bS (bj mv qj (vv 1) (ao)) (ai (dI)) (bt)))))
   (ac (aG (f0 2 jj.nd (vc b c (d_ (bE (zZ rfl) Ls (by rfl) N.Do PyProof.Rows.Boot.«sum» (d_ (vv 0)))))))
   (ac (bx aE (bi bT rfl (aR (vv 0)) (ej 1 jj.nd) (ai (oO CV (kX (i:=2) jj.nd rfl (by first|exact QY rfl|exact Sg rfl) (vc b c (d_ (vv 1))) JK)))))
   (ai (aK (ax (vv 2)))))),N.Ee,N.Ed.kp,N.Ef⟩⟩
theorem cz:c_ ["rests","many","pairs","lows","tops","begun","row","fewest_behind","most_behind"] ["rests","many","pairs"] (af oM):=hU
def jN(K:OU)(a:Ad):QF K a 2 "fillings" a.As a.At ["rests","many","pairs"] 3:=⟨_,λP w mg base N=>⟨by
 exact bp (k:=1) 3 9 _ N.Eg cz rfl rfl λc A outer s H E d=>ac (aG (f0 3 cz.nd (bf rfl (i4 ["low","high"] ["low","high"] []) (aR (vv 2)) (λcl C b s H=>⟨(bK rfl (ay (ej 0 g8) (ay (ej 1 g8) bq))),aL,λD=>aD rfl (vv 0) rfl⟩) (dG (aW am (aW am cU)) (aU (aU ck))) (dF (aV ar (aV ar cQ))) (λD=>aJ))))
   (ac (aG (f0 4 cz.nd (bf rfl (i4 ["rest","low","high"] ["rest","low","high"] []) (pA (by rfl) N.Dq (et (vv 0) (vv 2))) (λcl C b s H=>⟨(bK rfl (ay (ej 0 g8) (ay (bK rfl (ay (ej 1 g8) (ay (ej 2 g8) bq))) bq))),aL,λD=>aD rfl (bE (gr rfl) o9 (by rfl) N.Dh PyProof.Rows.Boot.«min» (et (vv 0) (vv 2))) rfl⟩) (dG (aW am (aW (dG (aW am (aW am cU)) (aU (aU ck))) cU)) (aU (aU ck))) (dF (aV ar (aV (dF (aV ar (aV ar cQ))) cQ))) (λD=>aJ))))
   (ac (aG (f0 5 cz.nd (eM (d_ (cc (et (cc (e9)) (vv 1)))))))
   (ac (bx aE (bi bT rfl (cr (by rfl) N.Di (d_ (cx N.Dd (d_ (vv 0))))) (ej 6 cz.nd) (ac (aG (f0 7 cz.nd (fc N.Do (d_ (lZ (vv 3) (k6 (bc aQ bO (vv 6) (ao))) (k7))))))
   (ac (aG (f0 8 cz.nd (fc N.Do (d_ (lZ (vv 4) (k6 (bc aQ bO (vv 6) (ao))) (k7))))))
   (ai (sS (i:=5) cz.nd rfl (by first|exact QY rfl|exact Sg rfl) rfl (i4 ["counts","left","count","lows","row","most_behind","tops","fewest_behind"] ["counts","left","count"] [3,6,8,4,7]) (aR (vv 5)) (λcl C b s H=>⟨(bK rfl (ay (ej 0 g8) (ay (ej 1 g8) bq))),aL,λD=>qd rfl rfl rfl (j5 (by rfl) N.Di (et (bE (lL rfl) w8 (by rfl) N.Dg PyProof.Rows.Boot.«max» (et (bA aM bF (vv 3) (vv 4)) (bc fA gQ (vv 1) (vv 5)))) (bc aQ bO (bE (gr rfl) o9 (by rfl) N.Dh PyProof.Rows.Boot.«min» (et (bA aM bF (vv 6) (vv 4)) (bc fA gQ (vv 1) (vv 7)))) (ao)))) (ej 2 g8) (aL) (aD rfl (cc (et (bc aQ bO (vv 0) (cc (d_ (vv 2)))) (bc fA gQ (vv 1) (vv 2)))) rfl)⟩) (dG (aW am (aW am cU)) (aU (aU ck))) (dF (aV ar (aV ar cQ))) (λD=>JF am ar (aJ))))))))
   (ai (aK (ax (bf rfl (i4 ["counts","left"] ["counts","left"] []) (aR (vv 5)) (λcl C b s H=>⟨(bK rfl (ay (ej 0 g8) (ay (ej 1 g8) bq))),pF (bj (dS d) fG (vv 1) (ao)),λD=>aD rfl (vv 0) rfl⟩) (dG (aW am (aW am cU)) (aU (aU ck))) (dF (aV ar (aV ar cQ))) (λD=>aJ)))))))),N.Eh,N.Eg.kp,N.Ei⟩⟩
theorem wE:c_ ["rowsums","over"] ["rowsums","over"] (af qL):=hU
def kS(K:OU)(a:Ad):QF K a 2 "need_of" a.Au a.Av ["rowsums","over"] 2:=⟨_,λP w mg base N=>⟨by
 exact bp (k:=1) 2 2 _ N.Ej wE rfl rfl λb A outer s H E c=>ai (aK (ax (fc N.Do (d_ (bf rfl (i4 ["row","rowsums"] ["row"] [0]) (aR (vv 1)) (λcl C d s H=>⟨(ej 0 g8),aL,λD=>aD rfl (bA aM bF (vv 1) (vv 0)) rfl⟩) am ar (λD=>aJ)))))),N.Ek,N.Ej.kp,N.El⟩⟩
theorem jk:c_ ["columnsums","bounds","over","column","lows"] ["columnsums","bounds","over","column"] (af kq):=hU
def cR(K:OU)(a:Ad):QF K a 2 "room_inside" a.Aw a.Ax ["columnsums","bounds","over","column"] 4:=⟨_,λP w mg base N=>⟨by
 exact bp (k:=1) 4 5 _ N.Em jk rfl rfl λb A outer s H E c=>ac (sS (i:=4) jk.nd rfl (by first|exact QY rfl|exact Sg rfl) rfl (i4 ["row","pairs","over","column"] ["row","pairs"] [2,3]) (jv (by rfl) N.Da (d_ (vv 1))) (λcl C d s H=>⟨(bK rfl (ay (ej 0 g8) (ay (ej 1 g8) bq))),pF (bj kZ (CW (neg:=On)) (vv 0) (vv 2)),λD=>aD rfl (bA aM bF (bA aM bF (vv 1) (vv 3)) (ao)) rfl⟩) (dG (aW am (aW am cU)) (aU (aU ck))) (dF (aV ar (aV ar cQ))) (λD=>aJ))
   (ai (aK (ax (bc fA gQ (bA aM bF (vv 0) (vv 3)) (fc N.Do (d_ (vv 4))))))),N.En,N.Em.kp,N.Eo⟩⟩
theorem p8:c_ ["bounds","over","column"] ["bounds","over","column"] (af kr):=hU
def cS(K:OU)(a:Ad):QF K a 2 "room_beside" a.Ay a.Az ["bounds","over","column"] 3:=⟨_,λP w mg base N=>⟨by
 exact bp (k:=1) 3 3 _ N.Ep p8 rfl rfl λb A outer s H E c=>ai (aK (ax (fc N.Do (d_ (bf rfl (i4 ["row","bounds","column"] ["row"] [0,2]) (aR (vv 1)) (λcl C d s H=>⟨(ej 0 g8),aL,λD=>aD rfl (bA aM bF (bA aM bF (bA aM bF (vv 1) (vv 0)) (vv 2)) (ao)) rfl⟩) am ar (λD=>aJ)))))),N.Er,N.Ep.kp,N.Es⟩⟩
theorem wD:c_ ["columnsums","bounds","over","into"] ["columnsums","bounds","over","into"] (af qK):=hU
def kR(K:OU)(a:Ad):QF K a 3 "room_of" a.A0 a.A1 ["columnsums","bounds","over","into"] 4:=⟨_,λP w mg base N=>⟨by
 have b:=(cR K a).2 P w base N;have c:=(cS K a).2 P w base N;exact bp (k:=2) 4 4 _ N.Et wD rfl rfl λe A outer s H E d=>ai (aK (ax (fc N.Do (d_ (bf rfl (i4 ["column","into","columnsums","bounds","over"] ["column"] [3,0,1,2]) (cr (by rfl) N.Di (d_ (cx N.Dd (d_ (vv 0))))) (λcl C f s H=>⟨(ej 0 g8),aL,λD=>aD rfl (Zt (bj yR (CW (neg:=Os)) (vv 0) (vv 1)) (vc b d (F0 (vv 2) (vv 3) (vv 4) (vv 0))) (vc c d (ro (vv 3) (vv 4) (vv 0)))) rfl⟩) am ar (λD=>aJ)))))),N.Eu,N.Et.kp,N.Ev⟩⟩
theorem sP:c_ ["columnsums","bounds","over"] ["columnsums","bounds","over"] (af mU):=hU
def iZ(K:OU)(a:Ad):QF K a 3 "narrowest" a.A2 a.A3 ["columnsums","bounds","over"] 3:=⟨_,λP w mg base N=>⟨by
 have b:=(cR K a).2 P w base N;have c:=(cS K a).2 P w base N;exact bp (k:=2) 3 3 _ N.Ew sP rfl rfl λe A outer s H E d=>ai (aK (ax (bf rfl (i4 ["column","columnsums","bounds","over"] ["column"] [0,1,2]) (cr (by rfl) N.Di (d_ (cx N.Dd (d_ (vv 0))))) (λcl C f s H=>⟨(ej 0 g8),pF (bj mv qj (vc b d (F0 (vv 1) (vv 2) (vv 3) (vv 0))) (vc c d (ro (vv 2) (vv 3) (vv 0)))),λD=>aD rfl (vv 0) rfl⟩) am ar (λD=>aJ)))),N.Ex,N.Ew.kp,N.Ey⟩⟩
theorem gJ:c_ ["many","told","number"] ["many"] (af qO):=hU
def kU(K:OU)(a:Ad):QF K a 2 "choices" a.A4 a.A5 ["many"] 1:=⟨_,λP w mg base N=>⟨by
 exact bp (k:=1) 1 3 _ N.Ez gJ rfl rfl λb A outer s H E c=>ac (aG (f0 1 gJ.nd (eM (d_ (eM (e9))))))
   (ac (bx aE (bi bT rfl (cr (by rfl) N.Di (d_ (vv 0))) (ej 2 gJ.nd) (ai (aG (f0 1 gJ.nd (bc aQ bO (vv 1) (bf rfl (i4 ["chosen","number"] ["chosen"] [2]) (aR (vv 1)) (λcl C d s H=>⟨(ej 0 g8),aL,λD=>aD rfl (bc aQ bO (vv 0) (eM (d_ (vv 1)))) rfl⟩) am ar (λD=>aJ))))))))
   (ai (aK (ax (vv 1))))),N.E2,N.Ez.kp,N.E3⟩⟩
theorem hZ:c_ ["rowsums","columnsums","bounds","over","into"] ["rowsums","columnsums","bounds"] (af mY):=hU
def eK(K:OU)(a:Ad):QF K a 4 "check_fit" a.A6 a.A7 ["rowsums","columnsums","bounds"] 3:=⟨_,λP w mg base N=>⟨by
 have c:=(kU K a).2 P w base N;have b:=(iZ K a).2 P w base N;have d:=(kS K a).2 P w base N;have e:=(kR K a).2 P w base N
 exact bp (k:=3) 3 5 _ N.E4 hZ rfl rfl λg A outer s H E f=>ai (bx aE (bi bT rfl (aR (vc c f (d_ (cx N.Dd (d_ (vv 0)))))) (ej 3 hZ.nd) (ac (aG (f0 4 hZ.nd (vc b f (ro (vv 1) (vv 2) (vv 3)))))
   (ai (bS (bj rL xa (vc d f (et (vv 0) (vv 3))) (vc e f (F0 (vv 1) (vv 2) (vv 3) (vv 4)))) (ai (dI)) (bt)))))),N.E5,N.E4.kp,N.E6⟩⟩
theorem eU:c_ ["rowsums","wide","many"] ["rowsums"] (af kM):=hU
def ib(K:OU)(a:Ad):QF K a 2 "check_wide" a.A8 a.A9 ["rowsums"] 1:=⟨_,λP w mg base N=>⟨by
 exact bp (k:=1) 1 3 _ N.E7 eU rfl rfl λb A outer s H E c=>ac (aG (f0 1 eU.nd (ao)))
   (ac (bx aE (bi bT rfl (aR (vv 0)) (ej 2 eU.nd) (ai (oO vI (kX (i:=1) eU.nd rfl (by first|exact QY rfl|exact Sg rfl) (bc aQ bO (vv 2) (ao)) vM)))))
   (ai (bS (bj rL xa (vv 1) (kD N.Dv)) (ai (dI)) (bt)))),N.E8,N.E7.kp,N.E9⟩⟩
theorem gc:c_ ["rowsums","columnsums","bounds","settled"] ["rowsums","columnsums","bounds"] (af gF):=hU
def c8(K:OU)(a:Ad):QF K a 4 "settled_for_net" a.Ba a.Bb ["rowsums","columnsums","bounds"] 3:=⟨_,λP w mg base N=>⟨by
 have c:=(ic K a).2 P w base N;have b:=(cE K a).2 P w base N;have d:=(ib K a).2 P w base N
 exact bp (k:=3) 3 4 _ N.Fa gc rfl rfl λf A outer s H E e=>ac (oN (de (vc c e (et (vv 0) (vv 1)))))
   (ac (aG (f0 3 gc.nd (vc b e (ro (vv 2) (cx N.Dd (d_ (vv 0))) (cx N.Dd (d_ (vv 1)))))))
   (ac (oN (de (vc d e (d_ (vv 0)))))
   (ai (aK (ax (vv 3)))))),N.Fb,N.Fa.kp,N.Fc⟩⟩
theorem kK:c_ ["rests","columnsums","bounds","column"] ["rests","columnsums","bounds","column"] (af gG):=hU
def bQ(K:OU)(a:Ad):QF K a 3 "column_fillings" a.Bc a.Bd ["rests","columnsums","bounds","column"] 4:=⟨_,λP w mg base N=>⟨by
 have b:=(jN K a).2 P w base N;exact bp (k:=2) 4 4 _ N.Fd kK rfl rfl λc A outer s H E d=>ai (aK (ax (vc b d (ro (vv 0) (bA aM bF (vv 1) (vv 3)) (bf rfl (i4 ["pairs","column"] ["pairs"] [3]) (aR (vv 2)) (λcl C e s H=>⟨(ej 0 g8),aL,λD=>aD rfl (bA aM bF (vv 0) (vv 1)) rfl⟩) am ar (λD=>aJ)))))),N.Fe,N.Fd.kp,N.Ff⟩⟩
theorem oF:c_ ["rests","counts"] ["rests","counts"] (af jl):=hU
def da(K:OU)(a:Ad):QF K a 2 "rests_behind" a.Be a.Bf ["rests","counts"] 2:=⟨_,λP w mg base N=>⟨by
 exact bp (k:=1) 2 2 _ N.Fg oF rfl rfl λb A outer s H E c=>ai (aK (ax (cj cu fY (by rfl) N.Dp PyProof.Rows.Boot.«tuple» (d_ (bf rfl (i4 ["rest","count"] ["rest","count"] []) (pA (by rfl) N.Dq (et (vv 0) (vv 1))) (λcl C d s H=>⟨(bK rfl (ay (ej 0 g8) (ay (ej 1 g8) bq))),aL,λD=>aD rfl (bc fA gQ (vv 0) (vv 1)) rfl⟩) (dG (aW am (aW am cU)) (aU (aU ck))) (dF (aV ar (aV ar cQ))) (λD=>aJ)))))),N.Fh,N.Fg.kp,N.Fi⟩⟩
theorem bP:c_ ["rowsums","columnsums","bounds","here","told","column","behind"] ["rowsums","columnsums","bounds"] (af ia):=hU
def eX(K:OU)(a:Ad):QF K a 4 "nodes_by_level" a.Bh a.Bi ["rowsums","columnsums","bounds"] 3:=⟨_,λP w mg base N=>⟨by
 have c:=(da K a).2 P w base N;have b:=(bQ K a).2 P w base N
 exact bp (k:=3) 3 7 _ N.Fj bP rfl rfl λe A outer s H E d=>ac (aG (f0 3 bP.nd (eM (d_ (cj cu fY (by rfl) N.Dp PyProof.Rows.Boot.«tuple» (d_ (vv 0)))))))
   (ac (me (f0 4 bP.nd (dR (d_ (vv 3)))))
   (ac (bx aE (bi bT rfl (cr (by rfl) N.Di (d_ (cx N.Dd (d_ (vv 1))))) (ej 5 bP.nd) (ac (aG (f0 6 bP.nd (AQ (by rfl) N.Dl rfl (i4 ["rests","counts","columnsums","bounds","column"] ["rests","counts"] [1,2,5]) (aR (vv 3)) (λcl C f s H=>⟨(ej 0 g8),aL,λD=>qd rfl rfl rfl (aR (vc b d (F0 (vv 0) (vv 2) (vv 3) (vv 4)))) (ej 1 g8) (aL) (tL (rS d) rfl (vc c d (et (vv 0) (vv 1))) rfl)⟩) am ar (λD=>nM am ar (CS)))))
   (ac (jJ (de (jQ QA Qt Qu dT (pv 4) (d_ (vv 6)))))
   (ai (aG (f0 3 bP.nd (vv 6))))))))
   (ai (aK (ax (vv 4)))))),N.Fk,N.Fj.kp,N.Fl⟩⟩
theorem bJ:c_ ["rests","filled","behind","tables","dealings","counts","tables_behind","dealings_behind"] ["rests","filled","behind"] (af kt):=hU
def gB(K:OU)(a:Ad):QF K a 4 "node_counts" a.Bj a.Bk ["rests","filled","behind"] 3:=⟨_,λP w mg base N=>⟨by
 have b:=(da K a).2 P w base N;have c:=(tF K a).2 P w base N
 exact bp (k:=3) 3 8 _ N.Fm bJ rfl rfl λe A outer s H E d=>ac (aG (f0 3 bJ.nd (ao)))
   (ac (aG (f0 4 bJ.nd (ao)))
   (ac (bx aE (bi bT rfl (aR (vv 1)) (ej 5 bJ.nd) (ac (HD (gl (bC aE (bC aE eZ)) (bB (bB dP))) (fq (bA (zB (Ze d)) NT (vv 2) (vc b d (et (vv 0) (vv 5)))) (bK rfl (ay (ej 6 bJ.nd) (ay (ej 7 bJ.nd) bq)))))
   (ac (oO vJ (kX (i:=3) bJ.nd rfl (by first|exact QY rfl|exact Sg rfl) (vv 6) zG))
   (ai (oO vJ (kX (i:=4) bJ.nd rfl (by first|exact QY rfl|exact Sg rfl) (bc mr rO (vc c d (d_ (vv 5))) (vv 7)) zG)))))))
   (ai (aK (ax (cc (et (vv 3) (vv 4)))))))),N.Fn,N.Fm.kp,N.Fo⟩⟩
theorem bu:c_ ["rowsums","columnsums","bounds","levels","last","here","told","level","behind"] ["rowsums","columnsums","bounds"] (af iI):=hU
def dM(K:OU)(a:Ad):QF K a 5 "counted_nodes" a.Bl a.Bm ["rowsums","columnsums","bounds"] 3:=⟨_,λP w mg base N=>⟨by
 have d:=(eX K a).2 P w base N;have c:=(bQ K a).2 P w base N;have e:=(gB K a).2 P w base N
 exact bp (k:=4) 3 9 _ N.Fp bu rfl rfl λh A outer s H E f=>ac (aG (f0 3 bu.nd (vc d f (ro (vv 0) (vv 1) (vv 2)))))
   (ac (aG (f0 4 bu.nd (cx N.Dd (d_ (vv 1)))))
   (ac (yq (kb:=Os) (i:=5) bu.nd rfl (by first|exact QY rfl|exact Sg rfl) rfl (i4 ["rests"] ["rests"] []) (aR (bA aM bF (vv 3) (vv 4))) (λcl C g s H=>⟨(ej 0 g8),aL,λD=>jR (b:=Os) (rS f) rfl (vv 0) (cc (et (ao) (ao))) rfl⟩) am ar (λD=>nN))
   (ac (me (f0 6 bu.nd (dR (d_ (vv 5)))))
   (ac (bx aE (bi bT rfl (DE (by rfl) N.Dj (by rfl) N.Di (d_ (vv 4))) (ej 7 bu.nd) (ac (aG (f0 8 bu.nd (vv 5)))
   (ac (yq (kb:=Os) (i:=5) bu.nd rfl (by first|exact QY rfl|exact Sg rfl) rfl (i4 ["rests","columnsums","bounds","level","behind"] ["rests"] [1,2,7,8]) (aR (bA aM bF (vv 3) (vv 7))) (λcl C g s H=>⟨(ej 0 g8),aL,λD=>jR (b:=Os) (rS f) rfl (vv 0) (vc e f (ro (vv 0) (vc c f (F0 (vv 0) (vv 1) (vv 2) (vv 3))) (vv 4))) rfl⟩) am ar (λD=>nN))
   (ai (jJ (de (jQ QA Qt Qu dT (pv 6) (d_ (vv 5))))))))))
   (ai (aK (ax (IK (kb:=On) rfl (i4 ["level","nodes","rests","counts"] ["level","nodes","rests","counts"] []) (jv (by rfl) N.Da (d_ (Na (vv 6) (AO sD w6 (ao))))) (λcl C g s H=>⟨(bK rfl (ay (ej 0 g8) (ay (ej 1 g8) bq))),aL,λD=>qd rfl rfl rfl (JM (vv 1)) (bK rfl (ay (ej 2 g8) (ay (ej 3 g8) bq))) (aL) (jR (b:=On) (rS f) rfl (cc (et (vv 0) (vv 2))) (vv 3) rfl)⟩) (dG (aW am (aW am cU)) (aU (aU ck))) (dF (aV ar (aV ar cQ))) (λD=>nM (dG (aW am (aW am cU)) (aU (aU ck))) (dF (aV ar (aV ar cQ))) (nN)))))))))),N.Fq,N.Fp.kp,N.Fs⟩⟩
theorem ym:c_ ["_law_found","_law_due"] ["_law_found","_law_due"] (af sV):=hU
def fZ(K:OU)(a:Ad)(b:List D->M D):G:=
  aN (y4 (uy (aP rQ (ag (ah 1) (ag (aP fE (ag (fC (.ty "list")) (ag (fC (.ty "tuple")) (aF)))) (aF))))) (aN (y4 (lE (fB (f2 (i8) (aP iq (ag (ah 1) (ag (fC (.ty "list")) (aF)))) (aP iq (ag (ah 0) (ag (fC (.ty "list")) (aF)))))) (fB (f2 (i8) (aP iq (ag (ah 1) (ag (fC (.ty "tuple")) (aF)))) (aP iq (ag (ah 0) (ag (fC (.ty "tuple")) (aF))))))) (i9 (fC (.bl Os))) (gNil))
  (aN (y4 (fB (f2 (i8) (aP eY (ag (ah 0) (aF))) (aP eY (ag (ah 1) (aF))))) (i9 (fC (.bl Os))) (gNil))
  (i9 (f2 (O2 On) (fC (.bl Os)) (cf 2 [] (wS (ag (ah 0) (ag (ah 1) (aF)))) (Q_ (eW (jm 0) (eW (jm 1) jH))) (λ_=>M.ret On) (lq (eV b (ag (ah 0) (ag (ah 1) (aF)))))))))) (gNil))
  (aN (y4 (fB (f2 (xl) (ah 1) (fC .non))) (i9 (f2 (xl) (ah 0) (fC .non))) (gNil))
  (aN (y4 (lE (fB (f2 (i8) (aP iq (ag (ah 1) (ag (fC (.ty "str")) (aF)))) (aP iq (ag (ah 0) (ag (fC (.ty "str")) (aF)))))) (fB (f2 (i8) (aP iq (ag (ah 1) (ag (fC (.ty "bool")) (aF)))) (aP iq (ag (ah 0) (ag (fC (.ty "bool")) (aF))))))) (i9 (fC (.bl Os))) (gNil))
  (i9 (xA (aP rQ (ag (ah 0) (ag (aP fE (ag (fC (.ty "int")) (ag (fC (.ty "str")) (aF)))) (aF)))) (f2 (nS) (ah 0) (ah 1))))))
def cq(K:OU)(a:Ad):Nat->List D->M D
 |0=>λ_=>M.fail
 |n+1=>fK 2 (fZ K a (cq K a n))
theorem oY(N:x0 K mg a):∀n,fw P w K mg base (hO P w) (n+1) a.Br a.Bs ["_law_found","_law_due"] (F3 K 2 (cq K a n))
 |0=>⟨λvs H Q E h=>h.1,λA outer s H args us vs Q E b g i r h=>by
  obtain⟨_,F,ds,β,_,_,j,β1,e,_⟩:=h;cases e⟩
 |n+1=>by
  have c:=oY N n;unfold cq;exact bp (k:=n+1) 2 2 (fZ K a (cq K a n)) N.F4 ym rfl rfl λf A outer s H E b=>ac (bS (l6 (bE pP zu (by rfl) N.Dc PyProof.Rows.Boot.«isinstance» (et (vv 1) (cc (et (rx (d:= .ty "list") (cT (v:= .ty "list") (by rfl) N.Df PyProof.Rows.Boot.«list» rfl) (λ_ _=>rfl)) (rx (d:= .ty "tuple") (cT (v:= .ty "tuple") (by rfl) N.Dp PyProof.Rows.Boot.«tuple» rfl) (λ_ _=>rfl))))))) (ac (bS (jh (sC (bj (gh b) iQ (kE N.Dc (et (vv 1) (rx (d:= .ty "list") (cT (v:= .ty "list") (by rfl) N.Df PyProof.Rows.Boot.«list» rfl) (λ_ _=>rfl)))) (kE N.Dc (et (vv 0) (rx (d:= .ty "list") (cT (v:= .ty "list") (by rfl) N.Df PyProof.Rows.Boot.«list» rfl) (λ_ _=>rfl))))) (oh (bj (gh b) iQ (kE N.Dc (et (vv 1) (rx (d:= .ty "tuple") (cT (v:= .ty "tuple") (by rfl) N.Dp PyProof.Rows.Boot.«tuple» rfl) (λ_ _=>rfl)))) (kE N.Dc (et (vv 0) (rx (d:= .ty "tuple") (cT (v:= .ty "tuple") (by rfl) N.Dp PyProof.Rows.Boot.«tuple» rfl) (λ_ _=>rfl)))))))) (ai (aK (ax (m8)))) (bt))
   (ac (bS (bj (gh b) iQ (cx N.Dd (d_ (vv 0))) (cx N.Dd (d_ (vv 1)))) (ai (aK (ax (m8)))) (bt))
   (ai (aK (ax (l5 kZ (CW (neg:=On)) (m8) (bf rfl (i4 ["_law_one","_law_other"] ["_law_one","_law_other"] []) (pA (by rfl) N.Dq (et (vv 0) (vv 1))) (λcl C l s H=>⟨(bK rfl (ay (ej 0 g8) (ay (ej 1 g8) bq))),aL,λD=>aD rfl (xU c (b.mono (OD _)) (by rfl) N.F5 N.F4.kp N.F6 rK (et (vv 0) (vv 1)) (aS (aS zv))) rfl⟩) (dG (aW am (aW am cU)) (aU (aU ck))) (dF (aV ar (aV ar cQ))) (λD=>aJ)))))))) (bt))
   (ac (bS (bj tM w9 (vv 1) (wk)) (ai (aK (ax (l5 tM w9 (vv 0) (wk))))) (bt))
   (ac (bS (jh (sC (bj (gh b) iQ (kE N.Dc (et (vv 1) (rx (d:= .ty "str") (cT (v:= .ty "str") (by rfl) N.Dm PyProof.Rows.Boot.«str» rfl) (λ_ _=>rfl)))) (kE N.Dc (et (vv 0) (rx (d:= .ty "str") (cT (v:= .ty "str") (by rfl) N.Dm PyProof.Rows.Boot.«str» rfl) (λ_ _=>rfl))))) (oh (bj (gh b) iQ (kE N.Dc (et (vv 1) (rx (d:= .ty "bool") (cT (v:= .ty "bool") (by rfl) N.C9 PyProof.Rows.Boot.«bool» rfl) (λ_ _=>rfl)))) (kE N.Dc (et (vv 0) (rx (d:= .ty "bool") (cT (v:= .ty "bool") (by rfl) N.C9 PyProof.Rows.Boot.«bool» rfl) (λ_ _=>rfl)))))))) (ai (aK (ax (m8)))) (bt))
   (ai (aK (ax (GR (bE pP zu (by rfl) N.Dc PyProof.Rows.Boot.«isinstance» (et (vv 0) (cc (et (rx (d:= .ty "int") (cT (v:= .ty "int") (by rfl) N.Db PyProof.Rows.Boot.«int» rfl) (λ_ _=>rfl)) (rx (d:= .ty "str") (cT (v:= .ty "str") (by rfl) N.Dm PyProof.Rows.Boot.«str» rfl) (λ_ _=>rfl)))))) (GQ (l5 (dS b) fG (vv 0) (vv 1)))))))))
theorem yT(N:x0 K mg a):FB P w K mg base 7 "_law_same" a.Br a.Bs ["_law_found","_law_due"] 2 (cq K a 5):=⟨(oY P w base N 5).mono (by decide),N.F5,N.F4.kp,N.F6⟩
theorem gf:c_ ["_law_bag_here","_law_block","_law_columns","_law_things","_law_grid_here","_law_thing","_law_at","_law_to"] ["_law_bag_here","_law_block","_law_columns","_law_things"] (af sY):=hU
def jM(K:OU)(a:Ad):QF K a 3 "_law_grid" a.Bt a.Bu ["_law_bag_here","_law_block","_law_columns","_law_things"] 4:=⟨_,λP w mg base N=>⟨by
 have b:=iS P w base N
 exact bp (k:=2) 4 8 _ N.F7 gf rfl rfl λd A outer s H E c=>ac (Ky (i:=4) gf.nd rfl (by first|exact QY rfl|exact Sg rfl) rfl (i4 ["_law_row","_law_columns"] ["_law_row"] [2]) (cr (by rfl) N.Di (d_ (vv 1))) (λcl C e s H=>⟨(ej 0 g8),aL,λD=>aD rfl (ND (d_ (ao)) (vv 1)) rfl⟩) am ar (λD=>vG))
   (ac (bx aE (bi bT rfl (cr (by rfl) N.Di (d_ (vv 3))) (ej 5 gf.nd) (ac (aG (f0 6 gf.nd (vc b c (et (vv 0) (vv 1)))))
   (ac (aG (f0 7 gf.nd (vc b c (et (vv 0) (vv 2)))))
   (ai (s0 (fq (bc aQ bO (bA aM bF (bA aM bF (vv 4) (vv 6)) (vv 7)) (ao)) (ig (ft dh (pv 4) (vv 6) (λ_ _=>rfl)) (vv 7) fQ))))))))
   (ai (aK (ax (vv 4))))),N.F8,N.F7.kp,N.F9⟩⟩
theorem gH:c_ ["_law_bag_here","_law_way","_law_block","_law_columns"] ["_law_bag_here"] (af qM):=hU
def iM(K:OU)(a:Ad):QF K a 4 "_law_small" a.Bv a.Bw ["_law_bag_here"] 1:=⟨_,λP w mg base N=>⟨by
 have b:=iS P w base N;have c:=(jM K a).2 P w base N
 exact bp (k:=3) 1 4 _ N.Ga gH rfl rfl λe A outer s H E d=>ac (aG (f0 1 gH.nd (vc b d (et (vv 0) (ao)))))
   (ac (bS (bj (dS d) fG (vv 1) (ao)) (ai (aK (ax (vc c d (F0 (vv 0) (ao) (ao) (vc b d (et (vv 0) (ao)))))))) (bt))
   (ac (bS (bj (dS d) fG (vv 1) (ao)) (ai (aK (ax (vc c d (F0 (vv 0) (ao) (bc aQ bO (ao) (vc b d (et (vv 0) (ao)))) (vc b d (et (vv 0) (ao)))))))) (bt))
   (ac (bS (bj (dS d) fG (vv 1) (ao)) (ai (aK (ax (vc c d (F0 (vv 0) (bc aQ bO (ao) (vc b d (et (vv 0) (ao)))) (ao) (vc b d (et (vv 0) (ao)))))))) (bt))
   (ac (aG (f0 2 gH.nd (bc aQ bO (ao) (vc b d (et (vv 0) (ao))))))
   (ac (aG (f0 3 gH.nd (bc aQ bO (ao) (vc b d (et (vv 0) (ao))))))
   (ai (aK (ax (vc c d (F0 (vv 0) (vv 2) (vv 3) (vc b d (et (vv 0) (ao))))))))))))),N.Gb,N.Ga.kp,N.Gc⟩⟩
theorem uP:c_ ["_law_block"] ["_law_block"] (af oI):=hU
def oR(K:OU)(a:Ad):QF K a 2 "_law_turned" a.Bx a.By ["_law_block"] 1:=⟨_,λP w mg base N=>⟨by
 exact bp (k:=1) 1 1 _ N.Gd uP rfl rfl λb A outer s H E d=>ai (aK (ax (bf rfl (i4 ["_law_to","_law_block"] ["_law_to"] [0]) (cr (by rfl) N.Di (d_ (cx N.Dd (d_ (bA aM bF (vv 0) (ao)))))) (λcl C c s H=>⟨(ej 0 g8),aL,λD=>aD rfl (bf rfl (i4 ["_law_row","_law_to"] ["_law_row"] [0]) (aR (vv 1)) (λcl C c s H=>⟨(ej 0 g8),aL,λD=>aD rfl (bA aM bF (vv 0) (vv 1)) rfl⟩) am ar (λD=>aJ)) rfl⟩) am ar (λD=>aJ)))),N.Ge,N.Gd.kp,N.Gf⟩⟩
theorem sQ:c_ ["_law_grid_here"] ["_law_grid_here"] (af mV):=hU
def i5(K:OU)(a:Ad):QF K a 2 "_law_rowsums" a.Bz a.B0 ["_law_grid_here"] 1:=⟨_,λP w mg base N=>⟨by
 exact bp (k:=1) 1 1 _ N.Gg sQ rfl rfl λb A outer s H E c=>ai (aK (ax (bf rfl (i4 ["_law_row"] ["_law_row"] []) (aR (vv 0)) (λcl C d s H=>⟨(ej 0 g8),aL,λD=>aD rfl (fc N.Do (d_ (vv 0))) rfl⟩) am ar (λD=>aJ)))),N.Gh,N.Gg.kp,N.Gi⟩⟩
theorem oG:c_ ["_law_grid_here"] ["_law_grid_here"] (af jo):=hU
def fU(K:OU)(a:Ad):QF K a 3 "_law_columnsums" a.B3 a.B4 ["_law_grid_here"] 1:=⟨_,λP w mg base N=>⟨by
 have b:=(oR K a).2 P w base N;exact bp (k:=2) 1 1 _ N.Gj oG rfl rfl λc A outer s H E d=>ai (aK (ax (bf rfl (i4 ["_law_column"] ["_law_column"] []) (aR (vc b d (d_ (vv 0)))) (λcl C e s H=>⟨(ej 0 g8),aL,λD=>aD rfl (fc N.Do (d_ (vv 0))) rfl⟩) am ar (λD=>aJ)))),N.Gk,N.Gj.kp,N.Gm⟩⟩
theorem yo:c_ ["_law_block","_law_columns"] ["_law_block","_law_columns"] (af sZ):=hU
def qW(K:OU)(a:Ad):G:=
  lC (ir 1 [1] (cX fR (ag (ah 0) (aF))) (jm 0) (λ_=>M.ret On) (uJ (eL 1 [] (cX fR (ag (ah 1) (aF))) (jm 0) (λ_=>M.ret On) (lq (aP fE (ag (fC (.int 0)) (ag (fC (.int 40)) (aF))))))))
def k9(K:OU)(a:Ad):List D->M (List (List D)):=mP 2 (qW K a)
theorem wO(N:x0 K mg a):fw P w K mg base (hO P w) 2 a.B5 a.B7 ["_law_block","_law_columns"] (ZD K 2 (k9 K a)):=by
 unfold k9;exact JR (k:=1) 2 2 (qW K a) N.Gn yo rfl rfl λb A outer s H E d=>ai (Jd (ax (LG rfl (i4 ["_law_at","_law_columns"] ["_law_at"] [1]) (cr (by rfl) N.Di (d_ (vv 0))) (λcl C c s H=>⟨(ej 0 g8),aL,λD=>aD rfl (yY rfl (i4 ["_law_to"] ["_law_to"] []) (cr (by rfl) N.Di (d_ (vv 1))) (λcl C c s H=>⟨(ej 0 g8),aL,λD=>aD rfl (cc (et (ao) (ao))) rfl⟩) am ar (λD=>aJ)) rfl⟩) am ar (λD=>vG))))
theorem cZ:c_ ["_law_bag_here","_law_grid_here","_law_told","_law_at","_law_row","_law_to","_law_count","_law_way"] ["_law_bag_here","_law_grid_here"] (af oK):=hU
def gM(K:OU)(a:Ad):QF K a 3 "_law_bounds" a.B8 a.Ca ["_law_bag_here","_law_grid_here"] 2:=⟨_,λP w mg base N=>⟨by
 have c:=wO P w base N;have b:=iS P w base N
 exact bp (k:=2) 2 8 _ N.Gq cZ rfl rfl λe A outer s H E d=>ac (HC (f0 2 cZ.nd (LH c (d.mono (by decide)) (by rfl) N.Go N.Gn.kp N.Gp f7 (et (cx N.Dd (d_ (vv 1))) (cx N.Dd (d_ (bA aM bF (vv 1) (ao))))) (aS (aS zv)))))
   (ac (bS (bj (dS d) fG (vc b d (et (vv 0) (ao))) (ao)) (ai (aK (ax (vv 2)))) (bt))
   (ac (bx (gl (bC aE (bC aE eZ)) (bB (bB dP))) (bi bT rfl (jv (by rfl) N.Da (d_ (vv 1))) (bK rfl (ay (ej 3 cZ.nd) (ay (ej 4 cZ.nd) bq))) (ai (bx (gl (bC aE (bC aE eZ)) (bB (bB dP))) (bi bT rfl (jv (by rfl) N.Da (d_ (vv 4))) (bK rfl (ay (ej 5 cZ.nd) (ay (ej 6 cZ.nd) bq))) (ac (aG (f0 7 cZ.nd (vc b d (et (vv 0) (ao)))))
   (ac (bS (bj (dS d) fG (vv 7) (ao)) (ai (s0 (fq (cc (et (bc fA gQ (vv 6) (vc b d (et (vv 0) (bc aQ bO (vv 6) (ao))))) (bE (gr rfl) o9 (by rfl) N.Dh PyProof.Rows.Boot.«min» (et (ao) (bc aQ bO (vv 6) (vc b d (et (vv 0) (ao)))))))) (ig (ft dh (pv 2) (vv 3) (λ_ _=>rfl)) (vv 5) fQ)))) (bt))
   (ai (bS (bj (dS d) fG (vv 7) (ao)) (ai (s0 (fq (cc (et (ao) (bE (lL rfl) w8 (by rfl) N.Dg PyProof.Rows.Boot.«max» (et (vv 6) (vc b d (et (vv 0) (ao))))))) (ig (ft dh (pv 2) (vv 3) (λ_ _=>rfl)) (vv 5) fQ)))) (bt))))))))))
   (ai (aK (ax (vv 2)))))),N.Gr,N.Gq.kp,N.Gs⟩⟩
theorem uQ:c_ ["_law_block"] ["_law_block"] (af oJ):=hU
def oS(K:OU)(a:Ad):QF K a 2 "_law_copied" a.Cb a.Cc ["_law_block"] 1:=⟨_,λP w mg base N=>⟨by
 exact bp (k:=1) 1 1 _ N.Gu uQ rfl rfl λb A outer s H E c=>ai (aK (ax (bf rfl (i4 ["_law_row"] ["_law_row"] []) (aR (vv 0)) (λcl C d s H=>⟨(ej 0 g8),aL,λD=>aD rfl (cj dX lh (by rfl) N.Df PyProof.Rows.Boot.«list» (d_ (vv 0))) rfl⟩) am ar (λD=>aJ)))),N.Gv,N.Gu.kp,N.Gx⟩⟩
theorem dQ:c_ ["_law_rests","_law_lot","_law_pairs","_law_found","_law_rest","_law_duo","_law_longer","_law_one","_law_count"] ["_law_rests","_law_lot","_law_pairs"] (af u9):=hU
def jq(K:OU)(a:Ad):QF K a 2 "_law_fit" a.Cd a.Cf ["_law_rests","_law_lot","_law_pairs"] 3:=⟨_,λP w mg base N=>⟨by
 exact bp (k:=1) 3 9 _ N.Gy dQ rfl rfl λb A outer s H E c=>ac (aG (f0 3 dQ.nd (eM (d_ (eM (e9))))))
   (ac (bx (gl (bC aE (bC aE eZ)) (bB (bB dP))) (bi bT rfl (pA (by rfl) N.Dq (et (vv 0) (vv 2))) (bK rfl (ay (ej 4 dQ.nd) (ay (ej 5 dQ.nd) bq))) (ac (me (f0 6 dQ.nd (dR (e9))))
   (ac (bx aE (bi bT rfl (aR (vv 3)) (ej 7 dQ.nd) (ai (bx aE (bi bT rfl (j5 (by rfl) N.Di (et (bA aM bF (vv 5) (ao)) (bc aQ bO (bE (gr rfl) o9 (by rfl) N.Dh PyProof.Rows.Boot.«min» (et (bA aM bF (vv 5) (ao)) (vv 4))) (ao)))) (ej 8 dQ.nd) (ai (jJ (de (jQ QA Qt Qu dT (pv 6) (d_ (bc aQ bO (vv 7) (eM (d_ (vv 8))))))))))))))
   (BJ 6 (ai (aG (f0 3 dQ.nd (vv 6)))))))))
   (ai (aK (ax (bf rfl (i4 ["_law_one","_law_lot"] ["_law_one"] [1]) (aR (vv 3)) (λcl C d s H=>⟨(ej 0 g8),pF (bj (dS c) fG (fc N.Do (d_ (vv 0))) (vv 1)),λD=>aD rfl (vv 0) rfl⟩) am ar (λD=>aJ)))))),N.Gz,N.Gy.kp,N.G0⟩⟩
theorem yn:c_ ["_law_rests","_law_column"] ["_law_rests","_law_column"] (af sX):=hU
def jL(K:OU)(a:Ad):QF K a 2 "_law_less" a.Cg a.Ch ["_law_rests","_law_column"] 2:=⟨_,λP w mg base N=>⟨by
 exact bp (k:=1) 2 2 _ N.G1 yn rfl rfl λb A outer s H E c=>ai (aK (ax (bf rfl (i4 ["_law_rest","_law_count"] ["_law_rest","_law_count"] []) (pA (by rfl) N.Dq (et (vv 0) (vv 1))) (λcl C d s H=>⟨(bK rfl (ay (ej 0 g8) (ay (ej 1 g8) bq))),aL,λD=>aD rfl (bc fA gQ (vv 0) (vv 1)) rfl⟩) (dG (aW am (aW am cU)) (aU (aU ck))) (dF (aV ar (aV ar cQ))) (λD=>aJ)))),N.G2,N.G1.kp,N.G3⟩⟩
theorem bN:c_ ["_law_rowsums_here","_law_columnsums_here","_law_limits","_law_found","_law_to","_law_lot","_law_longer","_law_told","_law_rests","_law_column"] ["_law_rowsums_here","_law_columnsums_here","_law_limits"] (af mW):=hU
def i6(K:OU)(a:Ad):QF K a 3 "_law_listing" a.Ci a.Cj ["_law_rowsums_here","_law_columnsums_here","_law_limits"] 3:=⟨_,λP w mg base N=>⟨by
 have c:=(jq K a).2 P w base N;have b:=(jL K a).2 P w base N
 exact bp (k:=2) 3 10 _ N.G4 bN rfl rfl λe A outer s H E d=>ac (aG (f0 3 bN.nd (eM (d_ (cc (et (eM (e9)) (cj dX lh (by rfl) N.Df PyProof.Rows.Boot.«list» (d_ (vv 0)))))))))
   (ac (bx (gl (bC aE (bC aE eZ)) (bB (bB dP))) (bi bT rfl (jv (by rfl) N.Da (d_ (vv 1))) (bK rfl (ay (ej 4 bN.nd) (ay (ej 5 bN.nd) bq))) (ac (me (f0 6 bN.nd (dR (e9))))
   (ac (bx (gl (bC aE (bC aE eZ)) (bB (bB dP))) (bi bT rfl (aR (vv 3)) (bK rfl (ay (ej 7 bN.nd) (ay (ej 8 bN.nd) bq))) (ai (bx aE (bi bT rfl (aR (vc c d (ro (vv 8) (vv 5) (bf rfl (i4 ["_law_row","_law_to"] ["_law_row"] [4]) (aR (vv 2)) (λcl C f s H=>⟨(ej 0 g8),aL,λD=>aD rfl (bA aM bF (vv 0) (vv 1)) rfl⟩) am ar (λD=>aJ))))) (ej 9 bN.nd) (ai (jJ (de (jQ QA Qt Qu dT (pv 6) (d_ (cc (et (bc aQ bO (vv 7) (eM (d_ (vv 9)))) (vc b d (et (vv 8) (vv 9)))))))))))))))
   (BJ 6 (ai (aG (f0 3 bN.nd (vv 6)))))))))
   (ai (aK (ax (bf rfl (i4 ["_law_told","_law_rests"] ["_law_told","_law_rests"] []) (aR (vv 3)) (λcl C f s H=>⟨(bK rfl (ay (ej 0 g8) (ay (ej 1 g8) bq))),aL,λD=>aD rfl (vv 0) rfl⟩) (dG (aW am (aW am cU)) (aU (aU ck))) (dF (aV ar (aV ar cQ))) (λD=>aJ)))))),N.G5,N.G4.kp,N.G6⟩⟩
theorem d8:c_ ["_law_lot","_law_found","_law_k"] ["_law_lot"] (af ku):=hU
def gC(K:OU)(a:Ad):QF K a 2 "_law_factorial" a.Ck a.Cl ["_law_lot"] 1:=⟨_,λP w mg base N=>⟨by
 exact bp (k:=1) 1 3 _ N.G7 d8 rfl rfl λb A outer s H E c=>ac (aG (f0 1 d8.nd (ao)))
   (ac (bx aE (bi bT rfl (j5 (by rfl) N.Di (et (ao) (bc aQ bO (vv 0) (ao)))) (ej 2 d8.nd) (ai (aG (f0 1 d8.nd (bc mr rO (vv 1) (vv 2)))))))
   (ai (aK (ax (vv 1))))),N.G8,N.G7.kp,N.G9⟩⟩
theorem iF:c_ ["_law_parts","_law_under","_law_part"] ["_law_parts"] (af sU):=hU
def nE(K:OU)(a:Ad):QF K a 3 "_law_ways" a.Cm a.Cn ["_law_parts"] 1:=⟨_,λP w mg base N=>⟨by
 have b:=(gC K a).2 P w base N
 exact bp (k:=2) 1 3 _ N.Ha iF rfl rfl λd A outer s H E c=>ac (aG (f0 1 iF.nd (ao)))
   (ac (bx aE (bi bT rfl (aR (vv 0)) (ej 2 iF.nd) (ai (aG (f0 1 iF.nd (bc mr rO (vv 1) (vc b c (d_ (vv 2)))))))))
   (ai (aK (ax (bc BX Lw (vc b c (d_ (fc N.Do (d_ (vv 0))))) (vv 1)))))),N.Hb,N.Ha.kp,N.Hc⟩⟩
theorem f6:c_ ["_law_columns","_law_found","_law_column"] ["_law_columns"] (af oH):=hU
def jK(K:OU)(a:Ad):QF K a 4 "_law_weight" a.Co a.Cp ["_law_columns"] 1:=⟨_,λP w mg base N=>⟨by
 have b:=(nE K a).2 P w base N
 exact bp (k:=3) 1 3 _ N.Hd f6 rfl rfl λc A outer s H E d=>ac (aG (f0 1 f6.nd (ao)))
   (ac (bx aE (bi bT rfl (aR (vv 0)) (ej 2 f6.nd) (ai (aG (f0 1 f6.nd (bc mr rO (vv 1) (vc b d (d_ (vv 2)))))))))
   (ai (aK (ax (vv 1))))),N.He,N.Hd.kp,N.Hf⟩⟩
theorem iH:c_ ["self","rowsums","columnsums","bounds","settled"] ["self","rowsums","columnsums","bounds"] (af jp):=hU
def ul(K:OU)(a:Ad):IP:=
  mD (lB 4 (eV (c8 K a).1 (ag (ah 1) (ag (ah 2) (ag (ah 3) (aF))))))
  (mD (pE (eV (eK K a).1 (ag (ah 1) (ag (ah 2) (ag (ah 4) (aF))))))
  (iR (aP rN (ag (ah 1) (aF)))
  (iR (aP rN (ag (ah 2) (aF)))
  (iR (ah 4)
  (iR (eV (dM K a).1 (ag (ah 1) (ag (ah 2) (ag (ah 4) (aF)))))
  (HZ))))))
def o4(K:OU)(a:Ad):List D->M (List D):=mE 5 (ul K a)
theorem Jv(N:x0 K mg a):fw P w K mg base (hO P w) 6 a.Cu a.Cv ["self","rowsums","columnsums","bounds"] (Y8 K a.Ae ["row_list","column_list","pairs","counted"] 3 (o4 K a)):=by
 have c:=(dM K a).2 P w base N;have d:=(eK K a).2 P w base N;have b:=(c8 K a).2 P w base N;unfold o4
 exact JQ (k:=5) 3 5 (ul K a) N.Hm iH rfl rfl λf A outer s H E e=>Im (aG (f0 4 iH.nd (vc b e (ro (vv 1) (vv 2) (vv 3)))))
   (Im (oN (de (vc d e (ro (vv 1) (vv 2) (vv 4)))))
   (rR N.Ia N.Ih (by decide) (by decide) (oW (pv 0) (cj dX lh (by rfl) N.Df PyProof.Rows.Boot.«list» (d_ (vv 1))) rfl)
   (rR N.Ia N.Id (by decide) (by decide) (oW (pv 0) (cj dX lh (by rfl) N.Df PyProof.Rows.Boot.«list» (d_ (vv 2))) rfl)
   (rR N.Ia N.Ig (by decide) (by decide) (oW (pv 0) (vv 4) rfl)
   (rR N.Ia N.Ie (by decide) (by decide) (oW (pv 0) (vc c e (ro (vv 1) (vv 2) (vv 4))) rfl)
   (N1))))))
theorem BH:c_ ["_law_grid_here","_law_limits"] ["_law_grid_here","_law_limits"] (af u7):=hU
def qa(K:OU)(a:Ad):QF K a 8 "_law_net" a.Cq a.Cr ["_law_grid_here","_law_limits"] 2:=⟨_,λP w mg base N=>⟨by
 have c:=(i5 K a).2 P w base N;have b:=(fU K a).2 P w base N;have e:=Jv P w base N;have d:=(oS K a).2 P w base N;exact bp (k:=7) 2 2 _ N.Hg BH rfl rfl λg A outer s H E f=>ai (aK (ax (IJ N.Hn e (f.mono (by decide)) (by rfl) N.Ib N.Ho f7 (et (vc c f (d_ (vv 0))) (vc b f (d_ (vv 0)))) (IG (vc d f (d_ (vv 1))) (J9)) (aS (aS zv)) (aS zv) rfl))),N.Hh,N.Hg.kp,N.Hi⟩⟩
theorem dz:c_ ["_law_rowsums_here","_law_columnsums_here","_law_limits","_law_levels","_law_to","_law_lot","_law_seen","_law_rests","_law_column"] ["_law_rowsums_here","_law_columnsums_here","_law_limits"] (af qN):=hU
def kT(K:OU)(a:Ad):QF K a 3 "_law_nodes" a.Cs a.Ct ["_law_rowsums_here","_law_columnsums_here","_law_limits"] 3:=⟨_,λP w mg base N=>⟨by
 have d:=(jq K a).2 P w base N;have c:=(jL K a).2 P w base N
 exact bp (k:=2) 3 9 _ N.Hj dz rfl rfl λf A outer s H E e=>ac (me (f0 3 dz.nd (dR (d_ (eM (d_ (cj cu fY (by rfl) N.Dp PyProof.Rows.Boot.«tuple» (d_ (vv 0)))))))))
   (ac (bx (gl (bC aE (bC aE eZ)) (bB (bB dP))) (bi bT rfl (jv (by rfl) N.Da (d_ (vv 1))) (bK rfl (ay (ej 4 dz.nd) (ay (ej 5 dz.nd) bq))) (ac (Nq (f0 6 dz.nd (tK (b:=Os))))
   (ac (Kz aE (bi bT rfl (yL (ft dh (pv 3) (pv 4) (λ_ _=>rfl))) (ej 7 dz.nd) (ai (bx aE (bi bT rfl (aR (vc d e (ro (vv 7) (vv 5) (bf rfl (i4 ["_law_row","_law_to"] ["_law_row"] [4]) (aR (vv 2)) (λcl C g s H=>⟨(ej 0 g8),aL,λD=>aD rfl (bA aM bF (vv 0) (vv 1)) rfl⟩) am ar (λD=>aJ))))) (ej 8 dz.nd) (ai (KA (fq (m8) (ig (pv 6) (cj cu fY (by rfl) N.Dp PyProof.Rows.Boot.«tuple» (d_ (vc c e (et (vv 7) (vv 8))))) (sO (Ze e)))))))))))
   (BJ 6 (ai (jJ (de (jQ QA Qt Qu dT (pv 3) (d_ (bE (lJ rfl) zt (by rfl) N.Dl PyProof.Rows.Boot.«sorted» (d_ (vv 6)))))))))))))
   (ai (aK (ax (vv 3))))),N.Hk,N.Hj.kp,N.Hl⟩⟩
theorem nz:c_ ["self","level","rests"] ["self","level","rests"] (af iJ):=hU
def dN(K:OU)(a:Ad):QM K a 2 a.Cz a.C0 ["self","level","rests"] 3:=⟨_,λP w mg base N=>by
 exact bp (k:=1) 3 3 _ N.Hu nz rfl rfl λb A outer s H E c=>ai (aK (ax (Nd (Ze c) (l3 N.Ia N.Ie (vv 0)) (et (cc (et (vv 1) (vv 2))) (cc (et (ao) (ao)))))))⟩
theorem sR:c_ ["self","level","rests"] ["self","level","rests"] (af mZ):=hU
def c5(K:OU)(a:Ad):{m:List D->M (List D)//∀(P:Pc) (w:Pk) {mg:Pj->Option Ov} (base:P4) (N:x0 K mg a),fw P w K mg base (hO P w) 4 a.Cw a.Cy ["self","level","rests"] (Y7 K (cw K) 3 m)}:=⟨_,λP w mg base N=>by
 have b:=(bQ K a).2 P w base N;have d:=(da K a).2 P w base N;have c:=(dN K a).2 P w base N
 exact LL (k:=3) 3 3 _ N.Hq sR rfl rfl λg A outer s H E e=>No (jh (sC (bj (vx (Ze e)) NQ (cc (et (vv 1) (vv 2))) (l3 N.Ia N.Ie (vv 0))) (oh (bj (dS e) fG (vv 1) (cx N.Dd (d_ (l3 N.Ia N.Id (vv 0)))))))) (gT (ax (NE e9)))
   (gT (ax (yY rfl (i4 ["counts","self","level","rests"] ["counts"] [0,1,2]) (aR (vc b e (F0 (vv 2) (l3 N.Ia N.Id (vv 0)) (l3 N.Ia N.Ig (vv 0)) (vv 1)))) (λcl C i s H=>⟨(ej 0 g8),pF (bj rL xa (bA aM bF (oo N.Ia N.Hv c (e.mono (by decide)) (dE.nil N.Hw) rK (vv 1) (et (bc aQ bO (vv 2) (ao)) (vc d e (et (vv 3) (vv 0)))) (λδ β r f h=>by rw[(aS (aS zv)) δ β r f h];rfl)) (ao)) (ao)),λD=>aD rfl (vv 0) rfl⟩) am ar (λD=>aJ))))⟩
theorem rA:c_ ["self"] ["self"] (af kP):=hU
def kW(K:OU)(a:Ad):QM K a 3 a.C2 a.C3 ["self"] 1:=⟨_,λP w mg base N=>by
 have b:=(dN K a).2 P w base N;exact bp (k:=2) 1 1 _ N.Hx rA rfl rfl λd A outer s H E e=>ai (aK (ax (bA aM bF (oo N.Ia N.Hv b (e.mono (by decide)) (dE.nil N.Hw) f7 (vv 0) (et (ao) (cj cu fY (by rfl) N.Dp PyProof.Rows.Boot.«tuple» (d_ (l3 N.Ia N.Ih (vv 0))))) (λδ β r c h=>by rw[(aS (aS zv)) δ β r c h];rfl)) (ao))))⟩
theorem bM:c_ ["_law_script","_law_bag_here","_law_grid_here","_law_limits","_law_rowsums_here","_law_columnsums_here","_law_net_here","_law_levels","_law_stage","_law_nodes_here","_law_rests","_law_due","_law_counts","_law_part","_law_told","_law_column"] ["_law_script"] (af mh):=hU
def oQ(K:OU)(a:Ad):{g:G//∀(P:Pc) (w:Pk) {mg:Pj->Option Ov} (base:P4) (N:x0 K mg a) (f:Oq) (B:Ov) (A:PU) (outer:List VJ) (s:OB) (H:Hp) (E:XK),en 8 (A.deeper (PyProof.Rows.envOfC "law" (af mh) s.heap.objs.size f B))->PSs (eF (hO P w) P w K mg base ["_law_script","_law_bag_here","_law_grid_here","_law_limits","_law_rowsums_here","_law_columnsums_here","_law_net_here","_law_levels","_law_stage","_law_nodes_here","_law_rests","_law_due","_law_counts","_law_part","_law_told","_law_column"] "law" (af mh) f B A outer s H E) (bX mh).tail (tG K H g (λ_=>E))}:=⟨_,λP w mg base N f B A outer s H E k=>by
 have q:=(iM K a).2 P w base N;have o:=(gM K a).2 P w base N;have m:=(i5 K a).2 P w base N;have j:=(fU K a).2 P w base N;have v:=(qa K a).2 P w base N;have t:=(kT K a).2 P w base N;have e:=iS P w base N;have n:=(i6 K a).2 P w base N;have p:=(jK K a).2 P w base N;have y:=(jq K a).2 P w base N;have b:=(dN K a).2 P w base N;have c:=yT P w base N;have d:=(c5 K a).2 P w base N;have l:=(kW K a).2 P w base N
 exact ac (aG (f0 2 bM.nd (vc q k (d_ (vv 1)))))
   (ac (aG (f0 3 bM.nd (vc o k (et (vv 1) (vv 2)))))
   (ac (aG (f0 4 bM.nd (vc m k (d_ (vv 2)))))
   (ac (aG (f0 5 bM.nd (vc j k (d_ (vv 2)))))
   (ac (aG (f0 6 bM.nd (vc v k (et (vv 2) (vv 3)))))
   (ac (aG (f0 7 bM.nd (vc t k (ro (vv 4) (vv 5) (vv 3)))))
   (ac (aG (f0 8 bM.nd (bc fA gQ (vc e k (et (vv 1) (bc aQ bO (cx N.Dd (d_ (vv 7))) (ao)))) (ao))))
   (ac (aG (f0 9 bM.nd (bA aM bF (vv 7) (bE (lL rfl) w8 (by rfl) N.Dg PyProof.Rows.Boot.«max» (et (ao) (bE (gr rfl) o9 (by rfl) N.Dh PyProof.Rows.Boot.«min» (et (vv 8) (bc fA gQ (cx N.Dd (d_ (vv 7))) (ao)))))))))
   (ac (aG (f0 10 bM.nd (bA aM bF (vv 9) (vc e k (et (vv 1) (cx N.Dd (d_ (vv 9))))))))
   (ac (bS (bj (dS k) fG (vc e k (et (vv 1) (ao))) (ao)) (ai (aG (f0 10 bM.nd (bc aQ bO (AS (vv 10) (k7) (k6 (AO sD w6 (ao)))) (cc (d_ (bc aQ bO (bA aM bF (vv 10) (AO sD w6 (ao))) (ao)))))))) (bt))
   (ac (me (f0 11 bM.nd (dR (e9))))
   (ac (aG (f0 12 bM.nd (cc (et (ao) (ao)))))
   (ac (bS (jh (GP (bj HL ZQ (vv 8) (ao)) (GP (bj mv qj (vv 8) (cx N.Dd (d_ (vv 7)))) (J8 (bj (yS k) HW (vv 10) (bA aM bF (vv 7) (vv 8))))))) (ac (sS (i:=13) bM.nd rfl (by first|exact QY rfl|exact Sg rfl) rfl (i4 ["_law_row","_law_stage"] ["_law_row"] [8]) (aR (vv 3)) (λcl C F s H=>⟨(ej 0 g8),aL,λD=>aD rfl (lZ (vv 0) (k6 (vv 1)) (k7)) rfl⟩) am ar (λD=>aJ))
   (ac (aG (f0 14 bM.nd (vc n k (ro (vv 10) (lZ (vv 5) (k6 (vv 8)) (k7)) (vv 13)))))
   (ac (Kw (f0 12 bM.nd (cc (et (cx N.Dd (d_ (vv 14))) (fc N.Do (d_ (bf rfl (i4 ["_law_one"] ["_law_one"] []) (aR (vv 14)) (λcl C F s H=>⟨(ej 0 g8),aL,λD=>aD rfl (vc p k (d_ (vv 0))) rfl⟩) am ar (λD=>aJ))))))))
   (ai (bS (bj mv qj (vv 8) (cx N.Dd (d_ (vv 5)))) (ai (bx aE (bi bT rfl (aR (vc y k (ro (vv 10) (bA aM bF (vv 5) (vv 8)) (bf rfl (i4 ["_law_row","_law_stage"] ["_law_row"] [8]) (aR (vv 3)) (λcl C F s H=>⟨(ej 0 g8),aL,λD=>aD rfl (bA aM bF (vv 0) (vv 1)) rfl⟩) am ar (λD=>aJ))))) (ej 15 bM.nd) (ai (bS (bj (yS k) HW (vv 15) (bf rfl (i4 ["_law_one"] ["_law_one"] []) (aR (vv 14)) (λcl C F s H=>⟨(ej 0 g8),aL,λD=>aD rfl (bA aM bF (vv 0) (ao)) rfl⟩) am ar (λD=>aJ))) (ai (jJ (de (jQ QA Qt Qu dT (pv 11) (d_ (cj cu fY (by rfl) N.Dp PyProof.Rows.Boot.«tuple» (d_ (vv 15)))))))) (bt)))))) (bt)))))) (bt))
   (ac (bS (ow (l6 (vc c k (et (oo N.Ia N.Hv b (k.mono (by decide)) (dE.nil N.Hw) f7 (vv 6) (et (vv 8) (vv 10)) (λδ β r u h=>by rw[(aS (aS zv)) δ β r u h];rfl)) (vv 12))))) (ai (aK (ax (m8)))) (bt))
   (ac (Kx (f0 14 bM.nd (yX N.Ia N.Hr d (k.mono (by decide)) (dE.nil N.Ht) f7 (vv 6) (et (vv 8) (vv 10)) (λδ β r u h=>by rw[(aS (aS zv)) δ β r u h];rfl))))
   (ac (bS (ow (l6 (vc c k (et (vv 14) (vv 11))))) (ai (aK (ax (m8)))) (bt))
   (ac (jJ (de (jQ QA Qt Qu dT (pv 14) (d_ (vv 10)))))
   (ai (aK (ax (GR (vc c k (et (Nb (yX N.Ia N.Hr d (k.mono (by decide)) (dE.nil N.Ht) f7 (vv 6) (et (vv 8) (vv 10)) (λδ β r u h=>by rw[(aS (aS zv)) δ β r u h];rfl))) (vv 11))) (GQ (vc c k (et (bA aM bF (oo N.Ia N.Hv b (k.mono (by decide)) (dE.nil N.Hw) f7 (vv 6) (et (ao) (cj cu fY (by rfl) N.Dp PyProof.Rows.Boot.«tuple» (d_ (vv 4)))) (λδ β r u h=>by rw[(aS (aS zv)) δ β r u h];rfl)) (ao)) (II N.Ia N.Hy l (k.mono (by decide)) (dE.nil N.Hz) f7 (vv 6) rfl))))))))))))))))))))))))⟩
theorem Lf{f:Oq}{o:O5}(F:d5 K "law" "law" mh f o)(N:x0 K mg a)(T:∀β:Bg,β.ok->∃d,(oQ K a).1 [Oi,on (.sh .bag),Oi,Oi,Oi,Oi,Oi,Oi,Oi,Oi,Oi,Oi,Oi,Oi,Oi,Oi] β=on (.rt (.bl On),d)):
  fw P w K mg base (hO P w) 9 f o ["_law_script"] (GX K):=by
 have c:=BY P w base N;refine F.okE (k:=8) bM (λvs H Q E h=>?_) (λg A outer s H vs Q E p h=>?_)
 .obtain⟨a,ns,rfl,_⟩:=h
  rfl
 .obtain⟨a1,ns,rfl,r,q,k⟩:=h
  have rest:=(oQ K a).2 P w base N f g A outer s H E p;refine⟨_,cm (rest:=(bX mh).tail) (f0 1 bM.nd (mo c (p.mono (by decide)) rfl N.Fu N.Ft.kp N.Fv .nil rK (d9 (pv 0) ii))) rest,?_⟩;refine⟨_,rfl,a1,ns,rfl,r,λb l C i j t u=>?_⟩;obtain⟨β,ok,m⟩:=J0 (K:=K) (a:=a1) (n:=["_law_script","_law_bag_here","_law_grid_here","_law_limits","_law_rowsums_here","_law_columnsums_here","_law_net_here","_law_levels","_law_stage","_law_nodes_here","_law_rests","_law_due","_law_counts","_law_part","_law_told","_law_column"].length-2) u i j t;obtain⟨d,e⟩:=T β ok;exact⟨_,_,_,β,_,d,m,e,λv I y s fr B=>by cases B.bl;exact k y⟩
end
end Law
namespace Law
open PySem L2 L2.Pu L2.Nt
section
variable{K:OU}{a:Ad}{β:Bg}
abbrev tN(l:List Nat):D:=ln (nI l)
abbrev eN(b:List Nat×Nat):D:= .tup [tN b.1,.int (b.2:Int)]
abbrev pN(p:Nat×Nat):D:=pD ((p.1:Int),(p.2:Int))
def z_(r:List Nat):Prop:=1<=r.length/\r.length<=4/\r.sum<=40/\pr (r.map (·+1))<=500
theorem kB{f g:FD}{δ:Dn}{x y:D}{ds es:List D}(b:f δ β=on (.ok x,β))(c:g δ β=on (.ok y,β))(d:cW x=on ds)(e:cW y=on es):wS (ag f (ag g aF)) δ β=on (.ok (c9 ds es),β):=bw (aa b (aa c rfl)) (by
 unfold AJ;simp only[d,e,Q9,QK])
theorem sk{α:Type}{f g:α->D}:∀l:List α,c9 (l.map f) (l.map g)=l.map λx=> .tup [f x,g x]
 |[]=>rfl
 |x::l=>Px (_::·) (sk l)
theorem KI{lo:Nat}{h:Int}(b:-1000<=h)(c:h<=1000)(d:lo<=1000):nC [.int (lo:Int),.int h]=on ((Oz (h-lo).toNat).map λi=>D.int ((lo+i:Nat):Int)):=by
 have e:nC [.int (lo:Int),.int h]=on (aZ lo (h-lo).toNat):=by
  simp only[nC];rw[OA (by simp only[O9,Po];omega)]
 rw[e];exact Px on (O1 λi _=>by congr 1)
theorem MV{l:List Nat}{c:Nat}(h:l.length<=100):jd (tN l) (.tup [.int (c:Int)])=on (tN (l++[c])):=by
 cases l with
 |nil=>rfl
 |cons x l=>
  show(if _ then _ else _)=_;rw[OA (bo (by simp at h⊢;omega))];simp[ln]
theorem yc(l:List Nat)(k:Nat):fi [.lst (((nI l).map D.int).drop k)]=on (.int (((l.drop k).sum:Nat):Int)):=by
 rw[<-Rv,<-Rv];exact(d7 _).trans (by rw[<-gi])
theorem x5:∀{r:List Nat} {ps:List (Nat×Nat)},(r.zip ps).map (λq=>D.int (RK (q.1:Int) (q.2.2:Int)))=(nI (lK ps r)).map D.int
 |[],_=>by cases ‹List (Nat×Nat)›<;>rfl
 |_::_,[]=>rfl
 |x::r,p::ps=>by
  have e:=x5 (r:=r) (ps:=ps);show _::_=D.int ((RK x p.2:Nat):Int)::(nI (lK ps r)).map D.int;rw[<-e];show D.int (RK (x:Int) (p.2:Int))::_=_;rw[show RK (x:Int) (p.2:Int)=((RK x p.2:Nat):Int) by omega];rfl
theorem x3:∀{ps:List (Nat×Nat)} {r:List Nat} {k:Nat} (b:k<ps.length) (c:k<r.length),(lK ps r)[k]?=on (RK r[k] ps[k].2)
 |p::ps,x::r,0,_,_=>rfl
 |p::ps,x::r,k+1,b,c=>x3 (k:=k) (by simpa using b) (by simpa using c)
abbrev uw(ps:List (Nat×Nat))(r:List Nat)(c:Nat)(st:D)(b d e:Option Sl):Ds:=[on (.sh (tN r)),on (.sh (.int (c:Int))),on (.sh (.lst (ps.map pN))),on (.sh (.lst ((nI (lw ps)).map .int))),on (.sh (.lst ((nI (lK ps r)).map .int))),on (.sh st),b,d,e]
theorem LN{ps:List (Nat×Nat)}{r:List Nat}{c:Nat}(H:z_ r)(v:ps.length=r.length)(A:∀p∈ps,p.1<=40/\p.2<=40)(R:c<=40):(jN K a).1 [tN r,.int (c:Int),.lst (ps.map pN)] β=on (.ok (.lst ((vB ps r c).map tN)),β):=by
 obtain⟨_,T,hs,U⟩:=H;have I:r.length<=OS:=bo (by omega);have o:∀k,k<=r.length->(nj ps r c k).length<=OS:=λk m=>bo (OP (uZ c k m) (OP (rJ r k) (by omega)));unfold jN
 dsimp only
 refine aO ?_;refine aB (d:= .lst ((nI (lw ps)).map .int)) (β1:=β) ?_ ?_
 .have:=bh (nv:=2) (dc:=[]) (it:=dg (ah 2)) (tg:=Q_ (eW (jm 0) (eW (jm 1) jH))) (f:=ah 0) (δ:=vw (uw ps r c .non Oi Oi Oi)) (β:=β) ps pN (λp=> .int (p.1:Int)) rfl (λx _=>⟨[on (.int (x.1:Int)),on (.int (x.2:Int))],rfl,rfl⟩) (by rw[v];exact I)
  refine Eq.trans this ?_;unfold lw;rw[Oy,Oy];rfl
 refine aB (d:= .lst ((nI (lK ps r)).map .int)) (β1:=β) ?_ ?_
 .rw[<-x5]
  exact bh (nv:=3) (dc:=[]) (it:=wS (ag (ah 0) (ag (ah 2) (aF)))) (tg:=Q_ (eW (jm 0) (eW (Q_ (eW (jm 1) (eW (jm 2) jH))) jH))) (f:=aP tX (ag (ah 0) (ag (ah 2) (aF)))) (δ:=vw (uw ps r c .non Oi Oi Oi)) (β:=β) (r.zip ps) (λq=>D.tup [.int (q.1:Int),pN q.2]) _ (by
   rw[<-g9 (λx:Nat=>D.int (x:Int)) pN];refine kB (x:=tN r) (y:= .lst (ps.map pN)) rfl rfl ?_ rfl;show on _=on _;rw[Oy];rfl) (λq _=>⟨[on (.int (q.1:Int)),on (.int (q.2.1:Int)),on (.int (q.2.2:Int))],rfl,ae rfl tY⟩) (bo (by rw[SA];omega))
 refine aB (d:= .lst ((nj ps r c 0).map eN)) (β1:=β) (ae (aa (ae (aa (ae rfl rfl) (aa rfl rfl)) eC) rfl) jY) ?_;refine br (ds:=aZ 0 r.length) (β1:=β) (bw (aa (ae (z:= .int (r.length:Int)) rfl (by show on (D.int _)=_;rw[Oh,Oh])) rfl) (F_ (by omega) (by omega))) (λk δ C=>β=C/\∃B t u,δ=uw ps r c (.lst ((nj ps r c k).map eN)) B t u) ⟨rfl,Oi,Oi,Oi,rfl⟩ ?_ ?_
 .rintro k d δ _ hd ⟨rfl,B,t,u,rfl⟩
  obtain⟨m,rfl⟩:=HE hd;have j:k<ps.length:=by omega
  have J:ps[k]?=on ps[k]:=Oo j;have b40:=A _ (Pq j);have W:(lw ps).sum<=160:=by
   have g:∀l:List (Nat×Nat),(∀p∈l,p.1<=40/\p.2<=40)->(lw l).sum<=40*l.length:=λl=>by
    induction l with
    |nil=>intro _;exact OD _
    |cons p l ih=>
     intro h;have:=ih λq v=>h q (Op _ v);have:=(h p Ox).1;simp only[lw,OG,O3,OO]at*;omega
   have:=g ps A;omega
  have F:∀(l:List Nat) (n:Nat),(l.drop n).sum<=l.sum:=λl n=>by
   conv=>rhs;rw[<-Ri n l,VP]
   omega
  have L:=F (lw ps) (k+1);have N:=OP (F (lK ps r) (k+1)) xZ;refine⟨uw ps r c (.lst ((nj ps r c k).map eN)) (on (.sh (.int (k:Int)))) t u,rfl,?_⟩;refine aB (d:= .int ((((lw ps).drop (k+1)).sum:Nat):Int)) (β1:=β) (ae (aa (iC rfl (eg rfl rfl rfl)) rfl) ((Px (λl=>fi [.lst l]) (kh (k:=k+1))).trans (yc _ _))) ?_;refine aB (d:= .int ((((lK ps r).drop (k+1)).sum:Nat):Int)) (β1:=β) (ae (aa (iC rfl (eg rfl rfl rfl)) rfl) ((Px (λl=>fi [.lst l]) (kh (k:=k+1))).trans (yc _ _))) ?_;refine aq (aB (d:= .lst ((nj ps r c (k+1)).map eN)) (β1:=β) ?_ (aY ⟨rfl,_,_,_,rfl⟩));have e:(nj ps r c (k+1)).map eN=(nj ps r c k).flatMap λb=>(YQ r[k] ps[k] ((lw ps).drop (k+1)).sum ((lK ps r).drop (k+1)).sum b).map eN:=by
   show((nj ps r c k).flatMap _).map eN=_;rw[QS,dL m,dL j]
  rw[e];refine JV (nj ps r c k) eN _ rfl (λb A=>⟨[on (tN b.1),on (.int (b.2:Int)),Oi,on (.lst ((nI (lw ps)).map .int)),on (.int (k:Int)),on (.int ((((lK ps r).drop (k+1)).sum:Nat):Int)),on (.lst ((nI (lK ps r)).map .int)),on (.int ((((lw ps).drop (k+1)).sum:Nat):Int))],rfl,?_⟩) (by
   rw[<-e,Oh];exact o (k+1) m)
  obtain⟨b2,b1⟩:=ye ps r c k b A;have X:=gX (Pq m);unfold YQ;generalize ((lw ps).drop (k+1)).sum=few at*;generalize ((lK ps r).drop (k+1)).sum=most at*;refine(yZ (Oz (RK (RK r[k] ps[k].2+few) b.2+1-few-WN ps[k].1 (b.2-most))) (λi=>D.int ((WN ps[k].1 (b.2-most)+i:Nat):Int)) (λi=>eN (b.1++[WN ps[k].1 (b.2-most)+i],b.2-(WN ps[k].1 (b.2-most)+i))) ?_ ?_).trans (by rw[Oy];rfl)
  .refine bw (as:=[.int ((WN ps[k].1 (b.2-most):Nat):Int),.int (RK ((RK r[k] ps[k].2:Nat):Int) ((b.2:Int)-few)+1)]) (aa (ae (aa (eg rfl rfl (bR (d:= .int (ps[k].1:Int)) ?_)) (aa (eg rfl rfl rfl) rfl)) (CG.trans ?_)) (aa (eg (ae (aa (eg rfl rfl (bR (d:= .int ((RK r[k] ps[k].2:Nat):Int)) ?_)) (aa (eg rfl rfl rfl) rfl)) tY) rfl rfl) rfl)) ((KI (by omega) (by omega) (by omega)).trans ?_)
   .unfold lw
    rw[Ou,Ou,Ou,J];rfl
   .rw[show WN (ps[k].1:Int) ((b.2:Int)-(most:Int))=((WN ps[k].1 (b.2-most):Nat):Int) by omega]
   .rw[Ou,Ou,x3 j m];rfl
   .rw[show(RK ((RK r[k] ps[k].2:Nat):Int) ((b.2:Int)-few)+1-((WN ps[k].1 (b.2-most):Nat):Int)).toNat=RK (RK r[k] ps[k].2+few) b.2+1-few-WN ps[k].1 (b.2-most) by omega]
  .refine λi O=>⟨[on (tN b.1),on (.int (b.2:Int)),on (.int ((WN ps[k].1 (b.2-most)+i:Nat):Int)),on (.lst ((nI (lw ps)).map .int)),on (.int (k:Int)),on (.int (most:Int)),on (.lst ((nI (lK ps r)).map .int)),on (.int (few:Int))],rfl,ae (aa (eg rfl (ae rfl rfl) (MV (l:=b.1) (c:=WN ps[k].1 (b.2-most)+i) (by omega))) (aa (eg rfl rfl rfl) rfl)) (eC.trans ?_)⟩
   have Q:=OV.mp O;show on (D.tup [_,.int _])=on (D.tup [_,.int _]);rw[show(b.2:Int)-((WN ps[k].1 (b.2-most)+i:Nat):Int)=((b.2-(WN ps[k].1 (b.2-most)+i):Nat):Int) by omega]
 .rintro δ _ ⟨rfl,B,t,u,rfl⟩
  rw[tq];have h:=ix (nv:=2) (dc:=[]) (it:=dg (ah 5)) (tg:=Q_ (eW (jm 0) (eW (jm 1) jH))) (tt:=fB (f2 (nS) (ah 1) (fC (.int 0)))) (f:=ah 0) (δ:=j0 (uw ps r c (.lst ((nj ps r c r.length).map eN)) B t u)) (β:=β) (nj ps r c r.length) eN (λb=>tN b.1) (λb=>decide ((b.2:Int)=0)) rfl (λb _=>⟨[on (tN b.1),on (.int (b.2:Int))],rfl,i_ (eg rfl rfl eq_int),λ_=>rfl⟩) (o _ (OD _));refine aq (aT h ⟨rfl,?_⟩);rw[<-IX v,Oy];rfl
theorem uI{α:Type}{tg:m_}{b:FL}{δ:Dn}{β:Bg}(u:α->D)(o:α->List D):∀(xs:List α),(∀x∈xs,∃δ1,tg (u x) δ=on δ1/\b δ1 β=on (.ok (o x),β))->nw tg (λ_=>M.ret On) b (xs.map u) δ β=on (.ok (xs.flatMap o),β)
 |[],_=>rfl
 |x::xs,h=>by
  obtain⟨δ1,c,d⟩:=h x Ox;have e:=uI u o xs λy f=>h y (Op _ f);rw[OG,nw];simp only[c,M.bind,M.ret,reduceIte,d,e,PL]
theorem ki{α:Type}{nv:Nat}{dc:List Nat}{it:FL}{tg:m_}{b:FL}{c:List D->Option D}{δ:Dn}{β:Bg}{d:D}(xs:List α)(u:α->D)(o:α->List D)(e:it δ β=on (.ok (xs.map u),β))
  (f:∀x∈xs,∃δ1,tg (u x) (lm nv dc δ)=on δ1/\b δ1 β=on (.ok (o x),β)) (g:c (xs.flatMap o)=on d):gn nv dc it tg (λ_=>M.ret On) b c δ β=on (.ok d,β):=by
 unfold gn;rw[e];simp only[uI u o xs f,g,QK]
theorem NH{α:Type}{it:FL}{tg:m_}{b:FL}{δ:Dn}{β:Bg}(xs:List α)(u:α->D)(o:α->List D)(c:it δ β=on (.ok (xs.map u),β))(d:∀x∈xs,∃δ1,tg (u x) δ=on δ1/\b δ1 β=on (.ok (o x),β)):YH it tg (λ_=>M.ret On) b δ β=on (.ok (xs.flatMap o),β):=by
 unfold YH M.bind;rw[c];exact uI u o xs d
noncomputable abbrev f9(B:List (List (Nat×Nat))):LP:=B.map λrow=>row.map λp=>((p.1:Int),(p.2:Int))
abbrev lb(B:List (List (Nat×Nat))):D:=c7 (f9 B)
noncomputable def kj(B:List (List (Nat×Nat)))(k:Nat):List (Nat×Nat):=B.map λrow=>row.getD k (0,0)
def wh(r c:Nat)(B:List (List (Nat×Nat))):Prop:=k_ r c B/\∀row∈B,∀p∈row,p.1<=p.2/\p.2<=40
def wB(B:List (List (Nat×Nat)))(cs:List Nat):Wy:=λk r=>vB (kj B k) r (cs.getD k 0)
theorem rB(B:List (List (Nat×Nat)))(cs:List Nat):Iv cs (wB B cs):=λk r=>U2
theorem wh.col{r c k:Nat}{B:List (List (Nat×Nat))}(h:wh r c B)(e:k<c):(kj B k).length=r/\∀p∈kj B k,p.1<=40/\p.2<=40:=by
 refine⟨by unfold kj;rw[Oh,h.1.1],λp d=>?_⟩;obtain⟨row,b,rfl⟩:=OC.mp d;have l:=h.1.2 row b;rw[dL (by omega)];have:=h.2 row b _ (Pq (show k<row.length by omega));omega
theorem JW{r cs:List Nat}{B:List (List (Nat×Nat))}{k:Nat}(c:z_ r)(hB:wh r.length cs.length B)(i:cs.sum<=40)(e:k<cs.length):(bQ K a).1 [tN r,nL cs,lb B,.int (k:Int)] β=on (.ok (.lst ((wB B cs k r).map tN)),β):=by
 have g:cs[k]?=on (cs.getD k 0):=by rw[Om,Oo e];rfl
 obtain⟨l,q⟩:=hB.col e;unfold bQ
 dsimp only
 refine aO (aq (aT (ak (aa rfl (aa (eg rfl rfl (bR (d:= .int (cs.getD k 0:Int)) (by rw[Ou,Ou,g];rfl))) (aa ?_ rfl))) (LN c l q (OP (gX (OQ g)) i))) ⟨rfl,rfl⟩));have h:=bh (nv:=1) (dc:=[3]) (it:=dg (ah 2)) (tg:=jm 0) (f:=f2 la (ah 0) (ah 1)) (δ:=[on (tN r),on (nL cs),on (lb B),on (.int (k:Int))]) (β:=β) B (λrow=>D.lst (row.map pN)) (λrow=>pN (row.getD k (0,0))) (cB rfl (by
  show on _=on _;rw[Oy,Oy];exact Px on (O1 λrow _=>Px D.lst (by show PQ pD (PQ _ row)=_;rw[Oy];rfl)))) (λrow b=>⟨[on (D.lst (row.map pN)),on (.int (k:Int))],rfl,eg rfl rfl (bR (by
   have l:=hB.1.2 row b;rw[Ou,dL (by omega),Oo (by omega)];rfl))⟩) (bo (by rw[hB.1.1];have:=c.2.1;omega))
 refine h.trans ?_;unfold kj;rw[Oy];rfl
theorem ub:∀{r v:List Nat},lg v r->(r.zip v).map (λp=>D.int ((p.1:Int)-(p.2:Int)))=(nI (less r v)).map D.int
 |[],[],_=>rfl
 |x::r,y::v,h=>by
  have e:=ub h.2;have b:=h.1;show _::_=D.int ((x-y:Nat):Int)::(nI (less r v)).map D.int;rw[<-e];show D.int ((x:Int)-(y:Int))::_=_;rw[show(x:Int)-(y:Int)=((x-y:Nat):Int) by omega];rfl
 |[],_::_,h=>h.elim
 |_::_,[],h=>h.elim
theorem wG{r v:List Nat}(h:lg v r)(b:r.length<=4):(da K a).1 [tN r,tN v] β=on (.ok (tN (less r v)),β):=by
 unfold da
 dsimp only
 refine aO (aq (aT (ae (aa (x:= .lst ((nI (less r v)).map D.int)) ?_ rfl) rfl) ⟨rfl,rfl⟩));rw[<-ub h];refine bh (r.zip v) (λp=>D.tup [.int (p.1:Int),.int (p.2:Int)]) _ ?_ (λp _=>⟨[on (.int (p.1:Int)),on (.int (p.2:Int))],rfl,rfl⟩) (bo (by rw[SA];omega));rw[<-g9 (λx:Nat=>D.int (x:Int)) (λx:Nat=>D.int (x:Int))];refine kB (x:=tN r) (y:=tN v) rfl rfl ?_ ?_
 .show on _=on _
  rw[Oy];rfl
 .show on _=on _
  rw[Oy];rfl
structure Nt0 (rs cs:List Nat):Prop where
 nr:z_ rs
 wd:pr (rs.dropLast.map (·+1))<63
 sm:rs.sum=cs.sum
 c1:1<=cs.length
 c6:cs.length<=6
structure p_ (K:OU) (a:Ad) (rs cs:List Nat) (W:Wy) (bd:D):Prop extends Nt0 rs cs where
 ok:Iv cs W
 fl:∀{β:Bg} {k:Nat} {r:List Nat},k<cs.length->z_ r->r.length=rs.length->(bQ K a).1 [tN r,nL cs,bd,.int (k:Int)] β=on (.ok (.lst ((W k r).map tN)),β)
theorem p_.at{rs cs r:List Nat}{k:Nat}{W:Wy}{b:D}(h:p_ K a rs cs W b)(c:k<=cs.length)(d:r∈hL W rs k):z_ r/\r.length=rs.length/\r.sum<=40:=by
 have q:=(im h.ok h.sm k c r d).1;obtain⟨e,f,g,i⟩:=h.nr;have q1:=q.len;have q2:=q.sum;have q3:=q.pr;exact⟨⟨by omega,by omega,by omega,by omega⟩,q1,by omega⟩
abbrev lj(W:Wy)(rs:List Nat)(k:Nat):D:= .lst ((hL W rs k).map tN)
theorem CB{rs cs:List Nat}{W:Wy}{b:D}(h:p_ K a rs cs W b):(eX K a).1 [nL rs,nL cs,b] β=on (.ok (.lst ((Oz (cs.length+1)).map (lj W rs))),β):=by
 have c6:=h.c6;unfold eX
 dsimp only
 refine aO ?_;refine aB (d:=lj W rs 0) (β1:=β) (ae (aa (ae rfl rfl) rfl) jY) ?_;refine lW (ds:=[lj W rs 0]) (β1:=β) rfl (show 1<=OS by decide) ?_;refine br (ds:=aZ 0 cs.length) (β1:=β) (bw (aa (ae rfl (cA (r:=cs.length) (by rw[Oh,Oh]))) rfl) (F_ (by omega) (by omega))) (λk δ c=>β=c/\∃e f,δ=[on (.sh (nL rs)),on (.sh (nL cs)),on (.sh (b)),on (.sh (lj W rs k)),on (.own ((Oz (k+1)).map (lj W rs))),e,f]) ⟨rfl,Oi,Oi,rfl⟩ ?_ ?_
 .rintro k d δ _ hd ⟨rfl,e,f,rfl⟩
  obtain⟨g,rfl⟩:=HE hd;refine⟨_,rfl,aB (d:=lj W rs (k+1)) (β1:=β) ?_ (jF (cs:=(Oz (k+1)).map (lj W rs)) (d:=lj W rs (k+1)) rfl rfl (O0 (show _<1000 by rw[Oh,OW];omega) (by decide)) (aq (aB (d:=lj W rs (k+1)) (β1:=β) rfl (aY ⟨rfl,on (.sh (.int (k:Int))),on (.sh (lj W rs (k+1))),?_⟩))))⟩
  .refine ki (hL W rs k) tN (λr=>(W k r).map λv=>tN (less r v)) rfl (λr j=>⟨[on (tN r),Oi,on (nL cs),on (b),on (.int (k:Int))],rfl,?_⟩) ?_
   .obtain⟨i,l,_⟩:=h.at (by omega) j
    exact yZ _ tN _ (cB (ak rfl (h.fl g i l)) rfl) (λv m=>⟨[on (tN r),on (tN v),on (nL cs),on (b),on (.int (k:Int))],rfl,ak rfl (wG (cP ((h.ok k r).subset m)) i.2.1)⟩)
   .rw[<-vA h.ok h.sm h.nr.1 h.wd g]
    unfold W_;rw[QS];simp only[Oy];rfl
  .rw[Ro (n:=k+1),Pd];rfl
 .rintro δ _ ⟨rfl,e,f,rfl⟩
  rw[tq];exact aq (aT rfl ⟨rfl,rfl⟩)
theorem oj{i:Nat}{op:D->D->Option D}{f:FD}{c d z:D}{h:G}{δ:Ds}{β β1:Bg}{Q:tx->Bg->Prop}(b:(vw δ).getD i Oi=on c)(e:f (vw δ) β=on (.ok d,β1))(g:op c d=on z)(k:Gw h (δ.set i (on (.sh z))) β1 Q):Gw (aN (xq i op f) h) δ β Q:=dn (by unfold xq;simp only[b,e,g,QK]) k
theorem yz{m i:Nat}{d:D}(h:(aZ 2 m)[i]?=on d):i<m/\d= .int ((i+2:Nat):Int):=by
 obtain⟨x,b,rfl⟩:=bv (f:=λ(i:Nat)=>D.int (2+(i:Int))) (xs:=Oz m) h;have c:=(OF.mp b).1;rw[OW]at c;rw[Py c]at b;cases b;exact⟨c,by congr 1;omega⟩
theorem yw(lo:Int)(m:Nat):(aZ lo m).length=m:=by unfold aZ;rw[Oh,OW]
theorem Y9{n:Nat}(h:n<=2^11):n<2^1000:=dU h (by decide)
theorem vY(n:Nat):d4 (n-1+1)=d4 n:=by cases n<;>rfl
theorem vW{n:Nat}(h:n<=40):(i7 K a).1 [.int (n:Int)] β=on (.ok (.int ((d4 n:Nat):Int)),β):=by
 unfold i7
 dsimp only
 refine aO ?_;refine aB (d:= .int 1) (β1:=β) rfl ?_;refine br (ds:=aZ 2 (n-1)) (β1:=β) (bw (aa rfl (aa (eg rfl rfl rfl) rfl)) (rg2 (by omega))) (λi δ b=>β=b/\∃c,δ=[on (.sh (.int (n:Int))),on (.sh (.int ((d4 (i+1):Nat):Int))),c]) ⟨rfl,Oi,rfl⟩ ?_ ?_
 .rintro i d δ _ hd ⟨rfl,c,rfl⟩
  obtain⟨e,rfl⟩:=yz hd;exact⟨_,rfl,aq (oj rfl rfl (qe (dU (jx (by omega)) (by decide)) (Y9 (by omega))) (aY ⟨rfl,_,rfl⟩))⟩
 .rintro δ _ ⟨rfl,c,rfl⟩
  rw[yw,vY];exact aq (aT rfl ⟨rfl,rfl⟩)
theorem ua{n:Nat}(h:n<=40):(gC K a).1 [.int (n:Int)] β=on (.ok (.int ((d4 n:Nat):Int)),β):=by
 unfold gC
 dsimp only
 refine aO ?_;refine aB (d:= .int 1) (β1:=β) rfl ?_;refine br (ds:=aZ 2 (n-1)) (β1:=β) (bw (aa rfl (aa (eg rfl rfl rfl) rfl)) (rg2 (by omega))) (λi δ b=>β=b/\∃c,δ=[on (.sh (.int (n:Int))),on (.sh (.int ((d4 (i+1):Nat):Int))),c]) ⟨rfl,Oi,rfl⟩ ?_ ?_
 .rintro i d δ _ hd ⟨rfl,c,rfl⟩
  obtain⟨e,rfl⟩:=yz hd;exact⟨_,rfl,aq (aB (eg rfl rfl (qe (dU (jx (by omega)) (by decide)) (Y9 (by omega)))) (aY ⟨rfl,_,rfl⟩))⟩
 .rintro δ _ ⟨rfl,c,rfl⟩
  rw[yw,vY];exact aq (aT rfl ⟨rfl,rfl⟩)
def L4(l:List Nat):Nat:=d4 l.sum/pr (l.map d4)
theorem MW{l:List Nat}{d:D}(h:Sq l d):oz [d]=on (.int ((l.sum:Nat):Int)):=by
 rw[<-gi];rcases h with rfl|rfl
 .exact Kn _
 .exact Km _
theorem jr(l:List Nat):fi [nL l]=on (.int ((l.sum:Nat):Int)):=by rw[<-gi];exact d7 _
theorem rZ{l:List Nat}{i n:Nat}(h:l.sum<=40)(hn:l[i]?=on n):n<=40:=OP (gX (OQ hn)) h
theorem IE{l:List Nat}{cd:D}(hs:Sq l cd)(h:l.sum<=40):(tF K a).1 [cd] β=on (.ok (.int ((L4 l:Nat):Int)),β):=by
 unfold tF
 dsimp only
 refine aO ?_;refine br (ds:=(nI l).map D.int) (β1:=β) (cB rfl hs.seq) (λi δ c=>β=c/\∃b,δ=[on (.sh cd),b,Oi]) ⟨rfl,Oi,rfl⟩ ?_ ?_
 .rintro i d δ _ hd ⟨rfl,b,rfl⟩
  obtain⟨n,hn,rfl⟩:=mw hd;exact⟨_,rfl,aq (dy (β1:=β) (i_ (eg rfl rfl (by show on (D.bl (decide ((n:Int)<0)))=_;rw[Pn (by omega)]))) (bn (aY ⟨rfl,_,rfl⟩)))⟩
 rintro δ _ ⟨rfl,b,rfl⟩;refine aB (d:= .int ((d4 l.sum:Nat):Int)) (β1:=β) (ak (aa (ae rfl (MW hs)) rfl) (vW h)) ?_;refine br (ds:=(nI l).map D.int) (β1:=β) (cB rfl hs.seq) (λi δ c=>β=c/\∃b,δ=[on (.sh cd),b,on (.sh (.int ((d4 l.sum/pr ((l.take i).map d4):Nat):Int)))]) ⟨rfl,b,by rw[V8,RE,KW,Nat.div_one];rfl⟩ ?_ ?_
 .rintro i d δ _ hd ⟨rfl,b,rfl⟩
  obtain⟨n,hn,rfl⟩:=mw hd;refine⟨_,rfl,aq (oj rfl (ak rfl (vW (rZ h hn))) (Ir (jw n) (dU (jx (rZ h hn)) (by decide))) (aY ⟨rfl,on (.sh (.int (n:Int))),?_⟩))⟩;rw[gU hn,WS];rfl
 .rintro δ _ ⟨rfl,b,rfl⟩
  rw[tU,Qj];exact aq (aT rfl ⟨rfl,rfl⟩)
theorem vX{l:List Nat}{i:Nat}(h:l.sum<=40)(c:l.length<=4):pr ((l.take i).map d4)<=2^640:=by
 refine OP (HJ (m:=160) λx b=>?_) (Th (by decide) ?_)
 .obtain⟨n,hn,rfl⟩:=OC.mp b
  exact jx (OP (gX (US hn)) h)
 .rw[Oh,Qg];omega
theorem CL{l:List Nat}(h:l.sum<=40)(e:l.length<=4):(nE K a).1 [nL l] β=on (.ok (.int ((L4 l:Nat):Int)),β):=by
 unfold nE
 dsimp only
 refine aO ?_;refine aB (d:= .int 1) (β1:=β) rfl ?_;refine br (ds:=(nI l).map D.int) (β1:=β) rfl (λi δ b=>β=b/\∃c,δ=[on (.sh (nL l)),on (.sh (.int ((pr ((l.take i).map d4):Nat):Int))),c]) ⟨rfl,Oi,rfl⟩ ?_ ?_
 .rintro i d δ _ hd ⟨rfl,c,rfl⟩
  obtain⟨n,hn,rfl⟩:=mw hd;refine⟨_,rfl,aq (aB (eg rfl (ak rfl (ua (rZ h hn))) (qe (dU (vX h e) (by decide)) (dU (jx (rZ h hn)) (by decide)))) (aY ⟨rfl,on (.sh (.int (n:Int))),?_⟩))⟩;rw[gU hn];rfl
 .rintro δ _ ⟨rfl,c,rfl⟩
  rw[tU,Qj];have f:=vX (i:=l.length) h e;rw[Qj]at f;exact aq (aT (eg (ak (aa (ae rfl (jr l)) rfl) (ua h)) rfl (Ir (tH λx g=>by obtain⟨n,_,rfl⟩:=OC.mp g;exact jw n) (dU f (by decide)))) ⟨rfl,rfl⟩)
theorem sB{l:List Nat}(h:l.sum<=40):L4 l<=2^160:=OP (VV _ _) (jx h)
theorem sy(l:List Nat):L4 l=mu l:=Lk l
theorem HQ{l:List Nat}(h:l.sum<=40):mu l<=2^160:=by rw[<-sy];exact sB h
theorem GY{α:Type}{l:List α}{i:Nat}{x:α}(f:α->Nat)(h:l[i]?=on x):L2.Nt.sm (l.take (i+1)) f=L2.Nt.sm (l.take i) f+f x:=by
 rw[Ye,h,sM];rfl
abbrev cv(W:Wy)(m k:Nat)(r:List Nat):D:= .tup [.int ((o_ W (m-k) k r:Nat):Int),.int ((H_ W (m-k) k r:Nat):Int)]
abbrev p3(W:Wy)(rs:List Nat)(m k:Nat):D:= .dct Os ((hL W rs k).map λr=>((0:Int),nI r)) ((hL W rs k).map (cv W m k))
theorem zj{f:List Nat->D}{u:List Nat}:∀{L:List (List Nat)},u∈L->lp (L.map λr=>((0:Int),nI r)) (L.map f) (0,nI u)=on (f u)
 |r::L,h=>by
  unfold lp;rw[OG,OG,QU,Rm];by_cases q:r=u
  .rw[q,OL rfl];rfl
  .rw[Pn λe=>q (gj (Sh.mp e).2)]
   exact zj ((OK.mp h).resolve_left λe=>q e.symm)
theorem LU{W:Wy}{rs u:List Nat}{m k:Nat}(h:u∈hL W rs k):DP (p3 W rs m k) (tN u)=on (cv W m k u):=by
 show(fI Os (dK Os (0,nI u))).bind _=_;rw[mB λ_=>rfl];exact zj h
theorem wR{rs cs r:List Nat}{W:Wy}{q:D}{k:Nat}(h:p_ K a rs cs W q)(o:k<cs.length)(p:r∈hL W rs k):(gB K a).1 [tN r,.lst ((W k r).map tN),p3 W rs cs.length (k+1)] β=on (.ok (cv W cs.length k r),β):=by
 obtain⟨t,y,u⟩:=h.at (by omega) p;unfold gB
 dsimp only
 refine aO ?_;refine aB (d:= .int 0) (β1:=β) rfl (aB (d:= .int 0) (β1:=β) rfl ?_);refine br (ds:=(W k r).map tN) (β1:=β) rfl (λi δ e=>β=e/\∃f g j,δ=[on (.sh (tN r)),on (.sh (.lst ((W k r).map tN))),on (.sh (p3 W rs cs.length (k+1))),on (.sh (.int ((L2.Nt.sm ((W k r).take i) λv=>o_ W (cs.length-(k+1)) (k+1) (less r v):Nat):Int))),on (.sh (.int ((L2.Nt.sm ((W k r).take i) λv=>mu v*H_ W (cs.length-(k+1)) (k+1) (less r v):Nat):Int))),f,g,j]) ⟨rfl,Oi,Oi,Oi,rfl⟩ ?_ ?_
 .rintro i d δ _ hd ⟨rfl,f,g,j,rfl⟩
  obtain⟨v,l,rfl⟩:=bv hd;have hm:=OQ l;have m:less r v∈hL W rs (k+1):=fV.mpr ⟨r,p,v,hm,rfl⟩;have b:=(h.ok k r).subset hm;have hs:=(im h.ok h.sm (k+1) o _ m).2;have c:v.sum<=40:=OP (cP b).sum u;have n:=(h.at o m).2.2;refine⟨_,rfl,GO (d:=cv W cs.length (k+1) (less r v)) (β1:=β) (eg rfl (ak rfl (wG (cP b) t.2.1)) (LU m)) rfl (oj rfl rfl rfl (aq (oj rfl (eg (ak rfl (IE (.inr rfl) c)) rfl (qe (dU (sB c) (by decide)) (dU (OP (zV h.ok _ _ _ (by omega)) (by rw[pJ _ _ hs];exact HQ n)) (by decide)))) rfl (aY ⟨rfl,on (.sh (tN v)),on (.sh (.int ((o_ W (cs.length-(k+1)) (k+1) (less r v):Nat):Int))),on (.sh (.int ((H_ W (cs.length-(k+1)) (k+1) (less r v):Nat):Int))),?_⟩))))⟩;rw[GY _ l,GY _ l,sy,UI,UI];rfl
 .rintro δ _ ⟨rfl,f,g,j,rfl⟩
  rw[Oh,Qj];refine aq (aT (ae rfl eC) ⟨rfl,?_⟩);show Q0 (D.tup [.int ((o_ W (cs.length-k) k r:Nat):Int),.int ((H_ W (cs.length-k) k r:Nat):Int)])=_;rw[show cs.length-k=cs.length-(k+1)+1 by omega];rfl
theorem wf{f g:FD}{δ:Dn}{k v:D}(b:f δ β=on (.ok k,β))(c:g δ β=on (.ok v,β)):DV f g δ β=on (.ok [.tup [k,v]],β):=by
 unfold DV M.bind;rw[b];simp only[c,M.ret]
theorem uu{α b:Type}(f:α->b)(l:List α):(l.flatMap λx=>[f x])=l.map f:=by
 induction l with
 |nil=>rfl
 |cons x l ih=>rw[PL,ih];rfl
theorem o5{rs cs:List Nat}{W:Wy}{b:D}(h:p_ K a rs cs W b){k:Nat}(c:k<=cs.length):(hL W rs k).length<=62:=by
 have:=JA h.ok h.sm c;have:=h.wd;omega
theorem dk0{rs cs:List Nat}{W:Wy}{b:D}(h:p_ K a rs cs W b){k:Nat}(c:k<=cs.length){os:List D}(e:os=(hL W rs k).map λr=> .tup [tN r,cv W cs.length k r]):kg Os os=on (p3 W rs cs.length k):=by
 refine(v6 (kvs:=(hL W rs k).map λr=>(((0:Int),nI r),cv W cs.length k r)) ⟨?_,?_,?_,?_⟩).trans ?_
 .rw[e,Oy];rfl
 .rw[Oy];exact zb (λx y q=>gj (Sh.mp q).2) (tZ k)
 .rw[Oh];exact bo (by have:=o5 h c;omega)
 .rintro p d _
  obtain⟨r,_,rfl⟩:=OC.mp d;rfl
 .rw[Oy,Oy];rfl
theorem Nr{n:Nat}(h:n<=1000):rF [.int (n:Int)]=on (gL n):=by
 simp only[rF];rw[OA (by simp only[O9,Po];omega),P0]
theorem Nu{n i:Nat}{d:D}(h:(gL n)[i]?=on d):i<n/\d= .int ((n-1-i:Nat):Int):=by
 obtain⟨x,b,rfl⟩:=bv (f:=λ(i:Nat)=>D.int ((n:Int)-1-i)) (xs:=Oz n) h;have c:=(OF.mp b).1;rw[OW]at c;rw[Py c]at b;cases b;exact⟨c,by congr 1;omega⟩
theorem yy{f:Nat->D}{n k:Nat}(h:k<n):((Oz n).map f)[k]?=on (f k):=by rw[Ou,Py h];rfl
theorem zU{f:Nat->D}:∀n j,cg j ((List.range' j n).map f)=(List.range' j n).map λk=> .tup [.int (k:Int),f k]
 |0,_=>rfl
 |n+1,j=>by
  rw[List.range'_succ,OG,OG,<-zU n (j+1)];rfl
theorem Jf{f:Nat->D}(m:Nat):((Oz (m+1)).map λj=>f (m-j)).reverse=(Oz (m+1)).map f:=QC (by simp) λi b c=>by
 simp only[Xu,Oh,OW]at b;simp only[Xi,Re,RC,Oh,OW];congr 1;omega
abbrev FY(W:Wy)(rs:List Nat)(m:Nat):List D:=(Oz (m+1)).flatMap λk=>(hL W rs k).map (cv W m k)
abbrev qu(W:Wy)(rs:List Nat)(m:Nat):D:= .dct On (Ys W rs (m+1)) (FY W rs m)
theorem dk1{rs cs:List Nat}{W:Wy}{b:D}(h:p_ K a rs cs W b){os:List D}(e:os=(Oz (cs.length+1)).flatMap λ(k:Nat)=>(hL W rs k).map λr=> .tup [.tup [.int (k:Int),tN r],cv W cs.length k r]):kg On os=on (qu W rs cs.length):=by
 refine(v6 (kvs:=(Oz (cs.length+1)).flatMap λ(k:Nat)=>(hL W rs k).map λr=>(((k:Int),nI r),cv W cs.length k r)) ⟨?_,?_,?_,?_⟩).trans ?_
 .rw[e,QS];simp only[Oy];rfl
 .have:=zw (W:=W) (rs:=rs) (cs.length+1)
  unfold Ys at this;rw[QS];simp only[Oy];exact this
 .refine bo (OP (gY (n:=62) λk c=>?_) (by have:=h.c6;rw[OW];omega))
  have:=OV.mp c;rw[Oh];exact o5 h (by omega)
 .rintro p _ q
  cases q
 .unfold qu Ys
  rw[QS,QS];simp only[Oy];rfl
theorem xB{rs cs:List Nat}{W:Wy}{b:D}(h:p_ K a rs cs W b):(dM K a).1 [nL rs,nL cs,b] β=on (.ok (qu W rs cs.length),β):=by
 have c6:=h.c6;unfold dM
 dsimp only
 refine aO ?_;refine aB (d:= .lst ((Oz (cs.length+1)).map (lj W rs))) (β1:=β) (ak rfl (CB h)) ?_;refine aB (d:= .int (cs.length:Int)) (β1:=β) (ae rfl (cA (by rw[Oh,Oh]))) ?_;refine aB (d:=p3 W rs cs.length cs.length) (β1:=β) (ki (hL W rs cs.length) tN (λr=>[.tup [tN r,.tup [.int 1,.int 1]]]) (cB (eg rfl rfl (bR (yy (by omega)))) rfl) (λr _=>⟨[on (tN r)],rfl,wf rfl (ae rfl eC)⟩) (dk0 h (OD _) (by rw[uu];simp only[cv,UG];rfl))) ?_;refine lW (ds:=[p3 W rs cs.length cs.length]) (β1:=β) rfl (show 1<=OS by decide) ?_;refine br (ds:=gL cs.length) (β1:=β) (bw rfl (Nr (by omega))) (λi δ c=>β=c/\∃e f,δ=[on (.sh (nL rs)),on (.sh (nL cs)),on (.sh (b)),on (.sh (.lst ((Oz (cs.length+1)).map (lj W rs)))),on (.sh (.int (cs.length:Int))),on (.sh (p3 W rs cs.length (cs.length-i))),on (.own ((Oz (i+1)).map λj=>p3 W rs cs.length (cs.length-j))),e,f]) ⟨rfl,Oi,Oi,rfl⟩ ?_ ?_
 .rintro i d δ _ hd ⟨rfl,e,f,rfl⟩
  obtain⟨p,rfl⟩:=Nu hd;have l:cs.length-1-i<cs.length:=by omega
  have o:cs.length-i=(cs.length-1-i)+1:=by omega
  have m:cs.length-(i+1)=cs.length-1-i:=by omega
  rw[o];refine⟨_,rfl,aB (d:=p3 W rs cs.length (cs.length-1-i+1)) (β1:=β) rfl (aB (d:=p3 W rs cs.length (cs.length-1-i)) (β1:=β) (ki (hL W rs (cs.length-1-i)) tN (λr=>[.tup [tN r,cv W cs.length (cs.length-1-i) r]]) (cB (eg rfl rfl (bR (yy (by omega)))) rfl) (λr g=>⟨[on (tN r),on (nL cs),on (b),on (.int ((cs.length-1-i:Nat):Int)),on (p3 W rs cs.length (cs.length-1-i+1))],rfl,wf rfl (ak (aa rfl (aa (ak rfl (h.fl l (h.at (by omega) g).1 (h.at (by omega) g).2.1)) rfl)) (wR h l g))⟩) (dk0 h (by omega) (uu _ _))) (aq (jF (cs:=(Oz (i+1)).map λj=>p3 W rs cs.length (cs.length-j)) (d:=p3 W rs cs.length (cs.length-1-i)) rfl rfl (O0 (show _<1000 by rw[Oh,OW];omega) (by decide)) (aY ⟨rfl,on (.sh (.int ((cs.length-1-i:Nat):Int))),on (.sh (p3 W rs cs.length (cs.length-1-i+1))),?_⟩))))⟩;rw[Ro (n:=i+1),Pd,m];show _=[_,_,_,_,_,_,on (Sl.own (_++[p3 W rs cs.length (cs.length-(i+1))])),_,_];rw[m];rfl
 .rintro δ _ ⟨rfl,e,f,rfl⟩
  rw[show(gL cs.length).length=cs.length by unfold gL;rw[Oh,OW]];refine aq (aT (ki (Oz (cs.length+1)) (λk=> .tup [.int (k:Int),p3 W rs cs.length k]) (λ(k:Nat)=>(hL W rs k).map λr=> .tup [.tup [.int (k:Int),tN r],cv W cs.length k r]) (bw (aa (eg (y:= .int (-1)) rfl rfl rfl) rfl) ?_) (λk _=>⟨[on (.int (k:Int)),on (p3 W rs cs.length k),Oi,Oi],rfl,?_⟩) (dk1 h rfl)) ⟨rfl,rfl⟩)
  .show on (cg 0 _)=_
   rw[Jf,List.range_eq_range',zU]
  .refine(NH (hL W rs k) (λr=> .tup [tN r,cv W cs.length k r]) (λr=>[.tup [.tup [.int (k:Int),tN r],cv W cs.length k r]]) ?_ (λr _=>⟨[on (.int (k:Int)),on (p3 W rs cs.length k),on (tN r),on (cv W cs.length k r)],rfl,wf (ae rfl eC) rfl⟩)).trans (by rw[uu])
   show on (Q0 (Tw _ _ _),β)=_;rw[List.zipWith_map_left,List.zipWith_map_right,List.zipWith_self];rfl
theorem Zu{r c:Nat}{ba:LI}(sh:k_ r c ba)(r0:1<=r)(r1:r<=30)(c1:c<=30){δ:Dn}(h:δ.getD 0 Oi=on (f_ ba)):cf 1 [0] (cX fR (ag (aP eY (ag (f2 la (ah 0) (fC (.int 0))) (aF))) (aF))) (jm 0) (λ_=>M.ret On) (lq (cf 1 [0] (dg (ah 1)) (jm 0) (λ_=>M.ret On) (lq (f2 la (ah 0) (ah 1))))) δ β=on (.ok (f_ (tp c ba)),β):=by
 obtain⟨b,d,g⟩:=sh.at (i:=0) (by omega);have k:(gI ba)[0]?=on (b.map D.int):=by rw[Ou,d];rfl
 have o:aP eY (ag (f2 la (ah 0) (fC (.int 0))) (aF)) δ β=on (.ok (.int (c:Int)),β):=ae (aa (x:= .lst (b.map D.int)) (eg (x:=f_ ba) (n5 h) rfl (rP k)) rfl) (cA (by rw[Oh,g]));have e:=bh (nv:=1) (dc:=[0]) (it:=cX fR (ag (aP eY (ag (f2 la (ah 0) (fC (.int 0))) (aF))) (aF))) (tg:=jm 0) (f:=cf 1 [0] (dg (ah 1)) (jm 0) (λ_=>M.ret On) (lq (f2 la (ah 0) (ah 1)))) (δ:=δ) (β:=β) (Oz c) (λi=>D.int (0+(i:Int))) (λj=>D.lst (ba.map λrow=>D.int (row.getD j 0))) (bw (ds:=aZ 0 c) (aa o rfl) (F_ (by omega) (by omega))) ?_ (bo (by rw[OW];omega))
 .rw[e]
  unfold tp vr;show _=on (Q0 (D.lst (PQ D.lst (PQ _ (PQ _ _)))),β);rw[Oy,Oy];congr 4;refine O1 λj _=>?_;show _=D.lst ((ba.map λrow=>row.getD j 0).map D.int);rw[Oy];rfl
 .intro j p
  have q:=OV.mp p;have m:lm 1 [0] δ=[Oi,on (f_ ba)]:=by
   unfold lm;simp only[OG,RE,h];rfl
  refine⟨[on (.int (0+(j:Int))),on (f_ ba)],by rw[m];rfl,?_⟩;have hm:(gI ba).map D.lst=ba.map λrow=>D.lst (row.map D.int):=by rw[Oy];rfl
  refine bh (nv:=1) (dc:=[0]) ba (λrow=>D.lst (row.map D.int)) _ (by show on (Q0 ((gI ba).map D.lst),β)=_;rw[hm]) (λrow t=>⟨_,rfl,eg (x:= .lst (row.map D.int)) (y:= .int (0+(j:Int))) rfl rfl ?_⟩) (bo (by rw[sh.1];omega));have u:=sh.2 row t;obtain⟨x,n⟩:=Iy (l:=row) (i:=j) (by omega);rw[SQ];refine bR ?_;rw[Ou,n,Om,n];rfl
theorem wY{r c:Nat}{ba:LI}(sh:k_ r c ba)(r0:1<=r)(r1:r<=30)(c1:c<=30):(oR K a).1 [f_ ba] β=on (.ok (f_ (tp c ba)),β):=
 aO (aq (aT (Zu sh r0 r1 c1 rfl) ⟨rfl,rfl⟩))
noncomputable abbrev iL(xs:List Int):D:= .lst (xs.map D.int)
theorem yb{ba:LI}(h:ba.length<=1000){f:FD}{δ:Dn}(e:f δ β=on (.ok (f_ ba),β)):cf 1 [] (dg f) (jm 0) (λ_=>M.ret On) (lq (aP fi (ag (ah 0) (aF)))) δ β=on (.ok (iL (ba.map Qq)),β):=by
 have hm:(gI ba).map D.lst=ba.map λrow=>D.lst (row.map D.int):=by rw[Oy];rfl
 have:=bh (nv:=1) (dc:=[]) (it:=dg f) (tg:=jm 0) (f:=aP fi (ag (ah 0) (aF))) (δ:=δ) (β:=β) ba (λrow=>D.lst (row.map D.int)) (λrow=>D.int row.sum) (by rw[<-hm];exact cB e rfl) (λrow _=>⟨_,rfl,ae rfl (d7 row)⟩) (bo h);rw[this];show _=on (Q0 (D.lst ((ba.map Qq).map D.int)),β);rw[Oy];rfl
theorem oP{ba:LI}(h:ba.length<=1000):(i5 K a).1 [f_ ba] β=on (.ok (iL (ba.map Qq)),β):=
 aO (aq (aT (yb h rfl) ⟨rfl,rfl⟩))
theorem kz{r c:Nat}{ba:LI}(sh:k_ r c ba)(r0:1<=r)(r1:r<=30)(c1:c<=30):(fU K a).1 [f_ ba] β=on (.ok (iL ((tp c ba).map Qq)),β):=
 aO (aq (aT (yb (by rw[(pZ (d:=(0:Int)) (c:=c) sh.1).1];omega) (ak rfl (wY sh r0 r1 c1))) ⟨rfl,rfl⟩))
noncomputable def gp(G:LI)(i j:Nat):Int:=(G.getD i []).getD j 0
theorem N8{G:LI}{i j:Nat}{row:List Int}{x:Int}(b:G[i]?=on row)(c:row[j]?=on x):gp G i j=x:=by
 unfold gp;simp only[Om,b,c,Option.getD_some]
theorem zN{G:LI}{i j:Nat}{row:List Int}(b:G[i]?=on row):row.getD j 0=gp G i j:=by
 unfold gp;rw[Om (l:=G),b];rfl
theorem AG:∀(xs:List Int),S xs.length (λj=>xs.getD j 0)=xs.sum:=λxs=>by
 unfold S;congr 1;refine QC (by simp) λi c b=>?_;rw[Re,RC,Om,Oo b];rfl
theorem MY{r c i:Nat}{A:LI}(d:k_ r c A)(e:i<r):S c (gp A i)=(A.map Qq).getD i 0:=by
 obtain⟨f,b,g⟩:=d.at e;rw[Om,Ou,b];show _=f.sum;rw[<-AG,g];exact dj λj _=>(zN b).symm
theorem MZ{r c j:Nat}{A:LI}(b:k_ r c A)(f:j<c):S r (λp=>gp A p j)=((tp c A).map Qq).getD j 0:=by
 have e:(tp c A)[j]?=on (A.map λrow=>row.getD j 0):=by
  show((Oz c).map λj=>A.map λrow=>row.getD j 0)[j]?=_;rw[Ou,Py f];rfl
 rw[Om,Ou,e];show _=(A.map λrow=>row.getD j 0).sum;rw[<-AG,Oh,b.1];refine dj λp g=>?_;obtain⟨h,d,i⟩:=b.at g;rw[Om (l:=A.map _),Ou,d];exact(zN d).symm
theorem y8{rs:List Int}{b:List Nat}(c:∀i∈b,i<rs.length)(d:b.length<=1000):(kS K a).1 [iL rs,nL b] β=on (.ok (.int (o3 rs b)),β):=by
 unfold kS
 dsimp only
 refine aO (aq (aT (ae (aa (x:=iL (b.map λi=>rs.getD i 0)) ?_ rfl) (d7 _)) ⟨rfl,rfl⟩));have:=bh (nv:=1) (dc:=[0]) (it:=dg (ah 1)) (tg:=jm 0) (f:=f2 la (ah 1) (ah 0)) (δ:=[on (iL rs),on (nL b)]) (β:=β) b (λi=>D.int (i:Int)) (λi=>D.int (rs.getD i 0)) (by show on (Q0 ((nI b).map D.int),β)=_;rw[Oy];rfl) (λi e=>⟨_,rfl,eg rfl rfl (HX (c i e))⟩) (bo d);refine this.trans ?_;show _=on (Q0 (D.lst ((b.map λi=>rs.getD i 0).map D.int)),β);rw[Oy];rfl
theorem qV{r c j:Nat}{cs:List Int}{b:LP}{g:List Nat}(sh:k_ r c b)(n:cs.length=c)(k:r<=1000)(l:j<c):(cR K a).1 [iL cs,c7 b,nL g,.int (j:Int)] β=on (.ok (.int (ef cs b r g j)),β):=by
 unfold cR
 dsimp only
 refine aO ?_;refine aB (d:=iL (((Oz r).filter λi=>!decide (i∈g)).map λi=>(bI b i j).1)) (β1:=β) ?_ ?_
 .have m:((gP b).map D.lst).length=r:=by rw[Oh,Oh,sh.1]
  have:=ix (nv:=2) (dc:=[2,3]) (it:=HP (ag (ah 1) aF)) (tg:=Q_ (eW (jm 0) (eW (jm 1) jH))) (tt:=fB (f2 (O2 On) (ah 0) (ah 2))) (f:=f2 la (f2 la (ah 1) (ah 3)) (fC (.int 0))) (δ:=[on (iL cs),on (c7 b),on (nL g),on (.int (j:Int)),Oi]) (β:=β) (Oz r) (λi=>D.tup [.int (i:Int),.lst ((b.getD i []).map pD)]) (λi=>D.int (bI b i j).1) (λi=>!decide (i∈g)) ?_ (λi h=>⟨_,rfl,i_ (eg rfl rfl um),λ_=>eg (eg rfl rfl (uh sh (OV.mp h) l).2) rfl ug⟩) (bo (by rw[OW];exact k))
  .refine this.trans ?_
   show _=on (Q0 (D.lst ((((Oz r).filter λi=>!decide (i∈g)).map λi=>(bI b i j).1).map D.int)),β);rw[Oy];rfl
  .show on (Q0 (cg 0 ((gP b).map D.lst)),β)=_
   rw[m5,m];congr 3;refine O1 λi h=>?_;rw[QJ];congr 3;obtain⟨e,_⟩:=sh.getD (OV.mp h);rw[Om,Ou,Ou,e];rfl
 refine aq (aT (eg (x:= .int (cs.getD j 0)) (eg rfl rfl (HX (by omega))) (ae rfl (d7 _)) rfl) ⟨rfl,?_⟩);have e:(Oz r).map (λi=>if i∈g then(0:Int)else(bI b i j).1)=(Oz r).map (λx=>if(!decide (x∈g))=On then(bI b x j).1 else 0):=O1 λi _=>by by_cases q:i∈g<;>simp[q]
 unfold ef S;rw[vV,e]
theorem rn{r c j:Nat}{b:LP}{d:List Nat}(sh:k_ r c b)(e:∀i∈d,i<r)(k:d.length<=1000)(g:j<c):(cS K a).1 [c7 b,nL d,.int (j:Int)] β=on (.ok (.int (e8 b d j)),β):=by
 unfold cS
 dsimp only
 refine aO (aq (aT (ae (aa (x:=iL (d.map λi=>(bI b i j).2)) ?_ rfl) (d7 _)) ⟨rfl,rfl⟩));have:=bh (nv:=1) (dc:=[0,2]) (it:=dg (ah 1)) (tg:=jm 0) (f:=f2 la (f2 la (f2 la (ah 1) (ah 0)) (ah 2)) (fC (.int 1))) (δ:=[on (c7 b),on (nL d),on (.int (j:Int))]) (β:=β) d (λi=>D.int (i:Int)) (λi=>D.int (bI b i j).2) (by show on (Q0 ((nI d).map D.int),β)=_;rw[Oy];rfl) (λi h=>⟨_,rfl,eg (eg (eg rfl rfl (uh sh (e i h) g).1) rfl (uh sh (e i h) g).2) rfl Lx⟩) (bo k);refine this.trans ?_;show _=on (Q0 (D.lst ((d.map λi=>(bI b i j).2).map D.int)),β);rw[Oy];rfl
theorem yv{r c:Nat}{cs:List Int}{b:LP}{d e:List Nat}(sh:k_ r c b)(k:cs.length=c)(l:r<=1000)(h:c<=1000)(m:∀i∈d,i<r)(n:d.length<=1000):(kR K a).1 [iL cs,c7 b,nL d,nL e] β=on (.ok (.int (rG cs b r c d e)),β):=by
 unfold kR
 dsimp only
 refine aO (aq (aT (ae (aa (x:=iL ((Oz c).map λj=>if j∈e then ef cs b r d j else e8 b d j)) ?_ rfl) (d7 _)) ⟨rfl,rfl⟩));have:=bh (nv:=1) (dc:=[3,0,1,2]) (it:=cX fR (ag (aP eY (ag (ah 0) (aF))) (aF))) (tg:=jm 0) (f:=YG (fB (f2 (O2 Os) (ah 0) (ah 1))) (eV (cR K a).1 (ag (ah 2) (ag (ah 3) (ag (ah 4) (ag (ah 0) (aF)))))) (eV (cS K a).1 (ag (ah 3) (ag (ah 4) (ag (ah 0) (aF)))))) (δ:=[on (iL cs),on (c7 b),on (nL d),on (nL e)]) (β:=β) (Oz c) (λj=>D.int (0+(j:Int))) (λj=>D.int (if j∈e then ef cs b r d j else e8 b d j)) (bw (ds:=aZ 0 c) (aa (ae rfl (cA (by rw[Oh,k]))) rfl) (F_ (by omega) (by omega))) (λj o=>⟨[on (.int (j:Int)),on (nL e),on (iL cs),on (c7 b),on (nL d)],by rw[SQ];rfl,?_⟩) (bo (by rw[OW];exact h))
 .refine this.trans ?_
  show _=on (Q0 (D.lst (((Oz c).map λj=>if j∈e then ef cs b r d j else e8 b d j).map D.int)),β);rw[Oy];rfl
 .have g:=OV.mp o
  by_cases q:j∈e
  .rw[OA q]
   exact M3 (i_ (eg rfl rfl (by rw[um];simp[q]))) (ak rfl (qV sh k l g))
  .rw[Ot q]
   exact M4 (i_ (eg rfl rfl (by rw[um];simp[q]))) (ak rfl (rn sh m n g))
theorem zc{r c:Nat}{cs:List Int}{b:LP}{d:List Nat}(sh:k_ r c b)(g:cs.length=c)(l:r<=1000)(e:c<=1000)(m:∀i∈d,i<r)(n:d.length<=1000):(iZ K a).1 [iL cs,c7 b,nL d] β=on (.ok (nL (tT cs b r c d)),β):=by
 unfold iZ
 dsimp only
 refine aO ?_;have h:=ix (nv:=1) (dc:=[0,1,2]) (it:=cX fR (ag (aP eY (ag (ah 0) (aF))) (aF))) (tg:=jm 0) (tt:=fB (f2 (YR) (eV (cR K a).1 (ag (ah 1) (ag (ah 2) (ag (ah 3) (ag (ah 0) (aF)))))) (eV (cS K a).1 (ag (ah 2) (ag (ah 3) (ag (ah 0) (aF))))))) (f:=ah 0) (δ:=[on (iL cs),on (c7 b),on (nL d)]) (β:=β) (Oz c) (λj=>D.int (0+(j:Int))) (λj=>D.int (j:Int)) (λj=>decide (ef cs b r d j<e8 b d j))
  (bw (ds:=aZ 0 c) (aa (ae rfl (cA (by rw[Oh,g]))) rfl) (F_ (by omega) (by omega)))
  (λj k=>⟨[on (.int (j:Int)),on (iL cs),on (c7 b),on (nL d)],by rw[SQ];rfl,i_ (eg (ak rfl (qV sh g l (OV.mp k))) (ak rfl (rn sh m n (OV.mp k))) rfl),λ_=>rfl⟩) (bo (by rw[OW];exact e))
 refine aq (aT h ⟨rfl,?_⟩);show Q0 (D.lst ((nI (tT cs b r c d)).map D.int))=_;rw[Oy];rfl
theorem KF{n i:Nat}{d:D}(h:(aZ 0 n)[i]?=on d):i<n/\d= .int (i:Int):=by
 obtain⟨x,b,rfl⟩:=bv (f:=λ(i:Nat)=>D.int (0+(i:Int))) (xs:=Oz n) h;have c:=(OF.mp b).1;rw[OW]at c;rw[Py c]at b;cases b;exact⟨c,by rw[SQ]⟩
theorem xE{n:Nat}(hn:n<=6):(kU K a).1 [.int (n:Int)] β=on (.ok (.lst ((ss n).map nL)),β):=by
 unfold kU
 dsimp only
 refine aO ?_;refine aB (d:= .lst [.lst []]) (β1:=β) (ae (aa (ae rfl CM) rfl) jY) ?_;refine br (ds:=aZ 0 n) (β1:=β) (bw rfl (F_ (by omega) (by omega))) (λi δ b=>β=b/\∃c,δ=[on (.sh (.int (n:Int))),on (.sh (.lst ((ss i).map nL))),c]) ⟨rfl,Oi,rfl⟩ ?_ ?_
 .rintro i d δ _ hd ⟨rfl,c,rfl⟩
  obtain⟨g,rfl⟩:=KF hd;have j:(ss i).length<=64:=by rw[v9];exact OP (Th (by decide) (show i<=6 by omega)) (by decide)
  refine⟨[on (.sh (.int (n:Int))),on (.sh (.lst ((ss i).map nL))),on (.sh (.int (i:Int)))],rfl,aq (aB (d:= .lst ((ss (i+1)).map nL)) (β1:=β) ?_ (aY ⟨rfl,_,rfl⟩))⟩;have h:=bh (nv:=1) (dc:=[2]) (it:=dg (ah 1)) (tg:=jm 0) (f:=f2 jd (ah 0) (aP jV (ag (ah 1) (aF)))) (δ:=vw [on (.sh (.int (n:Int))),on (.sh (.lst ((ss i).map nL))),on (.sh (.int (i:Int)))]) (β:=β) (ss i) nL (λl=>nL (l++[i])) rfl (λl e=>⟨[on (nL l),on (.int (i:Int))],rfl,by
   have k:l.length<=i:=by have:=(g0 i l e).length_le;rwa[OW]at this
   refine eg rfl (ae rfl jY) ((mS ?_).trans ?_)
   .rw[Oh,Oh,PH];omega
   .simp only[nL,nI,Pd,OG,RE]⟩) (bo (by omega))
  refine eg rfl h ((mS ?_).trans ?_)
  .rw[Oh,Oh];omega
  .rw[ss,Pd,Oy];rfl
 .rintro δ _ ⟨rfl,c,rfl⟩
  rw[show(aZ 0 n).length=n by unfold aZ;rw[Oh,OW]];exact aq (aT rfl ⟨rfl,rfl⟩)
theorem LX{r:Nat}{b:List Nat}(h:b∈ss r):(∀i∈b,i<r)/\b.length<=r:=⟨λi c=>OV.mp ((g0 r b h).subset c),by have:=(g0 r b h).length_le;rwa[OW]at this⟩
theorem LM{r c:Nat}{rs cs:List Int}{b:LP}(sh:k_ r c b)(l:rs.length=r)(m:cs.length=c)(n:r<=6)(p:c<=6)(ok:∀X Y,0<=Za rs cs b r c X Y):(eK K a).1 [iL rs,iL cs,c7 b] β=on (.ok .non,β):=by
 unfold eK
 dsimp only
 refine aO (aq (br (ds:=(ss r).map nL) (β1:=β) (cB (ak (aa (ae rfl (cA (r:=r) (by rw[Oh,l]))) rfl) (xE n)) rfl) (λi δ f=>β=f/\∃g h,δ=[on (.sh (iL rs)),on (.sh (iL cs)),on (.sh (c7 b)),g,h]) ⟨rfl,Oi,Oi,rfl⟩ ?_ ?_))
 .rintro i d δ _ hd ⟨rfl,g,h,rfl⟩
  obtain⟨e,q,rfl⟩:=bv hd;have hm:=OQ q;obtain⟨k,t⟩:=LX hm;refine⟨_,rfl,aB (d:=nL (tT cs b r c e)) (β1:=β) (ak rfl (zc sh m (by omega) (by omega) k (by omega))) ?_⟩;refine aq (dy (i_ (eg (ak rfl (y8 (by rw[l];exact k) (by omega))) (ak rfl (yv sh m (by omega) (by omega) k (by omega))) ?_)) (bn (aY ⟨rfl,_,_,rfl⟩)));have o:=ok (λi=>decide (i∈e)) (λj=>decide (j∈tT cs b r c e));have sub:(tT cs b r c e).Sublist (Oz c):=U2;rw[<-Kt (g0 r e hm) sub]at o;show on (D.bl (decide _))=_;rw[Pn (by omega)]
 .rintro δ _ ⟨rfl,g,h,rfl⟩
  exact aY ⟨rfl,rfl⟩
theorem IQ{r c:Nat}{ba:LI}{b:LP}(sh:k_ r c ba)(m:k_ r c b)(kp:Kp ba b)(X Y:Nat->Bool):0<=Za (ba.map Qq) ((tp c ba).map Qq) b r c X Y:=by
 refine IZ (g:=gp ba) (λi f j h=>?_) (λi f=>(MY sh f).symm) (λj h=>(MZ sh h).symm) X Y;obtain⟨row,k,n⟩:=sh.at f;have ex:=mR (l:=row) (i:=j) (d:=0) (by omega);obtain⟨e,l⟩:=m.getD f;have ep:=mR (l:=b.getD i []) (i:=j) (d:=((0,0):Int×Int)) (by omega);rw[N8 k ex];exact kp i j _ _ (lP k ex) (lP e ep)
variable{rs cs:List Nat}
theorem Io{g:G}{δ:Ds}{o:tx}(h:Gw g δ β (λc b=>c=o/\b=β)):g δ β=on (o,β):=by
 obtain⟨c,b,e,rfl,rfl⟩:=h;exact e
theorem jE{t:Dn->M Bool}{d b h:G}{δ:Ds}{β1:Bg}{c:Bool}{Q:tx->Bg->Prop}(e:t (j0 δ) β=on (.ok c,β1))(f:c=Os)(k:Gw (aN b h) δ β1 Q):Gw (aN (y4 t d b) h) δ β Q:=by
 subst f;exact dy e k
theorem NA{p:Int×Int}(h:pj p):(ie K a).1 [pD p] β=on (.ok .non,β):=by
 obtain⟨b,c,e⟩:=h;unfold ie
 dsimp only
 refine aO ?_;exact GO (d:=pD p) (β1:=β) rfl rfl (aq (jE (n9 (i_ (AL rfl rfl rfl rfl))) (by simp;omega) (bn (aY ⟨rfl,rfl⟩))))
theorem I9{r c:Nat}{b:LP}(g:u_ r c b)(n:r<=1000):(cE K a).1 [c7 b,.int (r:Int),.int (c:Int)] β=on (.ok (c7 b),β):=by
 unfold cE
 dsimp only
 refine aO ?_;refine dy (β1:=β) (i_ (eg rfl rfl rfl)) (bn ?_);have o:cf 1 [2] (dg (ah 0)) (jm 0) (λ_=>M.ret On) (lq (f2 (i8) (aP eY (ag (ah 0) (aF))) (ah 1))) [on (c7 b),on (.int (r:Int)),on (.int (c:Int)),Oi,Oi] β=on (.ok (.lst (b.map λ_=>D.bl Os)),β):=
  bh (nv:=1) (dc:=[2]) b (λrow=>D.lst (row.map pD)) _ (by show on _=_;rw[Oy];rfl) (λrow h=>⟨_,rfl,eg (ae rfl (cA (r:=c) (by rw[Oh];exact g.shp.2 row h))) rfl (ne_int.trans (by rw[OL rfl];rfl))⟩) (bo (by rw[g.shp.1];exact n))
 refine jE (n6 (i_ (eg (ae rfl (zq (r:=r) (by rw[Oh];exact g.shp.1))) rfl (ne_int.trans (by rw[OL rfl];rfl)))) (lV (ae (aa o rfl) (any_map b λ_=>Os)) rfl)) (by simp) (bn ?_);refine br (ds:=(gP b).map D.lst) (β1:=β) rfl (λi δ e=>β=e/\∃l f,δ=[on (.sh (c7 b)),on (.sh (.int (r:Int))),on (.sh (.int (c:Int))),l,f]) ⟨rfl,Oi,Oi,rfl⟩ ?_ ?_
 .rintro i d δ _ hd ⟨rfl,l,f,rfl⟩
  obtain⟨y,q,rfl⟩:=bv hd;obtain⟨row,k,rfl⟩:=bv q;refine⟨_,rfl,aq (br (ds:=row.map pD) (β1:=β) rfl (λj δ e=>β=e/\∃f,δ=[on (.sh (c7 b)),on (.sh (.int (r:Int))),on (.sh (.int (c:Int))),on (.sh (.lst (row.map pD))),f]) ⟨rfl,_,rfl⟩ ?_ ?_)⟩
  .rintro j d δ _ hd ⟨rfl,f,rfl⟩
   obtain⟨p,m,rfl⟩:=bv hd;exact⟨_,rfl,aq (oi (ak rfl (NA (g.ok row (OQ k) p (OQ m)))) (aY ⟨rfl,_,rfl⟩))⟩
  .rintro δ _ ⟨rfl,f,rfl⟩
   exact aY ⟨rfl,_,_,rfl⟩
 .rintro δ _ ⟨rfl,l,f,rfl⟩
  exact aq (aT (bh (nv:=1) (dc:=[]) (gP b) D.lst D.lst rfl (λx _=>⟨_,rfl,rfl⟩) (bo (by rw[Oh,g.shp.1];exact n))) ⟨rfl,rfl⟩)
theorem y0(l:List Nat){n:Nat}{δ:Dn}(b:l.length<=1000)(e:δ.getD n Oi=on (nL l)):uy (aP xI (ag (cf 1 [] (dg (ah n)) (jm 0) (λ_=>M.ret On) (lq (f2 (YR) (ah 0) (fC (.int 0))))) (aF))) δ β=on (.ok Os,β):=by
 have c:=bh (nv:=1) (dc:=[]) (it:=dg (ah n)) (tg:=jm 0) (f:=f2 (YR) (ah 0) (fC (.int 0))) (δ:=δ) (β:=β) (nI l) D.int (λx=>D.bl (decide (x<0))) (cB (n5 e) rfl) (λx _=>⟨_,rfl,rfl⟩) (bo (by rw[Oh];exact b));refine lV (ae (aa c rfl) (any_map _ _)) (Px on (Yb.mpr λx d=>?_));obtain⟨n,_,rfl⟩:=OC.mp d;simp
theorem qh(l:List Nat):eY [nL l]=on (.int (l.length:Int)):=cA (by rw[Oh,Oh])
theorem JU(h:Nt0 rs cs):(ic K a).1 [nL rs,nL cs] β=on (.ok .non,β):=by
 obtain⟨b,c,d,e⟩:=h.nr;have c1:=h.c1;have c6:=h.c6;unfold ic
 dsimp only
 refine aO ?_;refine jE (n9 (i_ (uU rfl (ae rfl (qh rs)) rfl))) (by simp;omega) (bn ?_);refine jE (n9 (i_ (uU rfl (ae rfl (qh cs)) rfl))) (by simp;omega) (bn ?_);refine dy (n6 (y0 rs (by omega) rfl) (y0 cs (by omega) rfl)) (bn ?_);refine jE (i_ (eg (ae rfl (jr rs)) (ae rfl (jr cs)) ne_int)) (by rw[h.sm];simp) (bn ?_);exact aq (jE (i_ (eg (ae rfl (jr rs)) rfl gt_int)) (by simp;omega) (bn (aY ⟨rfl,rfl⟩)))
theorem ID(h:z_ rs):(ib K a).1 [nL rs] β=on (.ok .non,β):=by
 obtain⟨g,j,k,e⟩:=h;unfold ib
 dsimp only
 refine aO ?_;refine aB (d:= .int 1) (β1:=β) rfl ?_;refine br (ds:=(nI rs).map D.int) (β1:=β) rfl (λi δ b=>β=b/\∃c,δ=[on (.sh (nL rs)),on (.sh (.int ((pr ((rs.take i).map (·+1)):Nat):Int))),c]) ⟨rfl,Oi,rfl⟩ ?_ ?_
 .rintro i d δ _ hd ⟨rfl,c,rfl⟩
  obtain⟨n,hn,rfl⟩:=mw hd;have f:=gX (OQ hn);have l:=OP (rJ rs i) e;refine⟨_,rfl,aq (oj rfl (eg (z:= .int ((n+1:Nat):Int)) rfl rfl rfl) (qe (Y9 (by omega)) (Y9 (by omega))) (aY ⟨rfl,on (.sh (.int (n:Int))),?_⟩))⟩;rw[gU hn];rfl
 .rintro δ _ ⟨rfl,c,rfl⟩
  rw[tU,Qj];exact aq (jE (i_ (eg rfl rfl gt_int)) (by simp;omega) (bn (aY ⟨rfl,rfl⟩)))
structure D2 (ba:LI) (B:List (List (Nat×Nat))) (rs cs:List Nat):Prop extends Nt0 rs cs where
 shp:k_ rs.length cs.length ba
 rw1:ba.map Qq=nI rs
 cl1:(tp cs.length ba).map Qq=nI cs
 bok:wh rs.length cs.length B
 kp:Kp ba (f9 B)
theorem iX{r c:Nat}{B:List (List (Nat×Nat))}(h:k_ r c B):k_ r c (f9 B):=h.map
theorem wh.bnd{r c:Nat}{B:List (List (Nat×Nat))}(h:wh r c B):u_ r c (f9 B):=⟨iX h.1,λrow e p f=>by
 obtain⟨b,g,rfl⟩:=OC.mp e;obtain⟨d,i,rfl⟩:=OC.mp f;have:=h.2 b g d i;exact⟨by show(0:Int)<=(d.1:Int);omega,by show(d.1:Int)<=(d.2:Int);omega,by show(d.2:Int)<=40;omega⟩⟩
theorem D2.nt{ba:LI}{B:List (List (Nat×Nat))}(h:D2 ba B rs cs):p_ K a rs cs (wB B cs) (lb B):=⟨h.toNt0,rB B cs,λ{β k r} b c e=>JW c (by rw[e];exact h.bok) (by rw[<-h.sm];exact h.nr.2.2.1) b⟩
theorem D2.fit{ba:LI}{B:List (List (Nat×Nat))}(h:D2 ba B rs cs):(eK K a).1 [nL rs,nL cs,lb B] β=on (.ok .non,β):=by
 have b:=h.nr.2.1;have c6:=h.c6;refine LM (iX h.bok.1) (Oh _) (Oh _) (by omega) (by omega) λX Y=>?_;rw[<-h.rw1,<-h.cl1];exact IQ h.shp (iX h.bok.1) h.kp X Y
theorem Ja{ba:LI}{B:List (List (Nat×Nat))}(h:D2 ba B rs cs):(cE K a).1 [lb B,.int (rs.length:Int),.int (cs.length:Int)] β=on (.ok (lb B),β):=I9 h.bok.bnd (by have:=h.nr.2.1;omega)
abbrev ZO(B:List (List (Nat×Nat)))(rs cs:List Nat):List D:=[nL rs,nL cs,lb B,qu (wB B cs) rs cs.length]
abbrev Lj(a:Ad)(B:List (List (Nat×Nat)))(rs cs:List Nat):D:= .obj a.Ae ["row_list","column_list","pairs","counted"] (ZO B rs cs)
theorem NL{ba:LI}{B:List (List (Nat×Nat))}{d:D}(h:D2 ba B rs cs)(hd:∀{β:Bg},(cE K a).1 [d,.int (rs.length:Int),.int (cs.length:Int)] β=on (.ok (lb B),β)):o4 K a [nL rs,nL cs,d] β=on (.ok (ZO B rs cs),β):=DD λx=>by
 have b:(c8 K a).1 [nL rs,nL cs,d] β=on (.ok (lb B),β):=by
  unfold c8
  dsimp only
  refine aO ?_;exact oi (ak rfl (JU h.toNt0)) (aB (ak (aa rfl (aa (ae rfl (qh rs)) (aa (ae rfl (qh cs)) rfl))) hd) (oi (ak rfl (ID h.nr)) (aq (aT rfl ⟨rfl,rfl⟩))))
 unfold ul;refine zF (g:=lB 4 _) (δ1:=[on (.sh (.adr x)),on (.sh (nL rs)),on (.sh (nL cs)),on (.sh d),on (.sh (lb B))]) (β1:=β) (Io (aq (aB (ak rfl b) (aY ⟨rfl,rfl⟩)))) rfl rfl ?_;refine zF (δ1:=[on (.sh (.adr x)),on (.sh (nL rs)),on (.sh (nL cs)),on (.sh d),on (.sh (lb B))]) (β1:=β) (Io (aq (oi (ak rfl h.fit) (aY ⟨rfl,rfl⟩)))) rfl rfl ?_;exact ph (ae rfl rfl) (ph (ae rfl rfl) (ph rfl (ph (ak rfl (xB h.nt)) rfl)))
theorem Li{ba:LI}{B:List (List (Nat×Nat))}(h:D2 ba B rs cs):o4 K a [nL rs,nL cs,lb B] β=on (.ok (ZO B rs cs),β):=NL h (Ja h)
variable{W:Wy}{bd:D}
abbrev k8(a:Ad)(W:Wy)(bd:D)(rs cs:List Nat):D:= .obj a.Ae ["row_list","column_list","pairs","counted"] [nL rs,nL cs,bd,qu W rs cs.length]
theorem JD{b d:List fh}{c e:List D}{y:fh}(h:b.length=c.length):lp (b++d) (c++e) y=(lp b c y).or (lp d e y):=by
 unfold lp;rw[List.zip_append h,List.find?_append];cases(b.zip c).find? λp=>decide (p.1=y)<;>rfl
theorem HS{f:List Nat->D}{u:List Nat}{k:Int}:∀{L:List (List Nat)},u∈L->lp (L.map λr=>(k,nI r)) (L.map f) (k,nI u)=on (f u)
 |r::L,h=>by
  unfold lp;rw[OG,OG,QU,Rm];by_cases q:r=u
  .rw[q,OL rfl];rfl
  .rw[Pn λe=>q (gj (Sh.mp e).2)]
   exact HS ((OK.mp h).resolve_left λe=>q e.symm)
theorem zi{f:List Nat->D}{y:fh}{k:Int}(h:k≠y.1):∀{L:List (List Nat)},lp (L.map λr=>(k,nI r)) (L.map f) y=Oi
 |[]=>rfl
 |r::L=>by
  have ih:=zi (f:=f) h (L:=L);unfold lp at ih⊢;rw[OG,OG,QU,Rm,Pn λe=>h (Sh.mp e).1];exact ih
theorem zk{m k:Nat}{u:List Nat}(b:u∈hL W rs k):∀{L:List Nat},k∈L->lp (L.flatMap λk=>(hL W rs k).map λr=>((k:Int),nI r)) (L.flatMap λk=>(hL W rs k).map (cv W m k)) ((k:Int),nI u)=on (cv W m k u)
 |j::L,h=>by
  rw[PL,PL,JD (by rw[Oh,Oh])];by_cases q:j=k
  .subst q
   rw[HS b];rfl
  .rw[zi (by show(j:Int)≠(k:Int);omega),Option.none_or]
   exact zk b ((OK.mp h).resolve_left λe=>q e.symm)
theorem ld{k:Nat}{u:List Nat}(c:k<=cs.length)(b:u∈hL W rs k):lp (Ys W rs (cs.length+1)) (FY W rs cs.length) ((k:Int),nI u)=on (cv W cs.length k u):=zk b (OV.mpr (by omega))
theorem p_.nx{k:Nat}{r v:List Nat}(h:p_ K a rs cs W bd)(b:r∈hL W rs k)(c:v∈W k r):less r v∈hL W rs (k+1):=fV.mpr ⟨r,b,v,c,rfl⟩
theorem wg{k:Nat}{r:List Nat}(h:p_ K a rs cs W bd)(b:z_ r):(W k r).length<=500:=by
 have:=(h.ok k r).length_le;have:=jG r (cs.getD k 0);have:=rJ r (r.length-1);rw[<-WP]at this;have:=b.2.2.2;omega
abbrev sT(W:Wy)(cs:List Nat)(k:Nat)(r:List Nat):List (List Nat):=stW W (cs.length-(k+1)) k r
abbrev tB(W:Wy)(cs:List Nat)(k:Nat)(r v:List Nat):Nat:=o_ W (cs.length-(k+1)) (k+1) (less r v)
theorem Nl{k:Nat}{r:List Nat}(h:p_ K a rs cs W bd)(b:z_ r):(sT W cs k r).length<=500:=OP U2.length_le (wg h b)
theorem sF(l:List Nat):sE [nL l]=on (tN l):=rfl
theorem J3{f:FD}{g:FL}{δ:Dn}{b:Bool}{ks:List fh}{vs:List D}{k z:D}{y:fh}(c:f δ β=on (.ok (.dct b ks vs),β))(d:g δ β=on (.ok [k,z],β))(e:fI b k=on y):DN f g δ β=on (.ok ((lp ks vs y).getD z),β):=by
 unfold DN;rw[M.bind_ok c];simp only;rw[M.bind_ok d];simp only[e,QK,M.ofO]
abbrev B_(W:Wy)(rs cs:List Nat)(s:Int)(u:List Nat):Option D:=lp (Ys W rs (cs.length+1)) (FY W rs cs.length) (s,nI u)
theorem pO{s:Int}{u:List Nat}:(dN K a).1 [k8 a W bd rs cs,.int s,tN u] β=on (.ok ((B_ W rs cs s u).getD (.tup [.int 0,.int 0])),β):=
 aO (aq (aT (J3 (jD rfl rfl) (aa (ae rfl eC) (aa (ae rfl eC) rfl)) (mB (b:=On) (k:=(s,nI u)) λe=>(by cases e))) ⟨rfl,rfl⟩))
theorem y6{s:Int}{u:List Nat}:CC (.tup [.int s,tN u]) (qu W rs cs.length)=on (.bl (B_ W rs cs s u).isNone):=by
 show(fI On (dK On (s,nI u))).map _=_;rw[mB λe=>(by cases e),QK]
theorem Lo{s:Int}{u:List Nat}(h:∀k,k<=cs.length->s=(k:Int)->u∉hL W rs k):B_ W rs cs s u=Oi:=NN λz=>by
 obtain⟨k,b,z⟩:=PX.mp z;obtain⟨r,c,e⟩:=OC.mp z;have d:=(Sh.mp e).1;have f:=gj (Sh.mp e).2;exact h k (by have:=OV.mp b;omega) d.symm (f▸c)
def Zi(W:Wy)(cs:List Nat)(k:Nat)(r:List Nat):List (List Nat):=if k<cs.length then sT W cs k r else[]
theorem BB{k:Nat}{r:List Nat}(h:p_ K a rs cs W bd)(f:k<=cs.length)(d:r∈hL W rs k):(c5 K a).1 [k8 a W bd rs cs,.int (k:Int),tN r] β=on (.ok ((Zi W cs k r).map tN),β):=by
 obtain⟨e,i,j⟩:=h.at f d;unfold c5 Zi
 dsimp only
 refine GJ (c:=decide ((k:Int)=(cs.length:Int))) (β1:=β) (n6 (i_ (eg (ae rfl eC) (jD rfl rfl) (y6.trans (by rw[show B_ W rs cs k r=_ from ld f d];rfl)))) (i_ (eg rfl (ae (aa (jD rfl rfl) rfl) (qh cs)) eq_int))) ?_;by_cases q:k=cs.length
 .rw[OA (OL (by omega)),Ot (by omega)];rfl
 .have b:k<cs.length:=by omega
  rw[Ot (λz=>q (by have:=PR z;omega)),OA b];refine DS (ix (W k r) tN tN (λv=>decide ((0:Int)<((tB W cs k r v:Nat):Int))) (cB (ak (aa rfl (aa (jD rfl rfl) (aa (jD rfl rfl) (aa rfl rfl)))) (h.fl b e i)) rfl) (λv g=>⟨[on (tN v),on (k8 a W bd rs cs),on (.int (k:Int)),on (tN r)],rfl,?_,λ_=>rfl⟩) (bo ?_))
  .exact i_ (eg (eg (hG rfl (aa (x:= .int ((k+1:Nat):Int)) (eg rfl rfl rfl) (aa (ak rfl (wG (cP ((h.ok k r).subset g)) e.2.1)) rfl)) (pO.trans (by rw[show B_ W rs cs ((k+1:Nat):Int) (less r v)=_ from ld b (h.nx d g)];rfl))) rfl ug) rfl gt_int)
  .have:=wg (k:=k) h e
   omega
theorem BC{s:Int}{u:List Nat}(h:B_ W rs cs s u=Oi):(c5 K a).1 [k8 a W bd rs cs,.int s,tN u] β=on (.ok [],β):=by
 unfold c5
 dsimp only
 exact GJ (c:=On) (β1:=β) (M1 (i_ (eg (ae rfl eC) (jD rfl rfl) (y6.trans (by rw[h];rfl))))) rfl
theorem IR:(kW K a).1 [k8 a W bd rs cs] β=on (.ok (.int ((o_ W cs.length 0 rs:Nat):Int)),β):=
 aO (aq (aT (eg (hG rfl (aa rfl (aa (ae (aa (jD rfl rfl) rfl) rfl) rfl)) (pO.trans (by rw[show B_ W rs cs 0 rs=_ from ld (k:=0) (PV _) (O6.mpr rfl)];rfl))) rfl ug) ⟨rfl,rfl⟩))
theorem Of{l:List Nat}{c:Nat}(h:l.length<=100):jd (nL l) (.lst [.int (c:Int)])=on (nL (l++[c])):=by
 refine(mS (by rw[Oh,Oh,PH];omega)).trans ?_;show _=on (D.lst (PQ D.int (PQ _ (l++[c]))));rw[Pd,Pd];rfl
abbrev YU(ps:List (Nat×Nat))(x:D)(c:Nat)(f:D)(b d e g h:Option Sl):Ds:=[on (.sh x),on (.sh (.int (c:Int))),on (.sh (.lst (ps.map pN))),on (.sh f),b,d,e,g,h]
theorem Nv{lo:Nat}{n i:Nat}{d:D}(h:((Oz n).map λi=>D.int ((lo+i:Nat):Int))[i]?=on d):i<n/\d= .int ((lo+i:Nat):Int):=by
 obtain⟨x,b,rfl⟩:=bv h;have c:=(OF.mp b).1;rw[OW]at c;rw[Py c]at b;cases b;exact⟨c,rfl⟩
theorem d6{α:Type}{l:List α}{i:Nat}{x:α}(h:l[i]?=on x):l.take (i+1)=l.take i++[x]:=by rw[Ye,h];rfl
theorem qg{ps:List (Nat×Nat)}{x:D}{r:List Nat}{c:Nat}(J:cW x=on ((nI r).map D.int))(L:z_ r)(A:ps.length=r.length)(N:∀p∈ps,p.1<=40/\p.2<=40):(jq K a).1 [x,.int (c:Int),.lst (ps.map pN)] β=on (.ok (.lst ((vB ps r c).map nL)),β):=by
 obtain⟨_,U,hs,O⟩:=L;have n:∀k,k<=r.length->(ms ps r k).length<=500:=λk B=>OP (vQ k B) (OP (rJ r k) O);unfold jq
 dsimp only
 refine aO ?_;refine aB (d:= .lst ((ms ps r 0).map nL)) (β1:=β) (ae (aa (ae rfl CM) rfl) jY) ?_;refine br (ds:=(r.zip ps).map λq=> .tup [.int (q.1:Int),pN q.2]) (β1:=β) ?_ (λk δ g=>β=g/\∃C F o m b,δ=YU ps x c (.lst ((ms ps r k).map nL)) C F o m b) ⟨rfl,Oi,Oi,Oi,Oi,Oi,rfl⟩ ?_ ?_
 .rw[<-g9 (λx:Nat=>D.int (x:Int)) pN]
  exact kB (x:=x) (y:= .lst (ps.map pN)) rfl rfl (J.trans (by rw[Oy];rfl)) rfl
 .rintro k d δ _ hd ⟨rfl,C,F,o,m,b,rfl⟩
  obtain⟨q,I,rfl⟩:=bv hd;have B:k<r.length:=by
   have:=(OF.mp I).1;rw[SA]at this;omega
  have t:k<ps.length:=by omega
  obtain rfl:q=(r[k],ps[k]):=by
   have:=(OF.mp I).2;rw[List.getElem_zip]at this;exact this.symm
  have b40:=N _ (Pq t);have Q:=gX (Pq B);refine⟨YU ps x c (.lst ((ms ps r k).map nL)) (on (.sh (.int (r[k]:Int)))) (on (.sh (pN ps[k]))) o m b,rfl,?_⟩;refine lW (ds:=[]) (β1:=β) rfl (PV _) ?_;have step:∀u:List Nat,((Oz (RK ps[k].2 r[k]+1-ps[k].1)).map λi=>u++[ps[k].1+i]).length<=41:=λu=>by rw[Oh,OW];omega
  refine br (ds:=(ms ps r k).map nL) (β1:=β) rfl (λi δ g=>β=g/\∃m b,δ=YU ps x c (.lst ((ms ps r k).map nL)) (on (.sh (.int (r[k]:Int)))) (on (.sh (pN ps[k]))) (on (.own ((((ms ps r k).take i).flatMap λu=>(Oz (RK ps[k].2 r[k]+1-ps[k].1)).map λj=>u++[ps[k].1+j]).map nL))) m b) ⟨rfl,m,b,rfl⟩ ?_ ?_
  .rintro i d δ _ hd ⟨rfl,m,b,rfl⟩
   obtain⟨u,H,rfl⟩:=bv hd;have X:=zM k u (OQ H);have Y:=(OF.mp H).1;have Z:=n k (by omega);have hN:(((ms ps r k).take i).flatMap λu=>(Oz (RK ps[k].2 r[k]+1-ps[k].1)).map λj=>u++[ps[k].1+j]).length<=500*41:=OP (gY λu _=>step u) (Tg _ (by rw[Qg];omega));refine⟨_,rfl,aq (br (ds:=(Oz (RK ps[k].2 r[k]+1-ps[k].1)).map λj=>D.int ((ps[k].1+j:Nat):Int)) (β1:=β) (bw (as:=[.int (ps[k].1:Int),.int ((RK ps[k].2 r[k]:Nat)+1)]) (aa (eg rfl rfl ug) (aa (eg (x:= .int ((RK ps[k].2 r[k]:Nat):Int)) (ae (aa (eg rfl rfl Lx) (aa rfl rfl)) (tY.trans ?_)) rfl rfl) rfl)) ((KI (by omega) (by omega) (by omega)).trans ?_)) (λj δ g=>β=g/\∃b,δ=YU ps x c (.lst ((ms ps r k).map nL)) (on (.sh (.int (r[k]:Int)))) (on (.sh (pN ps[k]))) (on (.own ((((ms ps r k).take i).flatMap λu=>(Oz (RK ps[k].2 r[k]+1-ps[k].1)).map λj=>u++[ps[k].1+j]).map nL++((Oz (RK ps[k].2 r[k]+1-ps[k].1)).take j).map λj=>nL (u++[ps[k].1+j])))) (on (.sh (nL u))) b) ⟨rfl,b,by rw[V8,RE,Pf];rfl⟩ ?_ ?_)⟩
   .rw[show RK (ps[k].2:Int) (r[k]:Int)=((RK ps[k].2 r[k]:Nat):Int) by omega]
   .rw[show((RK ps[k].2 r[k]:Nat)+1-(ps[k].1:Int):Int).toNat=RK ps[k].2 r[k]+1-ps[k].1 by omega]
   .rintro j d δ _ hd ⟨rfl,b,rfl⟩
    obtain⟨R,rfl⟩:=Nv hd;have e:(Oz (RK ps[k].2 r[k]+1-ps[k].1))[j]?=on j:=Py R;refine⟨_,rfl,aq (jF (d:=nL (u++[ps[k].1+j])) rfl (aa (eg rfl (ae rfl jY) (Of (by omega))) rfl) (O0 (show _<50000 by rw[ON,Oh,Oh,Qg,OW];omega) (by decide)) (aY ⟨rfl,on (.sh (.int ((ps[k].1+j:Nat):Int))),?_⟩))⟩;rw[d6 e,Pd];show[_,_,_,_,_,_,on (Sl.own (_++_++[_])),_,_]=[_,_,_,_,_,_,on (Sl.own (_++(_++[_]))),_,_];rw[PY]
   .rintro δ _ ⟨rfl,b,rfl⟩
    rw[Oh,OW];refine aY ⟨rfl,on (.sh (nL u)),b,?_⟩;rw[d6 H,QI,Pd,PL,Us,Pf,Oy,Q8 (l:=Oz (RK ps[k].2 r[k]+1-ps[k].1)) (by rw[OW];exact OD _)];rfl
  .rintro δ _ ⟨rfl,m,b,rfl⟩
   rw[Oh,Qj];refine wj (aq (aB (d:= .lst ((ms ps r (k+1)).map nL)) (β1:=β) ?_ (aY ⟨rfl,_,_,_,_,_,rfl⟩)));have T:ms ps r (k+1)=(ms ps r k).flatMap λu=>(Oz (RK ps[k].2 r[k]+1-ps[k].1)).map λi=>u++[ps[k].1+i]:=by
    show WK _ _=_;rw[dL B,dL t]
   rw[T];rfl
 .rintro δ _ ⟨rfl,C,F,o,m,b,rfl⟩
  rw[Oh,SA,A,WT,vR A];have h:=ix (nv:=1) (dc:=[1]) (it:=dg (ah 3)) (tg:=jm 0) (tt:=fB (f2 (nS) (aP fi (ag (ah 0) (aF))) (ah 1))) (f:=ah 0) (δ:=j0 (YU ps x c (.lst ((Ic ps r).map nL)) C F o m b)) (β:=β) (Ic ps r) nL nL (λv=>decide (v.sum=c)) rfl (λv _=>⟨[on (nL v),on (.int (c:Int))],rfl,i_ (eg (ae rfl (jr v)) rfl (eq_int.trans (by rw[decide_eq_decide.mpr (show((v.sum:Nat):Int)=(c:Int)↔v.sum=c by omega)]))),λ_=>rfl⟩) (bo (by rw[<-vR A];have:=n r.length (OD _);omega));refine aq (aT h ⟨rfl,?_⟩);rw[z9 A]
theorem t8{x:D}{r v:List Nat}(b:cW x=on ((nI r).map D.int))(h:lg v r)(c:r.length<=4):(jL K a).1 [x,nL v] β=on (.ok (nL (less r v)),β):=by
 unfold jL
 dsimp only
 refine aO (aq (aT ?_ ⟨rfl,rfl⟩));unfold nL;rw[<-ub h];refine bh (r.zip v) (λp=>D.tup [.int (p.1:Int),.int (p.2:Int)]) _ ?_ (λp _=>⟨[on (.int (p.1:Int)),on (.int (p.2:Int))],rfl,rfl⟩) (bo (by rw[SA];omega));rw[<-g9 (λx:Nat=>D.int (x:Int)) (λx:Nat=>D.int (x:Int))];refine kB (x:=x) (y:=nL v) rfl rfl (b.trans (by rw[Oy];rfl)) ?_
 .show on _=on _
  rw[Oy];rfl
theorem qt{r c k n i:Nat}{B:List (List (Nat×Nat))}(hB:wh r c B)(g:r<=4)(j:k<c){δ:Dn}(d:δ.getD i Oi=on (lb B))(e:lm 1 [n] δ=[Oi,on (.int (k:Int))]):cf 1 [n] (dg (ah i)) (jm 0) (λ_=>M.ret On) (lq (f2 la (ah 0) (ah 1))) δ β=on (.ok (.lst ((kj B k).map pN)),β):=by
 have h:=bh (nv:=1) (dc:=[n]) (it:=dg (ah i)) (tg:=jm 0) (f:=f2 la (ah 0) (ah 1)) (δ:=δ) (β:=β) B (λrow=>D.lst (row.map pN)) (λrow=>pN (row.getD k (0,0))) (cB (n5 d) (by
  show on _=on _;rw[Oy,Oy];exact Px on (O1 λrow _=>Px D.lst (by show PQ pD (PQ _ row)=_;rw[Oy];rfl)))) (λrow b=>⟨[on (D.lst (row.map pN)),on (.int (k:Int))],by rw[e];rfl,eg rfl rfl (bR (by
   have l:=hB.1.2 row b;rw[Ou,dL (by omega),Oo (by omega)];rfl))⟩) (bo (by rw[hB.1.1];omega))
 refine h.trans ?_;unfold kj;rw[Oy];rfl
theorem Ll{rs:List Nat}(h:rs.sum<=8):mu rs<=40320:=by
 have b:mu rs<=d4 rs.sum:=by
  rw[<-ik];exact Uy _ (qc rs)
 exact OP b (OP (ux h) (by decide))
noncomputable abbrev eQ(q:List (List Nat)×List Nat):D:= .tup [.lst (q.1.map nL),nL q.2]
abbrev ZP(rs cs:List Nat)(B:List (List (Nat×Nat)))(f:D)(b c d e g h:Option Sl):Ds:=[on (.sh (tN rs)),on (.sh (nL cs)),on (.sh (lb B)),on (.sh f),b,c,d,e,g,h]
abbrev Zc(W:Wy)(k:Nat)(q:List (List Nat)×List Nat):List (List (List Nat)×List Nat):=(W k q.2).map λv=>(q.1++[v],less q.2 v)
theorem w4{rs cs:List Nat}{B:List (List (Nat×Nat))}(nr:z_ rs)(hs:rs.sum=cs.sum)(c6:cs.length<=6)(C:rs.sum<=8)(hB:wh rs.length cs.length B):(i6 K a).1 [tN rs,nL cs,lb B] β=on (.ok (.lst ((lst (wB B cs) rs cs.length).map λq=> .lst (q.1.map nL))),β):=by
 obtain⟨O,F,Q,R⟩:=nr;have m:=rB B cs;have h:∀k,k<=cs.length->(lst (wB B cs) rs k).length<=40320:=λk l=>OP (vF m hs l) (Ll C);unfold i6
 dsimp only
 refine aO ?_;refine aB (d:= .lst ((lst (wB B cs) rs 0).map eQ)) (β1:=β) (ae (aa (ae (aa (ae rfl CM) (aa (ae rfl rfl) rfl)) eC) rfl) jY) ?_;refine br (ds:=cg 0 ((nI cs).map D.int)) (β1:=β) (bw rfl rfl) (λk δ e=>β=e/\∃o p r f g b,δ=ZP rs cs B (.lst ((lst (wB B cs) rs k).map eQ)) o p r f g b) ⟨rfl,Oi,Oi,Oi,Oi,Oi,Oi,rfl⟩ ?_ ?_
 .rintro k d δ _ hd ⟨rfl,o,p,r,f,g,b,rfl⟩
  obtain⟨x,H,rfl⟩:=mM hd;obtain⟨n,hn,rfl⟩:=mw H;have l:=(OF.mp hn).1;have I:cs.getD k 0=n:=by rw[Om,hn];rfl
  obtain⟨cl,J⟩:=hB.col l;refine⟨_,rfl,lW (ds:=[]) (β1:=β) rfl (PV _) ?_⟩;have y:∀i,(((lst (wB B cs) rs k).take i).flatMap (Zc (wB B cs) k)).length<=40320:=λi=>by
   refine OP ?_ (h (k+1) l);show _<=((lst (wB B cs) rs k).flatMap (Zc (wB B cs) k)).length
   conv=>rhs;rw[<-Ri i (lst (wB B cs) rs k),QI,ON]
   exact Ry _ _
  refine br (ds:=(lst (wB B cs) rs k).map eQ) (β1:=β) rfl (λi δ e=>β=e/\∃f g b,δ=ZP rs cs B (.lst ((lst (wB B cs) rs k).map eQ)) (on (.sh (.int (k:Int)))) (on (.sh (.int (n:Int)))) (on (.own ((((lst (wB B cs) rs k).take i).flatMap (Zc (wB B cs) k)).map eQ))) f g b) ⟨rfl,f,g,b,rfl⟩ ?_ ?_
  .rintro i d δ _ hd ⟨rfl,f,g,b,rfl⟩
   obtain⟨q,t,rfl⟩:=bv hd;have hm:=OQ t;obtain⟨q1,q2,q3⟩:=t0 m hs k (by omega) q hm;have L:=q1.len;have sq:=q1.sum;have T:=q1.pr;have N:z_ q.2:=⟨by omega,by omega,by omega,by omega⟩;have U:(wB B cs k q.2).length<=40320:=by
    have:=y (i+1);rw[d6 t,QI,PL,Us,Pf,ON,Oh]at this;omega
   refine⟨_,rfl,aq (br (ds:=(wB B cs k q.2).map nL) (β1:=β) (cB (ak (aa rfl (aa rfl (aa (qt hB F l rfl rfl) rfl))) (qg (c:=n) rfl N (by rw[cl,L]) J)) (by unfold wB;rw[I];rfl)) (λj δ e=>β=e/\∃b,δ=ZP rs cs B (.lst ((lst (wB B cs) rs k).map eQ)) (on (.sh (.int (k:Int)))) (on (.sh (.int (n:Int)))) (on (.own ((((lst (wB B cs) rs k).take i).flatMap (Zc (wB B cs) k)).map eQ++((wB B cs k q.2).take j).map λv=>eQ (q.1++[v],less q.2 v)))) (on (.sh (.lst (q.1.map nL)))) (on (.sh (nL q.2))) b) ⟨rfl,b,by rw[V8,RE,Pf];rfl⟩ ?_ ?_)⟩
   .rintro j d δ _ hd ⟨rfl,b,rfl⟩
    obtain⟨v,A,rfl⟩:=bv hd;have u:=(m k q.2).subset (OQ A);have X:=y i;refine⟨_,rfl,aq (jF (d:=eQ (q.1++[v],less q.2 v)) rfl (aa (ae (aa (eg rfl (ae rfl jY) ((mS (by rw[Oh,PH];omega)).trans ?_)) (aa (ak rfl (t8 rfl (cP u) (by omega))) rfl)) eC) rfl) (O0 (show _<100000 by rw[ON,Oh,Oh,Qg];omega) (by decide)) (aY ⟨rfl,on (.sh (nL v)),?_⟩))⟩
    .rw[Pd];rfl
    .rw[d6 A,Pd]
     show[_,_,_,_,_,_,on (Sl.own (_++_++[_])),_,_,_]=[_,_,_,_,_,_,on (Sl.own (_++(_++[_]))),_,_,_];rw[PY]
   .rintro δ _ ⟨rfl,b,rfl⟩
    rw[Oh,Qj];refine aY ⟨rfl,on (.sh (.lst (q.1.map nL))),on (.sh (nL q.2)),b,?_⟩;rw[d6 t,QI,Pd,PL,Us,Pf,Oy];rfl
  .rintro δ _ ⟨rfl,f,g,b,rfl⟩
   rw[Oh,Qj];exact wj (aq (aB (d:= .lst ((lst (wB B cs) rs (k+1)).map eQ)) (β1:=β) rfl (aY ⟨rfl,_,_,_,_,_,_,rfl⟩)))
 .rintro δ _ ⟨rfl,o,p,r,f,g,b,rfl⟩
  rw[iT,Oh,Oh];exact aq (aT (bh (lst (wB B cs) rs cs.length) eQ (λq=> .lst (q.1.map nL)) rfl (λq _=>⟨[on (.lst (q.1.map nL)),on (nL q.2)],rfl,rfl⟩) (OP (h _ (OD _)) (by decide))) ⟨rfl,rfl⟩)
theorem zW{ba:List (List D)}(h:ba.length<=1000):(oS K a).1 [lG ba] β=on (.ok (lG ba),β):=
 aO (aq (aT (bh ba D.lst D.lst rfl (λx _=>⟨_,rfl,rfl⟩) (bo h)) ⟨rfl,rfl⟩))
theorem zo{r c:Nat}(d:r<=1000)(e:c<=1000):k9 K a [.int (r:Int),.int (c:Int)] β=on (.ok (gP (mH r c)),β):=by
 have b:∀x:Nat,eL 1 [] (cX fR (ag (ah 1) (aF))) (jm 0) (λ_=>M.ret On) (lq (aP fE (ag (fC (.int 0)) (ag (fC (.int 40)) (aF))))) [on (.int (0+(x:Int))),on (.int (c:Int))] β=on (.ok ((OY c ((0:Int),(40:Int))).map pD),β):=λx=>by
  have h:=zX (nv:=1) (dc:=[]) (it:=cX fR (ag (ah 1) (aF))) (tg:=jm 0) (f:=aP fE (ag (fC (.int 0)) (ag (fC (.int 40)) (aF)))) (δ:=[on (.int (0+(x:Int))),on (.int (c:Int))]) (β:=β) (Oz c) (λi=>D.int (0+(i:Int))) (λ_=>pD (0,40))
   (bw rfl (F_ (by omega) (by omega))) (λx _=>⟨_,rfl,ae rfl eC⟩) (bo (by rw[OW];omega))
  rw[iP]at h;rw[RF];exact h
 have h:=rb (nv:=1) (dc:=[1]) (it:=cX fR (ag (ah 0) (aF))) (tg:=jm 0) (f:=eL 1 [] (cX fR (ag (ah 1) (aF))) (jm 0) (λ_=>M.ret On) (lq (aP fE (ag (fC (.int 0)) (ag (fC (.int 40)) (aF)))))) (δ:=[on (.int (r:Int)),on (.int (c:Int))]) (β:=β) (Oz r) (λi=>D.int (0+(i:Int))) (λ_=>(OY c ((0:Int),(40:Int))).map pD)
  (bw rfl (F_ (by omega) (by omega))) (λx _=>⟨_,rfl,b x⟩) (bo (by rw[OW];omega))
 rw[iP]at h;refine JZ (aq (IF h ⟨rfl,?_⟩));show gP (mH r c)=_;show PQ _ _=_;rw[RF]
abbrev YI(ba:LI)(b:LP)(c d e f g:Option Sl):Ds:=[on (.sh .bag),on (.sh (f_ ba)),on (.grd (gP b)),c,d,e,f,g]
def BdI(r c:Nat)(ba:LI)(d e:Option Sl)(δ:Ds)(β:Bg):Prop:=β.ok/\∃(b:LP) (f g h:Option Sl),δ=YI ba b d e f g h/\u_ r c b/\Kp ba b
theorem w5{r c:Nat}{ba:LI}(t:YB r c ba)(ok:β.ok):∃(b:LP) (f:Bg),(gM K a).1 [.bag,f_ ba] β=on (.ok (c7 b),f)/\u_ r c b/\Kp ba b/\f.ok:=by
 suffices h:∃g f,(gM K a).1 [.bag,f_ ba] β=on (g,f)/\(∃(b:LP),g= .ok (c7 b)/\u_ r c b/\Kp ba b/\f.ok) by
  obtain⟨g,f,e,b,rfl,h1,h2⟩:=h;exact⟨b,f,e,h1,h2⟩
 have r1:=t.r1;have c1:=t.c1;have c0:=t.c0;have r0:=t.r0;obtain⟨F,H,I⟩:=t.shp.at (i:=0) (by omega);have hr0:(gI ba)[0]?=on (F.map D.int):=by rw[Ou,H];rfl
 unfold gM
 dsimp only
 refine pR ?_;refine GN (β1:=β) (IC (as:=[.int (r:Int),.int (c:Int)]) (β1:=β) (aa (ae rfl (zq (by rw[Oh,t.shp.1]))) (aa (ae (aa (x:= .lst (F.map D.int)) (eg rfl rfl (rP hr0)) rfl) (cA (by rw[Oh,I]))) rfl)) (zo (by omega) (by omega))) (Lg _) ?_;obtain⟨w0,β1,p1,a0,a1,R⟩:=bz ok (lot:=3) (by decide) (by decide);refine gx (c:=decide (w0=0)) (β1:=β1) (i_ (eg (ak rfl p1) rfl eq_int)) ?_;by_cases hw:w0=0
 .rw[OA (by simpa using hw)]
  exact aT rfl ⟨_,rfl,u_.free r c,Kp.free t,R⟩
 rw[Ot (by simpa using hw)];refine bn ?_;refine br (ds:=cg 0 ((gI ba).map D.lst)) (β1:=β1) rfl (λ_ δ β=>∃s3 s4,BdI r c ba s3 s4 δ β) ⟨Oi,Oi,R,mH r c,Oi,Oi,Oi,rfl,u_.free r c,Kp.free t⟩ ?_ ?_
 .rintro i d δ β2 hd ⟨s3,s4,J,b,Y,Z,T,rfl,o,B⟩
  obtain⟨x,hx,rfl⟩:=mM hd;obtain⟨y,hy,rfl⟩:=bv hx;obtain⟨row,m,rfl⟩:=bv hy;have hi:i<r:=by rw[<-t.shp.1];exact(OF.mp m).1
  have U:row.length=c:=t.shp.2 row (OQ m);refine⟨YI ba b (on (.sh (.int i))) (on (.sh (.lst (row.map D.int)))) Y Z T,rfl,aq ?_⟩;refine br (ds:=cg 0 (row.map D.int)) (β1:=β2) rfl (λ_=>BdI r c ba (on (.sh (.int i))) (on (.sh (.lst (row.map D.int))))) ⟨J,b,Y,Z,T,rfl,o,B⟩ ?_ (λδ β h=>aY ⟨_,_,h⟩);rintro j d δ β3 hd ⟨ok3,b,Y,Z,T,rfl,o,B⟩;obtain⟨x,hx,rfl⟩:=mM hd;obtain⟨n,hn,rfl⟩:=bv hx;have hj:j<c:=by rw[<-U];exact(OF.mp hn).1
  have hn40:=t.le40 row (OQ m) n (OQ hn);obtain⟨q,l,L⟩:=o.shp.at hi;refine⟨YI ba b (on (.sh (.int i))) (on (.sh (.lst (row.map D.int)))) (on (.sh (.int j))) (on (.sh (.int n))) T,rfl,?_⟩;obtain⟨w,A,p4,w0,w1,N⟩:=bz ok3 (lot:=4) (by decide) (by decide);refine aB (d:= .int w) (β1:=A) (ak rfl p4) ?_
  have put:∀(p:Int×Int) (δ:Ds),pj p->p.1<=n->n<=p.2->∀{β5:Bg} {fv:FD} {h:G} {Q:tx->Bg->Prop},fv (j0 (YI ba b (on (.sh (.int i))) (on (.sh (.lst (row.map D.int)))) (on (.sh (.int j))) (on (.sh (.int n))) (on (.sh (.int w))))) A=on (.ok (pD p),β5)->
    (∀b,u_ r c b->Kp ba b->Gw h (YI ba b (on (.sh (.int i))) (on (.sh (.lst (row.map D.int)))) (on (.sh (.int j))) (on (.sh (.int n))) (on (.sh (.int w)))) β5 Q)->
    Gw (aN (pC 2 (ah 3) (ah 5) fv) h) (YI ba b (on (.sh (.int i))) (on (.sh (.lst (row.map D.int)))) (on (.sh (.int j))) (on (.sh (.int n))) (on (.sh (.int w)))) A Q:=λp δ hp h1 h2 β5 fv h Q e k=>by
   refine GM (d:=pD p) (ba:=gP b) (ds:=q.map pD) (ka:=i) (kb:=j) (ja:=i) (jb:=j) e rfl rfl rfl ?_ ?_ ?_ rfl ?_
   .rw[Oh,o.shp.1];exact ly (by omega) (by omega)
   .rw[Ou,l];rfl
   .rw[Oh,L];exact ly (by omega) (by omega)
   .have X:(gP b).set i ((q.map pD).set j (pD p))=gP (b.set i (q.set j p)):=by
     show _=PQ _ _;rw[Tv,Tv]
    rw[X];exact k _ (o.set l hp) (B.set l (lP m hn) h1 h2)
  refine gx (c:=decide (w=0)) (β1:=A) (i_ (eg rfl rfl eq_int)) ?_;by_cases q0:w=0
  .rw[OA (by simpa using q0)]
   obtain⟨u,β5,p5,u0,u1,ok5⟩:=bz N (lot:=n+1) (by omega) (by omega);obtain⟨v,C,p6,v0,v1,O⟩:=bz ok5 (lot:=3) (by decide) (by decide);refine put (n-u,RK 40 (n+v)) [] ⟨by show 0<=n-u;omega,by show n-u<=RK 40 (n+v);omega,by show RK 40 (n+v)<=40;omega⟩ (by show n-u<=n;omega) (by show n<=RK 40 (n+v);omega) (β5:=C) ?_ λb o B=>?_
   .exact ae (aa (eg rfl (ak (aa rfl (aa (eg rfl rfl rfl) rfl)) p5) rfl) (aa (ae (aa rfl (aa (eg rfl (ak rfl p6) rfl) rfl)) tY) rfl)) eC
   .refine aq (dy (β1:=C) ?_ (bn (aY ⟨O,b,_,_,_,rfl,o,B⟩)))
    rw[show(Os:Bool)=decide (w=1) by rw[q0];rfl];exact i_ (eg rfl rfl eq_int)
  .rw[Ot (by simpa using q0)]
   refine bn (aq (gx (c:=decide (w=1)) (β1:=A) (i_ (eg rfl rfl eq_int)) ?_));by_cases q1:w=1
   .rw[OA (by simpa using q1)]
    obtain⟨v,C,p6,v0,v1,O⟩:=bz N (lot:=3) (by decide) (by decide);refine put (0,WN n v) [] ⟨by show(0:Int)<=0;omega,by show 0<=WN n v;omega,by show WN n v<=40;omega⟩ (by show 0<=n;omega) (by show n<=WN n v;omega) (β5:=C) ?_ λb o B=>aY ⟨O,b,_,_,_,rfl,o,B⟩;exact ae (aa rfl (aa (ae (aa rfl (aa (ak rfl p6) rfl)) CG) rfl)) eC
   .rw[Ot (by simpa using q1)]
    exact bn (aY ⟨N,b,_,_,_,rfl,o,B⟩)
 .rintro δ β2 ⟨s3,s4,J,b,Y,Z,T,rfl,o,B⟩
  exact aq (aT rfl ⟨b,rfl,o,B,J⟩)
theorem ou:∀{xs:List Int},(∀x∈xs,0<=x)->∃l:List Nat,xs=nI l
 |[],_=>⟨[],rfl⟩
 |x::xs,h=>by
  obtain⟨l,e⟩:=ou λy b=>h y (Op _ b);have:=h x Ox;exact⟨x.toNat::l,by rw[e];show _=((x.toNat:Nat):Int)::_;rw[Int.toNat_of_nonneg this]⟩
abbrev gdS(r c t:Nat)(ba:LI)(b d e:Option Sl):Ds:=[on (.sh .bag),on (.sh (.int (r:Int))),on (.sh (.int (c:Int))),on (.sh (.int (t:Int))),on (.grd (gI ba)),b,d,e]
theorem mF{r c t:Nat}(ok:β.ok)(r0:1<=r)(r1:r<=4)(c1:1<=c)(c6:c<=6)(F:t<=40):∃(ba:LI) (j:Bg),(jM K a).1 [.bag,.int (r:Int),.int (c:Int),.int (t:Int)] β=on (.ok (f_ ba),j)/\(YB r c ba/\tot ba=(t:Int))/\j.ok:=by
 suffices h:∃g j,(jM K a).1 [.bag,.int (r:Int),.int (c:Int),.int (t:Int)] β=on (g,j)/\(∃(ba:LI),g= .ok (f_ ba)/\(YB r c ba/\tot ba=(t:Int))/\j.ok) by
  obtain⟨g,j,e,ba,rfl,H,I⟩:=h;exact⟨ba,j,e,H,I⟩
 unfold jM
 dsimp only
 refine pR ?_;refine GN (ba:=(Oz r).map λ_=>OY c (D.int 0)) (β1:=β) (rb (Oz r) (λi=>D.int (0+(i:Int))) _ (bw (ds:=aZ 0 r) rfl (F_ (by omega) (by omega))) (λx _=>⟨_,rfl,NF (x:= .int 0) (c:=c) rfl rfl (by omega)⟩) (bo (by rw[OW];omega))) ?_ ?_
 .rw[Sc]
  intro x k;obtain⟨_,_,rfl⟩:=OC.mp k;rw[<-RF (f:=D.int)];exact iO _
 have J:(Oz r).map (λ_=>OY c (D.int 0))=gI (OY r (OY c 0)):=by
  show _=PQ _ _;rw[RF,List.map_const',RF,OW]
 rw[J];refine br (ds:=aZ 0 t) (β1:=β) (bw rfl (F_ (by omega) (by omega))) (λi δ β=>β.ok/\∃ba p q y,δ=gdS r c t ba p q y/\k_ r c ba/\(∀row∈ba,∀x∈row,0<=x)/\tot ba=(i:Int)) ⟨ok,OY r (OY c 0),Oi,Oi,Oi,rfl,⟨by simp,λrow h=>?_⟩,λrow h x k=>?_,?_⟩ ?_ ?_
 .rw[(QT.mp h).2];simp
 .rw[(QT.mp h).2]at k
  rw[(QT.mp k).2];exact Xr _
 .unfold tot
  rw[RF];have z:∀n:Nat,(OY n (0:Int)).sum=0:=λn=>by
   induction n with
   |zero=>rfl
   |succ n ih=>rw[Qs,O3,ih];rfl
  rw[z,z];rfl
 .rintro i d δ j hd ⟨m,ba,p,q,y,rfl,sh,nn,F⟩
  obtain⟨v,β1,L,O,Q,A⟩:=bz m (lot:=(r:Int)) (by omega) (by omega);obtain⟨u,β2,N,R,T,B⟩:=bz A (lot:=(c:Int)) (by omega) (by omega);obtain⟨v,rfl⟩:∃n:Nat,v=(n:Int):=⟨v.toNat,by omega⟩;obtain⟨u,rfl⟩:∃n:Nat,u=(n:Int):=⟨u.toNat,by omega⟩;obtain⟨row,b,o⟩:=sh.at (i:=v) (by omega);obtain⟨x,k⟩:=Iy (l:=row) (i:=u) (by omega);refine⟨_,rfl,aB (ak rfl L) (aB (ak rfl N) (aq (GM (d:= .int (x+1)) (β1:=β2) (β2:=β2) (β3:=β2) (ba:=gI ba) (ds:=row.map D.int) (ka:=v) (kb:=u) (ja:=v) (jb:=u) (eg (eg (eg rfl rfl (rP (row:=row.map D.int) ?_)) rfl (bR (d:= .int x) ?_)) rfl rfl) rfl rfl rfl ?_ ?_ ?_ rfl (aY ⟨B,ba.set v (row.set u (x+1)),on (.sh d),on (.sh (.int (v:Int))),on (.sh (.int (u:Int))),?_,sh.set b,Lh nn b ?_,?_⟩))))⟩
  .rw[Ou,b];rfl
  .rw[Ou,k];rfl
  .rw[Oh,sh.1];exact ly (by omega) (by omega)
  .rw[Ou,b];rfl
  .rw[Oh,o];exact ly (by omega) (by omega)
  .show[_,_,_,_,on (Sl.grd ((gI ba).set v ((row.map D.int).set u (.int (x+1))))),_,_,_]=_
   rw[show(gI ba).set v ((row.map D.int).set u (.int (x+1)))=gI (ba.set v (row.set u (x+1))) by show _=PQ _ _;rw[Tv,Tv]]
  .have:=nn row (OQ b) x (OQ k)
   omega
  .have:=IN (v:=x+1) b k
   omega
 .rintro δ j ⟨m,ba,p,q,y,rfl,sh,nn,C⟩
  rw[tq]at C;exact aq (aT rfl ⟨ba,rfl,⟨⟨sh,nn,by omega,r0,r1,c1,c6⟩,C⟩,m⟩)
def Sml(r c:Nat)(ba:LI):Prop:=YB r c ba/\tot ba<=7
theorem BE(ok:β.ok):∃(ba:LI) (r c:Nat) (b:Bg),(iM K a).1 [.bag] β=on (.ok (f_ ba),b)/\Sml r c ba/\b.ok:=by
 suffices h:∃g b,(iM K a).1 [.bag] β=on (g,b)/\(∃(ba:LI) (r c:Nat),g= .ok (f_ ba)/\Sml r c ba/\b.ok) by
  obtain⟨g,b,e,ba,r,c,rfl,u,v⟩:=h;exact⟨ba,r,c,b,e,u,v⟩
 unfold iM
 dsimp only
 refine pR ?_;have p:∀(k n:Nat),jd (.int (k:Int)) (.int (n:Int))=on (.int ((k+n:Nat):Int)):=λk n=>by show on (D.int _)=_;rw[UI]
 obtain⟨y,β1,A,C,a1,j⟩:=bz ok (lot:=8) (by decide) (by decide);refine aB (ak rfl A) ?_;refine gx (β1:=β1) (i_ (eg rfl rfl eq_int)) ?_;by_cases q1:y=0
 .rw[OA (OL q1)]
  obtain⟨t,β2,l,b0,b1,d⟩:=bz j (lot:=5) (by decide) (by decide);obtain⟨t,rfl⟩:∃n:Nat,t=(n:Int):=⟨t.toNat,by omega⟩;obtain⟨ba,β3,e,g,f⟩:=mF (K:=K) (a:=a) (r:=4) (c:=6) (t:=t) d (by decide) (by decide) (by decide) (by decide) (by omega);exact aT (ak (aa rfl (aa rfl (aa rfl (aa (ak rfl l) rfl)))) e) ⟨ba,4,6,rfl,⟨g.1,by omega⟩,f⟩
 rw[Ot (by simp[q1])];refine bn ?_;refine gx (β1:=β1) (i_ (eg rfl rfl eq_int)) ?_;by_cases q2:y=1
 .rw[OA (OL q2)]
  obtain⟨c,β2,l,b0,b1,d⟩:=bz j (lot:=6) (by decide) (by decide);obtain⟨t,β3,m,c0,c1,f⟩:=bz d (lot:=8) (by decide) (by decide);obtain⟨c,rfl⟩:∃n:Nat,c=(n:Int):=⟨c.toNat,by omega⟩;obtain⟨t,rfl⟩:∃n:Nat,t=(n:Int):=⟨t.toNat,by omega⟩;obtain⟨ba,o,e,g,i⟩:=mF (K:=K) (a:=a) (r:=1) (c:=1+c) (t:=t) f (by decide) (by decide) (by omega) (by omega) (by omega);exact aT (ak (aa rfl (aa rfl (aa (eg rfl (ak rfl l) (p 1 c)) (aa (ak rfl m) rfl)))) e) ⟨ba,1,1+c,rfl,⟨g.1,by omega⟩,i⟩
 rw[Ot (by simp[q2])];refine bn ?_;refine gx (β1:=β1) (i_ (eg rfl rfl eq_int)) ?_;by_cases q3:y=2
 .rw[OA (OL q3)]
  obtain⟨c,β2,l,b0,b1,d⟩:=bz j (lot:=4) (by decide) (by decide);obtain⟨t,β3,m,c0,c1,f⟩:=bz d (lot:=8) (by decide) (by decide);obtain⟨c,rfl⟩:∃n:Nat,c=(n:Int):=⟨c.toNat,by omega⟩;obtain⟨t,rfl⟩:∃n:Nat,t=(n:Int):=⟨t.toNat,by omega⟩;obtain⟨ba,o,e,g,i⟩:=mF (K:=K) (a:=a) (r:=1+c) (c:=1) (t:=t) f (by omega) (by omega) (by decide) (by decide) (by omega);exact aT (ak (aa rfl (aa (eg rfl (ak rfl l) (p 1 c)) (aa rfl (aa (ak rfl m) rfl)))) e) ⟨ba,1+c,1,rfl,⟨g.1,by omega⟩,i⟩
 rw[Ot (by simp[q3])];refine bn ?_;obtain⟨r,β2,l,b0,b1,d⟩:=bz j (lot:=2) (by decide) (by decide);obtain⟨c,β3,m,c0,c1,f⟩:=bz d (lot:=3) (by decide) (by decide);obtain⟨t,o,B,F,d1,i⟩:=bz f (lot:=8) (by decide) (by decide);obtain⟨r,rfl⟩:∃n:Nat,r=(n:Int):=⟨r.toNat,by omega⟩;obtain⟨c,rfl⟩:∃n:Nat,c=(n:Int):=⟨c.toNat,by omega⟩;obtain⟨t,rfl⟩:∃n:Nat,t=(n:Int):=⟨t.toNat,by omega⟩;obtain⟨ba,β5,e,g,q⟩:=mF (K:=K) (a:=a) (r:=2+r) (c:=2+c) (t:=t) i (by omega) (by omega) (by omega) (by omega) (by omega);refine aB (eg rfl (ak rfl l) (p 2 r)) (aB (eg rfl (ak rfl m) (p 2 c)) ?_);exact aq (aT (ak (aa rfl (aa rfl (aa rfl (aa (ak rfl B) rfl)))) e) ⟨ba,2+r,2+c,rfl,⟨g.1,by omega⟩,q⟩)
theorem Z8:∀x<9,(x+1)*1<=500/\1<63:=by decide
theorem Z7:∀x<9,∀y<9-x,(x+1)*((y+1)*1)<=500/\(x+1)*1<63:=by decide
theorem Z6:∀x<9,∀y<9-x,∀z<9-x-y,(x+1)*((y+1)*((z+1)*1))<=500/\(x+1)*((y+1)*1)<63:=by decide
theorem Z5:∀x<9,∀y<9-x,∀z<9-x-y,∀w<9-x-y-z,(x+1)*((y+1)*((z+1)*((w+1)*1)))<=500/\(x+1)*((y+1)*((z+1)*1))<63:=by decide
theorem few:∀{rs:List Nat},1<=rs.length->rs.length<=4->rs.sum<=8->z_ rs/\pr (rs.dropLast.map (·+1))<63
 |[x],_,l,h=>by
  have q:=Z8 x (by simp at h;omega);exact⟨⟨by show 1<=1;decide,l,by omega,q.1⟩,q.2⟩
 |[x,y],_,l,h=>by
  have q:=Z7 x (by simp at h;omega) y (by simp at h;omega);exact⟨⟨by show 1<=2;decide,l,by omega,q.1⟩,q.2⟩
 |[x,y,z],_,l,h=>by
  have q:=Z6 x (by simp at h;omega) y (by simp at h;omega) z (by simp at h;omega);exact⟨⟨by show 1<=3;decide,l,by omega,q.1⟩,q.2⟩
 |[x,y,z,w],_,l,h=>by
  have q:=Z5 x (by simp at h;omega) y (by simp at h;omega) z (by simp at h;omega) w (by simp at h;omega);exact⟨⟨by show 1<=4;decide,l,by omega,q.1⟩,q.2⟩
 |[],h,_,_=>by simp at h
 |_::_::_::_::_::_,_,h,_=>by simp at h
theorem toB{r c:Nat}{b:LP}(h:u_ r c b):∃B,b=f9 B/\wh r c B:=by
 have e:b=f9 (b.map λrow=>row.map λp=>(p.1.toNat,p.2.toNat)):=by
  unfold f9;rw[Oy];refine(UR b).symm.trans (O1 λrow g=>?_);show row=PQ _ (PQ _ row);rw[Oy];refine(UR row).symm.trans (O1 λp i=>?_);obtain⟨a1,a2,a3⟩:=h.ok row g p i;exact RQ (show p.1=((p.1.toNat:Nat):Int) by omega) (show p.2=((p.2.toNat:Nat):Int) by omega)
 refine⟨_,e,h.shp.map,λrow g p i=>?_⟩;obtain⟨d,j,rfl⟩:=OC.mp g;obtain⟨f,k,rfl⟩:=OC.mp i;obtain⟨a1,a2,a3⟩:=h.ok d j f k;show f.1.toNat<=f.2.toNat/\f.2.toNat<=40;omega
theorem Kr{r c:Nat}{ba:LI}{b:LP}(s:Sml r c ba)(k:u_ r c b)(kp:Kp ba b):∃B rs cs,b=f9 B/\D2 ba B rs cs/\rs.length=r/\cs.length=c/\rs.sum<=8:=by
 obtain⟨t,l⟩:=s;obtain⟨B,rfl,ok⟩:=toB k;obtain⟨rs,e⟩:=ou (xs:=ba.map Qq) λx f=>by
  obtain⟨row,g,rfl⟩:=OC.mp f;exact kG (t.nn row g)
 obtain⟨cs,i⟩:=ou (xs:=(tp c ba).map Qq) λx f=>by
  obtain⟨row,g,rfl⟩:=OC.mp f;exact kG (GU t.nn row g)
 have m:rs.length=r:=by rw[<-t.shp.1,<-Oh (as:=ba) Qq,e,Oh]
 have n:cs.length=c:=by rw[<-(pZ (d:=(0:Int)) (c:=c) t.shp.1).1,<-Oh (as:=vr 0 c ba) Qq];exact(Px T7 i).symm▸(Oh _).symm
 have j:rs.sum<=8:=by
  have h:(ba.map Qq).sum<=7:=l;rw[e,gi]at h;omega
 have o:rs.sum=cs.sum:=by
  have h:tot (tp c ba)=tot ba:=x4 t.shp.2;unfold tot at h;rw[i,e,gi,gi]at h;omega
 have r0:=t.r0;have r1:=t.r1;have c0:=t.c0;have c1:=t.c1;obtain⟨q1,q2⟩:=few (rs:=rs) (by omega) (by omega) j;subst m n;exact⟨B,rs,cs,rfl,⟨⟨q1,q2,o,c0,c1⟩,t.shp,e,i,ok,kp⟩,rfl,rfl,j⟩
theorem JC{ba:LI}{B:List (List (Nat×Nat))}{rs cs:List Nat}(h:D2 ba B rs cs):(qa K a).1 [f_ ba,lb B] β=on (.ok (Lj a B rs cs),β):=by
 obtain⟨e,g,_,_⟩:=h.nr;have c6:=h.c6;have b:=oP (K:=K) (a:=a) (β:=β) (ba:=ba) (by rw[h.shp.1];omega);have c:=kz (K:=K) (a:=a) (β:=β) h.shp e (by omega) (by omega);rw[h.rw1]at b;rw[h.cl1]at c;have f:=zW (K:=K) (a:=a) (β:=β) (ba:=gP (f9 B)) (by rw[Oh,(iX h.bok.1).1];omega);unfold qa
 dsimp only
 refine aO (aq (aT (d:=Lj a B rs cs) (β1:=β) ?_ ⟨rfl,rfl⟩));unfold zQ;rw[M.bind_ok (aa (ak rfl b) (aa (ak rfl c) rfl)),M.bind_ok (aa (ak rfl f) rfl)];exact(M.bind_ok (Li h)).trans rfl
theorem eqI(i j:Int):RA (.int i) (.int j)=decide (i=j):=by unfold RA;exact Bool.beq_eq_decide_eq i j
theorem qZ{α:Type} [DecidableEq α]{f:α->WW}(b:∀x y,RA (f x) (f y)=decide (x=y)):∀xs ys:List α,SW (xs.map f) (ys.map f)=decide (xs=ys)
 |[],[]=>by simp[SW]
 |[],y::ys=>by simp[SW]
 |x::xs,[]=>by simp[SW]
 |x::xs,y::ys=>by
  rw[OG,OG,SW,b,qZ b xs ys];by_cases h:x=y<;>by_cases q:xs=ys<;>simp[h,q]
theorem m9{α:Type}{f:α->D}{g:α->WW}(h:∀x,w_ (f x)=on (g x)):∀l:List α,toPs (l.map f)=on (l.map g)
 |[]=>by simp[toPs]
 |x::l=>by
  rw[OG,toPs,h x,m9 h l];rfl
theorem M6{i:Nat}{b:Bool}{h:G}{δ:Ds}{Q:tx->Bg->Prop}(k:Gw h (δ.set i (on (.odc b [] []))) β Q):Gw (aN (LK i b) h) δ β Q:=dn rfl k
theorem J7{i:Nat}{c e:FD}{h:G}{δ:Ds}{Q:tx->Bg->Prop}{d kd:D}{b:Bool}{ks:List fh}{vs:List D}{k:fh}{β1 β2:Bg}(f:e (j0 δ) β=on (.ok d,β1))(g:c (j0 δ) β1=on (.ok kd,β2))(j:δ.getD i Oi=on (.odc b ks vs))(l:fI b kd=on k)(hn:noL d=On)(m:ks.length<OS)(n:Gw h (δ.set i (on (.odc b (L_ ks k) (YO ks vs k d)))) β2 Q):Gw (aN (rX i c e) h) δ β Q:=
 dn (by unfold rX;simp only[f,g,j,l,hn,OL m,Ue,PM]) n
def Sn(W:Wy)(rs:List Nat)(k:Nat)(P:List Nat->List Nat->Prop)(ks:List fh):Prop:=ks.Nodup/\(∀y∈ks,∃u∈hL W rs (k+1),y=(0,nI u))/\∀r v,P r v->(0,nI (less r v))∈ks
theorem Sn.mono{k:Nat}{P b:List Nat->List Nat->Prop}{ks:List fh}(h:Sn W rs k P ks)(q:∀r v,b r v->P r v):Sn W rs k b ks:=⟨h.1,h.2.1,λr v z=>h.2.2 r v (q r v z)⟩
theorem Sn.add{k:Nat}{P f:List Nat->List Nat->Prop}{ks:List fh}{r v:List Nat}(h:Sn W rs k P ks)(i:r∈hL W rs k)(j:v∈W k r)(q:∀b c,f b c->P b c\/(b=r/\c=v)):Sn W rs k f (L_ ks (0,nI (less r v))):=by
 obtain⟨g,l,m⟩:=h;have hm:∀y,y∈L_ ks (0,nI (less r v))↔y∈ks\/y=(0,nI (less r v)):=λy=>by
  unfold L_;split
  .rename_i z
   exact⟨.inl,λw=>w.elim id λe=>e▸z⟩
  .simp
 refine⟨?_,λy d=>?_,λb c z=>(hm _).mpr ?_⟩
 .unfold L_
  split
  .exact g
  .rename_i z
   exact T8.mpr ⟨g,SH _ _,λx n y d e=>z (by rw[<-O6.mp d,<-e];exact n)⟩
 .rcases(hm y).mp d with z|z
  .exact l y z
  .exact⟨less r v,fV.mpr ⟨r,i,v,j,rfl⟩,z⟩
 .rcases q b c z with z|⟨rfl,rfl⟩
  .exact .inl (m _ _ z)
  .exact .inr rfl
theorem Sn.len{k:Nat}{P:List Nat->List Nat->Prop}{ks:List fh}(h:Sn W rs k P ks)(b:p_ K a rs cs W bd)(e:k<cs.length):ks.length<=62:=by
 have:=L2.Pu.nd_len h.1 (m:=(hL W rs (k+1)).map λu=>((0:Int),nI u)) λy c=>by
  obtain⟨u,d,rfl⟩:=h.2.1 y c;exact OC.mpr ⟨u,d,rfl⟩
 rw[Oh]at this;exact OP this (o5 b (by omega))
theorem Sn.srt{k:Nat}{P:List Nat->List Nat->Prop}{ks:List fh}{vs:List D}(h:Sn W rs k P ks)(b:p_ K a rs cs W bd)(g:k<cs.length)(q:∀r∈hL W rs k,∀v∈W k r,P r v):sK [.dct Os ks vs]=on (lj W rs (k+1)):=by
 have:=h.len b g;show(if ks.length<64 then fj (ks.map λk=>ln k.2)else Oi)=_;rw[OA (by omega)];refine yf (vA b.ok b.sm b.nr.1 b.wd g) λd=>⟨λz=>?_,λz=>?_⟩
 .obtain⟨y,c,rfl⟩:=OC.mp z
  obtain⟨r,e,v,f,rfl⟩:=fW.mp c;exact OC.mpr ⟨_,h.2.2 r v (q r e v f),rfl⟩
 .obtain⟨y,c,rfl⟩:=OC.mp z
  obtain⟨u,i,rfl⟩:=h.2.1 y c;obtain⟨r,e,v,f,rfl⟩:=fV.mp i;exact OC.mpr ⟨_,fW.mpr ⟨r,e,v,f,rfl⟩,rfl⟩
abbrev ZM(rs cs:List Nat)(B:List (List (Nat×Nat)))(l:List D)(b c d e f:Option Sl):Ds:=[on (.sh (nL rs)),on (.sh (nL cs)),on (.sh (lb B)),on (.own l),b,c,d,e,f]
theorem zh{B:List (List (Nat×Nat))}(h:p_ K a rs cs (wB B cs) (lb B))(hB:wh rs.length cs.length B):(kT K a).1 [nL rs,nL cs,lb B] β=on (.ok (.lst ((Oz (cs.length+1)).map (lj (wB B cs) rs))),β):=by
 have c6:=h.c6;have H:=h.nr.2.1;unfold kT
 dsimp only
 refine aO ?_;refine lW (ds:=[lj (wB B cs) rs 0]) (β1:=β) (aa (ae (aa (ae rfl rfl) rfl) jY) rfl) (show 1<=OS by decide) ?_;refine br (ds:=cg 0 ((nI cs).map D.int)) (β1:=β) (bw rfl rfl) (λk δ e=>β=e/\∃q t u g b,δ=ZM rs cs B ((Oz (k+1)).map (lj (wB B cs) rs)) q t u g b) ⟨rfl,Oi,Oi,Oi,Oi,Oi,rfl⟩ ?_ ?_
 .rintro k d δ _ hd ⟨rfl,q,t,u,g,b,rfl⟩
  obtain⟨x,I,rfl⟩:=mM hd;obtain⟨n,hn,rfl⟩:=mw I;have m:=(OF.mp hn).1;have J:cs.getD k 0=n:=by rw[Om,hn];rfl
  obtain⟨cl,L⟩:=hB.col m;refine⟨_,rfl,M6 ?_⟩;refine br (ds:=(hL (wB B cs) rs k).map tN) (β1:=β) ?_ (λi δ e=>β=e/\∃ks vs g b,δ=ZM rs cs B ((Oz (k+1)).map (lj (wB B cs) rs)) (on (.sh (.int (k:Int)))) (on (.sh (.int (n:Int)))) (on (.odc Os ks vs)) g b/\Sn (wB B cs) rs k (λr v=>r∈(hL (wB B cs) rs k).take i/\v∈wB B cs k r) ks) ⟨rfl,[],[],g,b,rfl,V7,(λy N=>by cases N),λr v z=>by simp at z⟩ ?_ ?_
  .show M.ofO ((la (.lst ((Oz (k+1)).map (lj (wB B cs) rs))) (.int (k:Int))).bind cW) β=_
   rw[bR (d:=lj (wB B cs) rs k) (by rw[Ou,Py (by omega)];rfl)];rfl
  .rintro i d δ _ hd ⟨rfl,ks,vs,g,b,rfl,f⟩
   obtain⟨r,A,rfl⟩:=bv hd;have o:=OQ A;obtain⟨C,O,Q⟩:=h.at (by omega) o;refine⟨_,rfl,aq (br (ds:=(wB B cs k r).map nL) (β1:=β) (cB (ak (aa rfl (aa rfl (aa (qt hB H m rfl rfl) rfl))) (qg (c:=n) rfl C (by rw[cl,O]) L)) (by unfold wB;rw[J];rfl)) (λj δ e=>β=e/\∃ks vs b,δ=ZM rs cs B ((Oz (k+1)).map (lj (wB B cs) rs)) (on (.sh (.int (k:Int)))) (on (.sh (.int (n:Int)))) (on (.odc Os ks vs)) (on (.sh (tN r))) b/\Sn (wB B cs) rs k (λl v=>(l∈(hL (wB B cs) rs k).take i/\v∈wB B cs k l)\/(l=r/\v∈(wB B cs k r).take j)) ks) ⟨rfl,ks,vs,b,rfl,f.mono λr v z=>z.elim id λz=>by simp at z⟩ ?_ ?_)⟩
   .rintro j d δ _ hd ⟨rfl,ks,vs,b,rfl,f⟩
    obtain⟨v,F,rfl⟩:=bv hd;have p:=OQ F;have R:=f.len h m;refine⟨_,rfl,aq (J7 (d:= .bl On) (kd:=dK Os (0,nI (less r v))) (β1:=β) (β2:=β) rfl (ae (aa (ak rfl (t8 rfl (cP ((h.ok k r).subset p)) C.2.1)) rfl) (sF _)) rfl (mB λ_=>rfl) rfl (O0 (show _<100 by omega) (by decide)) (aY ⟨rfl,_,_,_,rfl,f.add o p λl T z=>?_⟩))⟩;rcases z with z|⟨z1,z2⟩
    .exact .inl (.inl z)
    .rw[d6 F]at z2
     rcases Qb.mp z2 with z2|z2
     .exact .inl (.inr ⟨z1,z2⟩)
     .exact .inr ⟨z1,O6.mp z2⟩
   .rintro δ _ ⟨rfl,ks,vs,b,rfl,f⟩
    rw[Oh,Qj]at f;refine aY ⟨rfl,ks,vs,_,_,rfl,f.mono λl v z=>?_⟩;obtain⟨z1,z2⟩:=z;rw[d6 A]at z1;rcases Qb.mp z1 with z1|z1
    .exact .inl ⟨z1,z2⟩
    .cases O6.mp z1
     exact .inr ⟨rfl,z2⟩
  .rintro δ _ ⟨rfl,ks,vs,g,b,rfl,f⟩
   rw[Oh,Qj]at f;refine wj (aq (jF (cs:=(Oz (k+1)).map (lj (wB B cs) rs)) (d:=lj (wB B cs) rs (k+1)) rfl (aa (ae rfl (f.srt h m λr o v p=>⟨o,p⟩)) rfl) (O0 (show _<1000 by rw[Oh,OW];omega) (by decide)) (aY ⟨rfl,on (.sh (.int (k:Int))),on (.sh (.int (n:Int))),on (.sh (.dct Os ks vs)),g,b,?_⟩)));rw[Ro (n:=k+1),Pd];rfl
 .rintro δ _ ⟨rfl,q,t,u,g,b,rfl⟩
  rw[iT,Oh,Oh];exact aq (aT rfl ⟨rfl,rfl⟩)
theorem jA:∀l:List Nat,RU (l.map λ(n:Nat)=> .int (n:Int))=On/\Tf (l.map λ(n:Nat)=> .int (n:Int))=0
 |[]=>⟨rfl,rfl⟩
 |n::l=>by
  obtain⟨b,c⟩:=jA l;exact⟨by rw[OG,RU,b];rfl,by rw[OG,Tf,c];rfl⟩
theorem LQ(u v:List Nat):SW (u.map λ(n:Nat)=> .int (n:Int)) (v.map λ(n:Nat)=> .int (n:Int))=decide (u=v):=qZ (λx y=>(eqI _ _).trans (decide_eq_decide.mpr (by omega))) u v
theorem GV(u:List Nat):toPs ((nI u).map D.int)=on (u.map λ(n:Nat)=> .int (n:Int)):=by
 rw[Oy];exact m9 (λn=>rfl) u
theorem vO{f:List Nat->D}{g:List Nat->WW}(h:∀x,w_ (f x)=on (g x))(b:∀x y,RA (g x) (g y)=decide (x=y))(c:∀x,(g x).canLay0=On)(hd:∀x,(g x).depth<=9)(x:List Nat)(l:List (List Nat)):lA (f x) (.lst (l.map f))=on (.bl (decide (x∈l))):=by
 have ha:RU (l.map g)=On:=by
  induction l with
  |nil=>rfl
  |cons y l ih=>rw[OG,RU,c,ih];rfl
 have hn:((l.map g).any λy=>RA y (g x))=decide (x∈l):=by
  rw[WI,Ti,Vx,decide_eq_true_iff];exact⟨λ⟨y,d,e⟩=>by rw[<-PR ((b y x).symm.trans e)];exact d,λi=>⟨x,i,(b x x).trans (OL rfl)⟩⟩
 unfold lA;simp only[h,m9 h,ha,c,OL (hd x),Ue,PM,hn]
theorem NZ(x:List Nat)(l:List (List Nat)):lA (tN x) (.lst (l.map tN))=on (.bl (decide (x∈l))):=vO (g:=λu=> .tuple (u.map λ(n:Nat)=> .int (n:Int))) (λu=>by show(toPs _).map _=_;rw[GV];rfl) (λu v=>by rw[RA,LQ]) (λu=>(jA u).1) (λu=>by show Tf _+1<=9;rw[(jA u).2];decide) x l
theorem N0(x:List Nat)(l:List (List Nat)):lA (nL x) (.lst (l.map nL))=on (.bl (decide (x∈l))):=vO (g:=λu=> .list (u.map λ(n:Nat)=> .int (n:Int))) (λu=>by show(toPs _).map _=_;rw[GV];rfl) (λu v=>by rw[RA,LQ]) (λu=>(jA u).1) (λu=>by show Tf _+1<=9;rw[(jA u).2];decide) x l
theorem rE(n:Nat){i:Int}:cq K a (n+1) [.int i,.int i] β=on (.ok (.bl On),β):=by
 show fK 2 (fZ K a (cq K a n)) _ _=_;refine aO ?_;unfold fZ;refine dy (β1:=β) (lV (x:= .bl Os) (ae rfl rfl) rfl) (bn ?_);refine dy (β1:=β) (i_ (eg rfl rfl rfl)) (bn ?_);refine dy (β1:=β) (n6 (i_ (eg (ae rfl rfl) (ae rfl rfl) rfl)) (i_ (eg (ae rfl rfl) (ae rfl rfl) rfl))) (bn ?_);exact aq (aT (uT (ae rfl rfl) (eg rfl rfl (by rw[eq_int,OL rfl]))) ⟨rfl,rfl⟩)
theorem NI(xs:List D):O2 On (.bl Os) (.lst (xs.map λ_=> .bl On))=on (.bl On):=by
 have h:(xs.map λ_=>D.bl On).all eA=On/\(xs.map λ_=>D.bl On).any (λy=>eqF y (.bl Os))=Os:=by
  induction xs with
  |nil=>exact⟨rfl,rfl⟩
  |cons x xs ih=>exact⟨by rw[OG,Uh,ih.1];rfl,by rw[OG,S8,ih.2];rfl⟩
 unfold O2 Yt;simp only[cW,Q9,eA,S5,h.1,h.2,PM,UN]
theorem wF(n:Nat){d:D}{xs:List D}(hd:d= .lst xs\/d= .tup xs)(b:xs.length<=1000)(h:∀x∈xs,cq K a (n+1) [x,x] β=on (.ok (.bl On),β)):cq K a (n+2) [d,d] β=on (.ok (.bl On),β):=by
 have z:c9 xs xs=xs.map λx=> .tup [x,x]:=by simpa using sk (f:=id) (g:=id) xs
 show fK 2 (fZ K a (cq K a (n+1))) _ _=_;refine aO ?_;unfold fZ;rcases hd with rfl|rfl
 all_goals
  refine M5 (β1:=β) (lV (x:= .bl On) (ae rfl rfl) rfl) (jg ?_);refine dy (β1:=β) (n6 (i_ (eg (ae rfl rfl) (ae rfl rfl) rfl)) (i_ (eg (ae rfl rfl) (ae rfl rfl) rfl))) (bn (jg ?_));refine dy (β1:=β) (i_ (eg (ae rfl rfl) (ae rfl rfl) (ne_int.trans (by simp)))) (bn ?_);exact aT (β1:=β) (eg (z:= .bl On) rfl (bh xs (λx=>D.tup [x,x]) (λ_=> .bl On) ((kB rfl rfl rfl rfl).trans (by rw[z])) (λx c=>⟨[on x,on x],rfl,ak rfl (h x c)⟩) (bo b)) (NI xs)) ⟨rfl,rfl⟩
theorem Np{x y:Int}:cq K a 5 [.tup [.int x,.int y],.tup [.int x,.int y]] β=on (.ok (.bl On),β):=wF 3 (.inr rfl) (by show 2<=1000;decide) λz hz=>by
 rcases OK.mp hz with rfl|hz
 .exact rE 3
 .cases O6.mp hz
  exact rE 3
theorem HB{l:List (List Nat)}(e:l.length<=500)(c:∀v∈l,v.length<=4):cq K a 5 [.lst (l.map tN),.lst (l.map tN)] β=on (.ok (.bl On),β):=wF 3 (.inl rfl) (by rw[Oh];omega) λz b=>by
 obtain⟨v,d,rfl⟩:=OC.mp b;have:=c v d;exact wF 2 (.inr rfl) (by rw[Oh,Oh];omega) λz b=>by
  obtain⟨i,_,rfl⟩:=OC.mp b;exact rE 2
variable{n:Nat}{vs:List (List Nat)}
abbrev csC(vs:List (List Nat)):List Nat:=vs.map Qq
abbrev Zb(n:Nat)(vs:List (List Nat)):LI:=tp n (vs.map nI)
theorem HN(v:List Nat)(j:Nat):(nI v).getD j 0=((v.getD j 0:Nat):Int):=by
 rw[Om,Om,Ou];cases v[j]?<;>rfl
theorem BK(c:∀v∈vs,v.length=n):(Zb n vs).map Qq=nI (y2 n vs):=by
 have e:y2 n vs=(Oz n).map λj=>(y2 n vs).getD j 0:=QC (by rw[mj c,Oh,OW]) λi d f=>by
  rw[Re,RC,dL d]
 rw[e];unfold Zb tp vr;show PQ _ (PQ _ _)=PQ _ (PQ _ _);rw[Oy,Oy];refine O1 λj b=>?_;have b:=OV.mp b;show((vs.map nI).map λrow=>row.getD j 0).sum=(((y2 n vs).getD j 0:Nat):Int);rw[yu c b,<-gi,Oy];show _=(PQ _ (PQ _ _)).sum;rw[Oy];exact Px Qq (O1 λv _=>HN v j)
theorem NK(vs:List (List Nat)):(vs.map nI).map Qq=nI (csC vs):=by
 show _=PQ _ (PQ _ _);rw[Oy,Oy];exact O1 λv _=>gi v
theorem KE{i:Nat}(b:i<n):(Zb n vs)[i]?=on (nI (vs.map λv=>v.getD i 0)):=by
 rw[Ke b];congr 1;show _=PQ _ (PQ _ _);rw[Oy,Oy];exact O1 λv _=>HN v i
abbrev cD(vs:List (List Nat)):D:= .lst (vs.map nL)
theorem J4{vs:List (List Nat)}(hs:∀v∈vs,v.sum<=40)(d:vs.length<=6)(i:Nat):pr ((vs.take i).map mu)<2^1000:=dU (m:=160*6) (OP (HJ (m:=160) λx b=>by
 obtain⟨v,c,rfl⟩:=OC.mp b;exact HQ (hs v (US c))) (Th (by decide) (by rw[Oh,Qg];omega))) (by decide)
theorem xR{vs:List (List Nat)}(hs:∀v∈vs,v.sum<=40)(hn:∀v∈vs,v.length<=4)(f:vs.length<=6):(jK K a).1 [cD vs] β=on (.ok (.int ((wt vs:Nat):Int)),β):=by
 unfold jK
 dsimp only
 refine aO ?_;refine aB (d:= .int 1) (β1:=β) rfl ?_;refine br (ds:=vs.map nL) (β1:=β) rfl (λi δ b=>β=b/\∃c,δ=[on (.sh (cD vs)),on (.sh (.int ((pr ((vs.take i).map mu):Nat):Int))),c]) ⟨rfl,Oi,rfl⟩ ?_ ?_
 .rintro i d δ _ hd ⟨rfl,c,rfl⟩
  obtain⟨v,e,rfl⟩:=bv hd;have hm:=OQ e;refine⟨_,rfl,aq (aB (eg rfl (ak rfl (CL (hs v hm) (hn v hm))) (qe (J4 hs f i) (dU (sB (hs v hm)) (by decide)))) (aY ⟨rfl,on (.sh (nL v)),?_⟩))⟩;rw[gU e,sy];rfl
 .rintro δ _ ⟨rfl,c,rfl⟩
  rw[Oh,Qj];exact aq (aT rfl ⟨rfl,rfl⟩)
theorem yV:∀{ps:List (Nat×Nat)} {v:List Nat},(∀(i:Nat) (p:Nat×Nat) (x:Nat),ps[i]?=on p->v[i]?=on x->p.1<=x/\x<=p.2)->G_ ps v=On
 |[],_,_=>by unfold G_;rfl
 |_::_,[],_=>by unfold G_;rfl
 |p::ps,x::v,h=>by
  have:=h 0 p x rfl rfl;show(decide (p.1<=x)&&decide (x<=p.2)&&G_ ps v)=On;rw[yV λi p x b c=>h (i+1) p x b c,OL this.1,OL this.2];rfl
theorem uW:∀{xs:LI},(∀row∈xs,∀x∈row,0<=x)->∃l:List (List Nat),xs=l.map nI
 |[],_=>⟨[],rfl⟩
 |x::xs,h=>by
  obtain⟨l,e⟩:=uW λy b=>h y (Op _ b);obtain⟨m,c⟩:=ou (h x Ox);exact⟨m::l,by rw[e,c];rfl⟩
theorem D2.pos{ba:LI}{B:List (List (Nat×Nat))}{rs cs:List Nat}(h:D2 ba B rs cs)(nn:∀row∈ba,∀x∈row,0<=x):0<o_ (wB B cs) cs.length 0 rs:=by
 obtain⟨vs,e⟩:=uW (GU (c:=cs.length) nn);have sh:=pZ (d:=(0:Int)) (c:=cs.length) h.shp.1;have t:vs.length=cs.length:=by rw[<-Oh (f:=nI),<-e];exact sh.1
 have k:∀v∈vs,v.length=rs.length:=λv g=>by
  rw[<-Oh (f:=λ(i:Nat)=>(i:Int))];refine sh.2 (nI v) ?_;show nI v∈tp cs.length ba;rw[e];exact OC.mpr ⟨v,g,rfl⟩
 have l:ba=Zb rs.length vs:=by rw[<-Nf h.shp,e]
 have es:rs=y2 rs.length vs:=gj (by rw[<-BK k,<-l,h.rw1]);have u:cs=csC vs:=gj (by rw[<-NK,<-e,h.cl1]);refine xQ (vs:=vs) ?_ t;rw[es];refine GK k λi r v g le=>?_;rw[QJ];have A:=(OF.mp g).1;refine SB.mpr ⟨?_,yV λj p x m o=>?_⟩
 .have q:cs.getD i 0=v.sum:=by rw[u,Om,Ou,g];rfl
  rw[q];exact jW le
 .unfold kj at m
  obtain⟨row,b,rfl⟩:=bv m;have C:=h.bok.1.2 row (OQ b);have y:j<rs.length:=by rw[<-k v (OQ g)];exact(OF.mp o).1
  have a1:y_ ba j i=on (x:Int):=lP (by rw[l];exact KE y) (by rw[Ou,Ou,g];show on ((v.getD j 0:Nat):Int)=_;rw[Om,o];rfl);have a2:y_ (f9 B) j i=on (((row.getD i (0,0)).1:Int),((row.getD i (0,0)).2:Int)):=lP (row:=row.map λp=>((p.1:Int),(p.2:Int))) (by rw[Ou,b];rfl) (by rw[Ou,dL (by omega),Oo (by omega)];rfl);have:=h.kp j i _ _ a1 a2;simp only at this;omega
theorem Ix(B:List (List (Nat×Nat))):lb B= .lst (B.map λrow=>D.lst (row.map pN)):=by
 show D.lst (PQ _ (PQ _ (PQ _ B)))=_;rw[Oy,Oy];exact Px D.lst (O1 λrow _=>Px D.lst (by show PQ pD (PQ _ row)=_;rw[Oy];rfl))
theorem M7(B:List (List (Nat×Nat)))(cs:List Nat)(k:Nat):∀i r,wB (B.map (·.drop k)) (cs.drop k) i r=wB B cs (k+i) r:=λi r=>by
 unfold wB kj;rw[Oy,Om,TL,<-Om];exact Px (λl=>vB l r _) (O1 λrow _=>by show(row.drop k).getD i _=_;rw[Om,TL,<-Om])
theorem wh.drop{r c:Nat}{B:List (List (Nat×Nat))}(h:wh r c B)(k:Nat):wh r (c-k) (B.map (·.drop k)):=⟨⟨by rw[Oh,h.1.1],λrow d=>by
 obtain⟨b,e,rfl⟩:=OC.mp d;rw[Sf,h.1.2 b e]⟩,λrow d p f=>by
 obtain⟨b,e,rfl⟩:=OC.mp d;exact h.2 b e p (List.mem_of_mem_drop f)⟩
theorem JX{r:List Nat}{δ:Dn}{n:Nat}(g:1<=r.length)(h:r.length<=4)(e:δ.getD n Oi=on (tN r)):∃u,f2 jd (DK (ah n) Oi (on (f1 wQ (fC (.int 1))))) (aP fE (ag (f2 jd (f2 la (ah n) (f1 wQ (fC (.int 1)))) (fC (.int 1))) aF)) δ β=on (.ok (tN u),β):=by
 have b:r[r.length-1]?=on (r.getD (r.length-1) 0):=by rw[Om,Oo (by omega)];rfl
 have c:((nI r).map D.int).length=r.length:=by rw[Oh,Oh]
 have d:la (tN r) (.int (-1))=on (.int ((r.getD (r.length-1) 0:Nat):Int)):=by
  show o1 _ _=_;unfold o1 ra;rw[c,Ot (by decide),OA (by omega),show((-1:Int)+(r.length:Int)).toNat=r.length-1 by omega,Q9,Ou,Ou,b];rfl
 have f:BF (tN r) Oi (on (-1))=on (tN r.dropLast):=by
  show(if _ then Oi else on (D.tup (iw _ Oi (on (-1)))))=_;rw[Ot (λz=>by have:=z.2;unfold HT.sIx at this;simp at this;omega),DQ (by omega),<-Yd,<-Yd]
 refine⟨r.dropLast++[r.getD (r.length-1) 0+1],eg (x:=tN r.dropLast) (β1:=β) ?_ (ae (aa (eg (eg (n5 e) rfl d) rfl rfl) rfl) rfl) (MV (by rw[List.length_dropLast];omega))⟩;unfold DK j9;simp only[M.bind,ah,e,M.ret,M.ofO,f1,fC,wQ,uM,f]
abbrev Yr(a:Ad)(g:D)(B:List (List (Nat×Nat)))(rs cs:List Nat)(s:Int)(k:Nat)(u:List Nat)(b c d e f:Option Sl):Ds:=[Oi,on (.sh .bag),on (.sh g),on (.sh (lb B)),on (.sh (nL rs)),on (.sh (nL cs)),on (.sh (k8 a (wB B cs) (lb B) rs cs)),on (.sh (.lst ((Oz (cs.length+1)).map (lj (wB B cs) rs)))),on (.sh (.int s)),on (.sh (lj (wB B cs) rs k)),on (.sh (tN u)),b,c,d,e,f]
theorem CT(β:Bg)(ok:β.ok):∃H,(oQ K a).1 [Oi,on (.sh .bag),Oi,Oi,Oi,Oi,Oi,Oi,Oi,Oi,Oi,Oi,Oi,Oi,Oi,Oi] β=on (.rt (.bl On),H):=by
 suffices h:Gw (oQ K a).1 [Oi,on (.sh .bag),Oi,Oi,Oi,Oi,Oi,Oi,Oi,Oi,Oi,Oi,Oi,Oi,Oi,Oi] β (λo _=>o= .rt (.bl On)) by
  obtain⟨o,H,e,rfl⟩:=h;exact⟨H,e⟩
 obtain⟨g,r,c,β1,e1,Z,ok1⟩:=BE (K:=K) (a:=a) ok;obtain⟨l,β2,e2,bl,kl,ok2⟩:=w5 (K:=K) (a:=a) Z.1 ok1;obtain⟨B,rs,cs,rfl,nt,lr,lc,s8⟩:=Kr Z bl kl;have tp0:=nt.pos Z.1.nn;have hW:=rB B cs;have I:p_ K a rs cs (wB B cs) (lb B):=nt.nt;have c6:=nt.c6;have r1:=nt.nr.1;have r4:=nt.nr.2.1;have x1:=oP (K:=K) (a:=a) (β:=β2) (ba:=g) (by rw[nt.shp.1];omega);have x2:=kz (K:=K) (a:=a) (β:=β2) nt.shp r1 (by omega) (by omega);rw[nt.rw1]at x1;rw[nt.cl1]at x2;unfold oQ
 dsimp only
 refine aB (ak rfl e1) (aB (ak rfl e2) (aB (ak rfl x1) (aB (ak rfl x2) (aB (ak rfl (JC nt)) (aB (ak rfl (zh I nt.bok)) ?_)))));generalize f_ g=gd;have U:eY [.lst ((Oz (cs.length+1)).map (lj (wB B cs) rs))]=on (.int ((cs.length+1:Nat):Int)):=cA (by rw[Oh,OW]);have O:∀k,k<=cs.length->la (.lst ((Oz (cs.length+1)).map (lj (wB B cs) rs))) (.int (k:Int))=on (lj (wB B cs) rs k):=λk t=>bR (by rw[Ou,Py (by omega)];rfl);obtain⟨p,β3,pp,p0,p1,ok3⟩:=bz ok2 (lot:=((cs.length+1:Nat):Int)+2) (by omega) (by omega);refine aB (d:= .int (p-1)) (eg (ak (aa rfl (aa (eg (ae rfl U) rfl rfl) rfl)) pp) rfl rfl) ?_;generalize p-1=s;obtain⟨b,ek,A⟩:∃b:Nat,WN 0 (RK s (((cs.length+1:Nat):Int)-1))=(b:Int)/\b<=cs.length:=⟨(WN 0 (RK s (((cs.length+1:Nat):Int)-1))).toNat,by omega,by omega⟩;refine aB (d:=lj (wB B cs) rs b) (β1:=β3) (eg rfl (ae (aa rfl (aa (ae (aa rfl (aa (eg (ae rfl U) rfl rfl) rfl)) tY) rfl)) (CG.trans (by rw[ek]))) (O b A)) ?_;obtain⟨r0,hr0,_⟩:=HR tp0 b A;have l0:=UA hr0;have l62:=o5 I A;obtain⟨i,β4,pi,i0,i1,ok4⟩:=bz ok3 (lot:=((hL (wB B cs) rs b).length:Int)) (by omega) (by omega);obtain⟨i,rfl⟩:∃n:Nat,i=(n:Int):=⟨i.toNat,by omega⟩;have hi:i<(hL (wB B cs) rs b).length:=by omega
 refine aB (d:=tN (hL (wB B cs) rs b)[i]) (β1:=β4) (eg rfl (ak (aa rfl (aa (ae rfl (cA (by rw[Oh]))) rfl)) pi) (bR (by rw[Ou,Oo hi];rfl))) ?_;obtain⟨q1,q4,_⟩:=(I.at A (Pq hi)).1;generalize (hL (wB B cs) rs b)[i]=r at q1 q4;obtain⟨w,β5,X,w0,w1,ok5⟩:=bz ok4 (lot:=5) (by decide) (by decide);refine GL (λδ β=>β5=β/\∃u,δ=Yr a gd B rs cs s b u Oi Oi Oi Oi Oi) (aq (gx (β1:=β5) (i_ (eg (ak rfl X) rfl eq_int)) ?_)) ?_
 .by_cases q:w=0
  .rw[OA (OL q)]
   obtain⟨u,eu⟩:=JX (β:=β5) (δ:=vw (Yr a gd B rs cs s b r Oi Oi Oi Oi Oi)) (n:=10) q1 q4 rfl;exact aB eu (hV ⟨rfl,u,rfl⟩)
  .rw[Ot (λz=>q (PR z))]
   exact bn (hV ⟨rfl,r,rfl⟩)
 rintro δ _ ⟨rfl,u,rfl⟩;refine lW (ds:=[]) (β1:=β5) rfl (PV _) (aB (d:= .tup [.int 0,.int 0]) (β1:=β5) (ae rfl eC) ?_);refine GL (λδ β=>β5=β/\∃(x y:Int) (l:List (List Nat)) (C F f:Option Sl),δ=Yr a gd B rs cs s b u (on (.own (l.map tN))) (on (.sh (.tup [.int x,.int y]))) C F f/\(B_ (wB B cs) rs cs s u).getD (.tup [.int 0,.int 0])= .tup [.int x,.int y]/\(∀{β:Bg},(c5 K a).1 [k8 a (wB B cs) (lb B) rs cs,.int s,tN u] β=on (.ok (l.map tN),β))/\l.length<=500/\∀v∈l,v.length<=4) (aq ?_) ?_
 .have J:(∀k,k<=cs.length->s=(k:Int)->u∉hL (wB B cs) rs k)->∃(x y:Int) (l:List (List Nat)) (C F f:Option Sl),Yr a gd B rs cs s b u (on (.own [])) (on (.sh (.tup [.int 0,.int 0]))) Oi Oi Oi=Yr a gd B rs cs s b u (on (.own (l.map tN))) (on (.sh (.tup [.int x,.int y]))) C F f/\(B_ (wB B cs) rs cs s u).getD (.tup [.int 0,.int 0])= .tup [.int x,.int y]/\(∀{β:Bg},(c5 K a).1 [k8 a (wB B cs) (lb B) rs cs,.int s,tN u] β=on (.ok (l.map tN),β))/\l.length<=500/\∀v∈l,v.length<=4:=λz=>by
   have z:=Lo z;exact⟨0,0,[],Oi,Oi,Oi,rfl,by rw[z];rfl,BC z,PV _,λv m=>by cases m⟩
  have ge:∀{δ:Dn},δ.getD 8 Oi=on (.int s)->fB (f2 Z3 (ah 8) (fC (.int 0))) δ β5=on (.ok (decide (0<=s)),β5):=λe=>i_ (eg (n5 e) rfl ge_int);by_cases Y:0<=s
  .obtain⟨k,rfl⟩:∃k:Nat,s=(k:Int):=⟨s.toNat,by omega⟩
   by_cases Q:k<=cs.length
   .refine gx (β1:=β5) (sw ((ge rfl).trans (by rw[OL Y])) (sw (i_ (eg rfl (ae rfl U) (lt_int.trans (by rw[OL (by omega)])))) (i_ (eg rfl (eg rfl rfl (O k Q)) (NZ u _))))) ?_
    by_cases L:u∈hL (wB B cs) rs k
    .rw[OA (OL L)]
     obtain⟨N,n2,n3⟩:=I.at Q L;obtain⟨le,us⟩:=im hW nt.sm k Q u L;have u8:u.sum<=8:=OP le.sum s8;have hB':wh u.length (cs.drop k).length (B.map (·.drop k)):=by
      rw[n2,Sf];exact nt.bok.drop k
     have dl:=Sf (l:=cs) (i:=k);have eP:(lst (wB (B.map (·.drop k)) (cs.drop k)) u (cs.drop k).length).map (·.1)=l9 (wB B cs) (cs.length-k) k u:=by rw[NM,yF (M7 B cs k),dl];rfl
     have R:(l9 (wB B cs) (cs.length-k) k u).length<=40320:=by
      rw[<-eP,Oh];exact OP (vF (rB _ _) us (OD _)) (Ll u8)
     have li:=w4 (K:=K) (a:=a) (β:=β5) N us (by omega) u8 hB';rw[show(lst (wB (B.map (·.drop k)) (cs.drop k)) u (cs.drop k).length).map (λq=>D.lst (q.1.map nL))=((lst (wB (B.map (·.drop k)) (cs.drop k)) u (cs.drop k).length).map (·.1)).map cD by rw[Oy];rfl,eP]at li;have X:=λvs (h:vs∈l9 (wB B cs) (cs.length-k) k u)=>yG hW h;have pl:∀vs∈l9 (wB B cs) (cs.length-k) k u,vs.length=cs.length-k:=λvs h=>(yE h).2;have eT:=qb (W:=wB B cs) (cs.length-k) k u;have eD:=vh (W:=wB B cs) (cs.length-k) k u;have eH:k<cs.length->(wB B cs k u).filter (λv=>decide (v∈(l9 (wB B cs) (cs.length-k) k u).map (·.getD 0 [])))=sT (wB B cs) cs k u:=λz=>by rw[show cs.length-k=cs.length-(k+1)+1 by omega];exact Nm
     have wl:=wg (k:=k) I N;have hl:=show B_ (wB B cs) rs cs k u=_ from ld Q L;have st:=λ{β:Bg}=>BB (β:=β) I Q L;generalize l9 (wB B cs) (cs.length-k) k u=P at*;refine jg (aB (d:=lb (B.map (·.drop k))) (β1:=β5) ?_ (jg (aB (d:= .lst (P.map cD)) (β1:=β5) (ak (aa rfl (aa (x:=nL (cs.drop k)) ((iC rfl rfl).trans ?_) (aa rfl rfl))) li) (jg (J5 (d:= .tup [.int ((o_ (wB B cs) (cs.length-k) k u:Nat):Int),.int ((H_ (wB B cs) (cs.length-k) k u:Nat):Int)]) (β1:=β5) (ae (aa (ae rfl (cA (by rw[Oh,eT]))) (aa (ae (aa (bh P cD (λvs=> .int ((wt vs:Nat):Int)) rfl (λvs m=>⟨[on (cD vs)],rfl,ak rfl (xR (λv h=>?_) (λv h=>?_) ?_)⟩) (OP R (by decide))) rfl) ?_) rfl)) eC) ?_)))))
     .rw[Ix,Oy]
      exact bh B (λrow=>D.lst (row.map pN)) (λrow=>D.lst ((row.drop k).map pN)) (cB (x:=lb B) rfl (by rw[Ix];rfl)) (λrow _=>⟨[on (.lst (row.map pN)),on (.int (k:Int))],rfl,(iC rfl rfl).trans (by rw[kh,Rv])⟩) (bo (by rw[nt.bok.1.1];omega))
     .rw[kh,<-Rv,<-Rv]
     .have:=(X vs m v h).sum
      omega
     .rw[(X vs m v h).len];exact N.2.1
     .rw[pl vs m];omega
     .have:fi [.lst (PQ D.int (PQ (λi:Nat=>(i:Int)) (PQ wt P)))]=_:=jr (P.map wt)
      rw[Oy,Oy]at this;rw[<-eD];exact this
     .refine gx (β1:=β5) (i_ (eg rfl (ae rfl (qh cs)) lt_int)) ?_
      have du:Zi (wB B cs) cs k u=if k<cs.length then sT (wB B cs) cs k u else[]:=rfl;by_cases t:k<cs.length
      .rw[OA (OL (by omega))]
       rw[OA t]at du;obtain⟨cl,cb⟩:=nt.bok.col t;refine br (ds:=(wB B cs k u).map nL) (β1:=β5) (cB (ak (aa rfl (aa (x:= .int ((cs.getD k 0:Nat):Int)) (eg rfl rfl (bR (by rw[Ou,Ou,dL t,Oo t];rfl))) (aa (qt nt.bok r4 t rfl rfl) rfl))) (qg rfl N (by rw[cl,n2]) cb)) rfl) (λi δ β=>β5=β/\∃f,δ=Yr a gd B rs cs (k:Int) b u (on (.own ((((wB B cs k u).take i).filter (λv=>decide (v∈P.map (·.getD 0 [])))).map tN))) (on (.sh (.tup [.int ((o_ (wB B cs) (cs.length-k) k u:Nat):Int),.int ((H_ (wB B cs) (cs.length-k) k u:Nat):Int)]))) (on (.sh (lb (B.map (·.drop k))))) (on (.sh (.lst (P.map cD)))) f) ⟨rfl,Oi,rfl⟩ ?_ ?_
       .rintro i d δ _ hd ⟨rfl,f,rfl⟩
        obtain⟨v,m,rfl⟩:=bv hd;have hh:cf 1 [] (dg (ah 14)) (jm 0) (λ_=>M.ret On) (lq (f2 la (ah 0) (fC (.int 0)))) (j0 (Yr a gd B rs cs (k:Int) b u (on (.own ((((wB B cs k u).take i).filter (λv=>decide (v∈P.map (·.getD 0 [])))).map tN))) (on (.sh (.tup [.int ((o_ (wB B cs) (cs.length-k) k u:Nat):Int),.int ((H_ (wB B cs) (cs.length-k) k u:Nat):Int)]))) (on (.sh (lb (B.map (·.drop k))))) (on (.sh (.lst (P.map cD)))) (on (.sh (nL v))))) β5=on (.ok (.lst ((P.map (·.getD 0 [])).map nL)),β5):=by
         rw[Oy];exact bh P cD (λvs=>nL (vs.getD 0 [])) rfl (λvs m=>⟨[on (cD vs)],rfl,eg rfl rfl (bR (k:=0) (by have:=pl vs m;rw[Ou,Om,Oo (by omega)];rfl))⟩) (OP R (by decide))
        refine⟨_,rfl,aq (gx (β1:=β5) (i_ (eg rfl hh (N0 v _))) ?_)⟩;by_cases z:v∈P.map (·.getD 0 [])
        .rw[OA (OL z)]
         refine jF (d:=tN v) rfl (aa (ae rfl (sF v)) rfl) (Ql (show _<=500 by rw[Oh];exact OP (WR _ _) (by rw[Qg];omega)) (by decide)) (aY ⟨rfl,on (.sh (nL v)),?_⟩);rw[d6 m,XQ,SZ,OA (OL z),List.filter_nil,Pd];rfl
        .rw[Ot (λy=>z (PR y))]
         refine bn (aY ⟨rfl,on (.sh (nL v)),?_⟩);rw[d6 m,XQ,SZ,Ot (λy=>z (PR y)),List.filter_nil,Pf];rfl
       .rintro δ _ ⟨rfl,f,rfl⟩
        rw[Oh,Qj,eH t,<-du];refine hV ⟨rfl,_,_,Zi (wB B cs) cs k u,_,_,_,rfl,by rw[hl];rfl,st,?_,λv m=>?_⟩
        .rw[du];exact Nl I N
        .rw[du]at m
         rw[(cP ((hW k u).subset (SB.mp m).1)).len];exact N.2.1
      .rw[Ot (λz=>t (by have:=PR z;omega))]
       rw[Ot t]at du;exact bn (hV ⟨rfl,_,_,[],_,_,_,rfl,by rw[hl];rfl,du▸st,PV _,λv m=>by cases m⟩)
    .rw[Ot (λz=>L (PR z))]
     exact bn (hV ⟨rfl,J λj _ e=>by cases(show k=j by omega);exact L⟩)
   .exact dy (β1:=β5) (sw ((ge rfl).trans (by rw[OL Y])) (xP (i_ (eg rfl (ae rfl U) (lt_int.trans (by rw[Pn (by omega)])))))) (bn (hV ⟨rfl,J λj hj e=>OX hj (by omega)⟩))
  .exact dy (β1:=β5) (xP ((ge rfl).trans (by rw[Pn Y]))) (bn (hV ⟨rfl,J λj hj e=>OX Y (by omega)⟩))
 rintro δ _ ⟨rfl,x,y,l,C,F,f,rfl,hc,T,ll,R⟩;refine dy (β1:=β5) (n9 (c:=On) (lV (ak (aa (hG rfl (aa rfl (aa rfl rfl)) (pO.trans (by rw[hc]))) (aa rfl rfl)) Np) rfl)) (bn ?_);refine J6 (hG rfl (aa rfl (aa rfl rfl)) T) (dy (β1:=β5) (n9 (c:=On) (lV (ak rfl (HB ll R)) rfl)) (bn (jF (d:=tN u) rfl rfl (Ql (show _<=500 by rw[Oh];exact ll) (by decide)) ?_)));exact aq (aT (uT (ak (aa (M2 (hG rfl (aa rfl (aa rfl rfl)) T)) (aa rfl rfl)) (HB ll R)) (ak (aa (eg (hG rfl (aa rfl (aa (ae rfl (sF rs)) rfl)) (pO.trans (by rw[show B_ (wB B cs) rs cs 0 rs=_ from ld (k:=0) (PV _) (O6.mpr rfl)];rfl))) rfl ug) (aa (hG rfl rfl IR) rfl)) (rE 4))) rfl)
noncomputable abbrev E(P:Wg)(n:String)(t:Nat)(v:Ov):QZ:=⟨PyData.keyHash P (Qn n),.str (Qn n) t,v⟩
noncomputable abbrev FN(x q:Pj)(s:Qe)(c d b e:Ov)(f:Option Oq)(cd ct:Ov):O5:=SI x q (gZ s) (bX s) (af s) c d b e f cd ct
noncomputable abbrev fO(f:O5):O7:=⟨.type "function",Oi,.func f,#[]⟩
noncomputable abbrev tO(l:List Ov):O7:=⟨.type "tuple",Oi,.seq l.toArray 0,#[]⟩
noncomputable abbrev cO(l:List Ov):O7:=⟨.type "code",Oi,.fields l.toArray,#[]⟩
noncomputable abbrev eB(P:Wg)(n:String)(t:Nat):QZ:=E P n t (.builtin n)
noncomputable abbrev eT(P:Wg)(n:String)(t:Nat):QZ:=E P n t (.type n)
noncomputable abbrev eR(P:Wg)(n:String)(t r:Nat):QZ:=E P n t (.ref r)
noncomputable abbrev nO(l:List Ov):O7:=⟨.none,Oi,.fields l.toArray,#[]⟩
noncomputable abbrev fB(x q:Pj)(s:Qe):O7:=⟨.none,Oi,.func ⟨x,q,gZ s,.stmts (bX s),af s,0,[],.none,.none,.none,.none,Oi,.none,.none,0⟩,#[]⟩
noncomputable abbrev cC(n q:Pj)(t l a po c fl r:Nat)(b:Bool)(d e:Nat)(x y z w:Ov)(u f v:Nat):O7:=cO [.str n t,.str q (t+1),.str "/claim/cut.py" (t+2),.int l 0,.int a 0,.int po 0,.int c 0,.int fl 0,.ref r,.bool b,.int d 0,.ref e,x,y,z,w,.int u 0,.int f 0,.str "/claim/cut.py" v]
noncomputable abbrev cF(n:Pj)(t l a b r c u:Nat):O7:=cC n n t l a 0 b 3 r On c (r+1) .none .none .none (.ref (r+2)) u l (u+1)
noncomputable abbrev cG(n:Pj)(t l a b r c u:Nat):O7:=cC n n t l a 0 b 3 r On c (r+1) .none (.ref (r+2)) (.ref (r+3)) (.ref (r+4)) u l (u+1)
noncomputable abbrev fM(m:Pj)(t:Nat)(x:Pj)(i c:Nat):O7:=fO (FN x x (dq i) .none .none .none (.str m t) Oi (.ref c) .none)
abbrev eTt:List Ov:=[(.ref 38),(.type "ValueError"),(.type "Exception"),(.type "BaseException"),(.type "object")]
noncomputable abbrev YK(x:Pj)(a d b t u:Nat):O7:=⟨(.type "type"),Oi,(.cls ⟨x,[(.ref 38)],(.ref a)::eTt,d,x,On,[],[],Os,Oi,Os⟩),#[(on (.ref b)),Oi,(on (.str x t)),(on (.str x u)),(on (.builtin "ValueError.__new__")),(on (.bool On))]⟩
noncomputable abbrev Yu(n:Nat):O7:=⟨(.type "builtin_function_or_method"),Oi,(.fields #[(.builtin "object.__init_subclass__"),(.ref n)]),#[]⟩
noncomputable abbrev lv:Ov:= .str "edgetally.errors" 194
noncomputable abbrev r_:Ov:= .str "edgetally.net" 464
noncomputable abbrev Y5:Ov:= .str "__main__" 164
noncomputable abbrev fL(x q:Pj)(i c:Nat):O7:=fO (FN x q (dq i) .none .none .none (.str "law_edgetally_k18_counts_and_steps" 633) Oi (.ref c) .none)
noncomputable def trL:List Nat->List Ov
 |a::b::c::l=> .int a 0:: .int b 0:: .ref c::trL l
 |_=>[]
noncomputable abbrev nT(l:List Nat):O7:=nO (trL l)
noncomputable def stL:Nat->List Pj->List Ov
 |_,[]=>[]
 |t,x::l=> .str x t::stL (t+1) l
noncomputable abbrev tS(t:Nat)(l:List Pj):O7:=tO (stL t l)
noncomputable def fD(o:O7):O5:=match o.data with
 | .func f=>f
 |_=>FN "" "" (dq 0) .none .none .none .none Oi .none .none
end
section
variable(P:Wg)
def b0:O7:=⟨(.type "dict"),Oi,(.dict #[(E P "__name__" 1 (.str "builtins" 160)),(E P "__doc__" 2 (.builtin "builtins.__doc__:str#opaque")),(E P "__package__" 3 (.builtin "builtins.__package__:str#opaque")),(E P "__loader__" 4 (.builtin "builtins.__loader__:shared#opaque")),(E P "__spec__" 5 (.builtin "builtins.__spec__#opaque")),(eB P "__build_class__" 6),(eB P "__import__" 7),(eB P "abs" 8),(eB P "all" 9),(eB P "any" 10),(eB P "ascii" 11),(eB P "bin" 12),(eB P "breakpoint" 13),(eB P "callable" 14),(eB P "chr" 15),(eB P "compile" 16),(eB P "delattr" 17),(eB P "dir" 18),(eB P "divmod" 19),(eB P "eval" 20),(eB P "exec" 21),(eB P "format" 22),(eB P "getattr" 23),(eB P "globals" 24),(eB P "hasattr" 25),(eB P "hash" 26),(eB P "hex" 27),(eB P "id" 28),(eB P "input" 29),(eB P "isinstance" 30),(eB P "issubclass" 31),(eB P "iter" 32),(eB P "aiter" 33),(eB P "len" 34),(eB P "locals" 35),(eB P "max" 36),(eB P "min" 37),(eB P "next" 38),(eB P "anext" 39),(eB P "oct" 40),(eB P "ord" 41),(eB P "pow" 42),(eB P "print" 43),(eB P "repr" 44),(eB P "round" 45),(eB P "setattr" 46),(eB P "sorted" 47),(eB P "sum" 48),(eB P "vars" 49),(E P "None" 50 .none),(E P "Ellipsis" 51 .ellipsis),(E P "NotImplemented" 52 .notImplemented),(E P "False" 53 (.bool Os)),(E P "True" 54 (.bool On)),(eT P "bool" 55),(eT P "memoryview" 56),(eT P "bytearray" 57),(eT P "bytes" 58),(eT P "classmethod" 59),(eT P "complex" 60),(eT P "dict" 61),(eT P "enumerate" 62),(eT P "filter" 63),(eT P "float" 64),(eT P "frozenset" 65),(eT P "property" 66),(eT P "int" 67),(eT P "list" 68),(eT P "map" 69),(eT P "object" 70),(eT P "range" 71),(eT P "reversed" 72),(eT P "set" 73),(eT P "slice" 74),(eT P "staticmethod" 75),(eT P "str" 76),(eT P "super" 77),(eT P "tuple" 78),(eT P "type" 79),(eT P "zip" 80),(E P "__debug__" 81 (.bool On)),(eT P "BaseException" 82),(eT P "BaseExceptionGroup" 83),(eT P "Exception" 84),(eT P "GeneratorExit" 85),(eT P "KeyboardInterrupt" 86),(eT P "SystemExit" 87),(eT P "ArithmeticError" 88),(eT P "AssertionError" 89),(eT P "AttributeError" 90),(eT P "BufferError" 91),(eT P "EOFError" 92),(eT P "ImportError" 93),(eT P "LookupError" 94),(eT P "MemoryError" 95),(eT P "NameError" 96),(eT P "OSError" 97),(eT P "ReferenceError" 98),(eT P "RuntimeError" 99),(eT P "StopAsyncIteration" 100),(eT P "StopIteration" 101),(eT P "SyntaxError" 102),(eT P "SystemError" 103),(eT P "TypeError" 104),(eT P "ValueError" 105),(eT P "Warning" 106),(eT P "FloatingPointError" 107),(eT P "OverflowError" 108),(eT P "ZeroDivisionError" 109),(eT P "BytesWarning" 110),(eT P "DeprecationWarning" 111),(eT P "EncodingWarning" 112),(eT P "FutureWarning" 113),(eT P "ImportWarning" 114),(eT P "PendingDeprecationWarning" 115),(eT P "ResourceWarning" 116),(eT P "RuntimeWarning" 117),(eT P "SyntaxWarning" 118),(eT P "UnicodeWarning" 119),(eT P "UserWarning" 120),(eT P "BlockingIOError" 121),(eT P "ChildProcessError" 122),(eT P "ConnectionError" 123),(eT P "FileExistsError" 124),(eT P "FileNotFoundError" 125),(eT P "InterruptedError" 126),(eT P "IsADirectoryError" 127),(eT P "NotADirectoryError" 128),(eT P "PermissionError" 129),(eT P "ProcessLookupError" 130),(eT P "TimeoutError" 131),(eT P "IndentationError" 132),(eT P "_IncompleteInputError" 133),(eT P "IndexError" 134),(eT P "KeyError" 135),(eT P "ModuleNotFoundError" 136),(eT P "NotImplementedError" 137),(eT P "PythonFinalizationError" 138),(eT P "RecursionError" 139),(eT P "UnboundLocalError" 140),(eT P "UnicodeError" 141),(eT P "BrokenPipeError" 142),(eT P "ConnectionAbortedError" 143),(eT P "ConnectionRefusedError" 144),(eT P "ConnectionResetError" 145),(eT P "TabError" 146),(eT P "UnicodeDecodeError" 147),(eT P "UnicodeEncodeError" 148),(eT P "UnicodeTranslateError" 149),(eT P "ExceptionGroup" 150),(E P "EnvironmentError" 151 (.type "OSError")),(E P "IOError" 152 (.type "OSError")),(eB P "open" 153),(E P "quit" 154 (.builtin "builtins.quit#opaque")),(E P "exit" 155 (.builtin "builtins.exit#opaque")),(E P "copyright" 156 (.builtin "builtins.copyright#opaque")),(E P "credits" 157 (.builtin "builtins.credits#opaque")),(E P "license" 158 (.builtin "builtins.license#opaque")),(E P "help" 159 (.builtin "builtins.help#opaque"))] 159),#[]⟩
def b1:O7:=⟨(.type "dict"),Oi,(.dict #[(eR P "builtins" 162 4),(eR P "__main__" 163 5)] 2),#[]⟩
noncomputable def b2:O7:=⟨.none,Oi,(.dict #[] 0),#[]⟩
def mL:List QZ:=[(E P "__name__" 165 (.str "law_edgetally_k18_counts_and_steps" 633)),(E P "__doc__" 166 .none),(E P "__package__" 167 .none),(E P "__loader__" 168 (.builtin "__main__.__loader__#opaque")),(E P "__spec__" 169 .none),(eR P "__annotations__" 170 6),(eR P "__builtins__" 171 4),(E P "__file__" 173 (.str "/claim/cut.py" 172)),(E P "__cached__" 174 .none),(eR P "_wall" 193 21),(eR P "EdgeError" 223 38),(eR P "BadSums" 248 59),(eR P "BadBounds" 273 79),(eR P "TooWide" 298 98),(eR P "Barred" 325 117),(eR P "BadNumber" 350 137),(E P "MOST" 354 (.int 40 353)),(E P "MOST_ROWS" 356 (.int 4 355)),(E P "MOST_COLUMNS" 358 (.int 6 357)),(eR P "FREE" 360 140),(eR P "free" 367 146),(eR P "check_sums" 373 151),(eR P "check_pair" 382 158),(eR P "settled_bounds" 388 163),(eR P "factorial" 399 170),(eR P "ways" 408 177),(eR P "fillings" 414 182),(eR P "need_of" 422 187),(eR P "room_inside" 428 192),(eR P "room_beside" 434 197),(eR P "room_of" 440 202),(eR P "narrowest" 446 207),(eR P "choices" 452 212),(eR P "check_fit" 463 219),(E P "WIDE" 467 (.int 500 466)),(eR P "check_wide" 476 226),(eR P "settled_for_net" 486 233),(eR P "column_fillings" 492 238),(eR P "rests_behind" 498 243),(eR P "nodes_by_level" 504 248),(eR P "node_counts" 518 255),(eR P "counted_nodes" 524 260),(eR P "Net" 632 344),(eR P "_law_bag" 640 353),(eR P "_law_pull" 651 360),(eR P "_law_same" 657 365),(eR P "_law_grid" 663 370),(eR P "_law_small" 673 377),(eR P "_law_turned" 679 382),(eR P "_law_rowsums" 685 387),(eR P "_law_columnsums" 691 392),(eR P "_law_free" 697 397),(eR P "_law_bounds" 711 404),(eR P "_law_copied" 717 409),(eR P "_law_fit" 723 414),(eR P "_law_less" 729 419),(eR P "_law_listing" 735 424),(eR P "_law_factorial" 744 431),(eR P "_law_ways" 753 438),(eR P "_law_weight" 762 445),(eR P "_law_net" 770 452),(eR P "_law_nodes" 776 457),(eR P "law" 782 462)]
noncomputable def b3:O7:=⟨(.type "dict"),Oi,(.dict (mL P).toArray 63),#[]⟩
noncomputable def b4:O7:=⟨(.type "module"),(on 0),.plain,#[]⟩
noncomputable def b5:O7:=⟨(.type "module"),(on 3),.plain,#[]⟩
noncomputable def b6:O7:=⟨(.type "dict"),Oi,(.dict #[] 0),#[]⟩
def b7:O7:=tO []
def b8:O7:=nO []
def b9:O7:=cC "<module>" "<module>" 176 1 0 0 0 0 7 Os 175 8 .none .none .none .none 179 1 180
def b10:O7:=⟨(.type "frame"),Oi,.plain,#[(on (.ref 9)),(on (.ref 3)),(on (.ref 3)),Oi,(on Y5),Oi,(on (.ref 0))]⟩
def b12:O7:=nT [1,0,20,5,0,27,10,0,47,14,0,67,18,0,87,23,0,106,29,0,125,38,0,145,40,0,150,51,0,157,55,0,162,65,0,169,70,0,176,78,0,181,88,0,186,90,0,191,93,0,196,95,0,201,97,0,206,99,0,211,104,0,218,111,0,225,117,0,232,122,0,237,124,0,242,126,0,247,134,0,254,142,0,259,152,0,266,194,0,352,196,0,359,206,0,364,218,0,369,225,0,376,236,0,381,238,0,386,240,0,391,242,0,396,244,0,403,256,0,408,258,0,413,267,0,418,269,0,423,278,0,430,283,0,437,288,0,444,293,0,451,295,0,456,304,0,461]
def b13:O7:=cC "<module>" "<module>" 182 1 0 0 0 0 11 Os 181 12 .none .none .none .none 185 1 186
def b14:O7:=⟨(.type "frame"),Oi,.plain,#[(on (.ref 13)),(on (.ref 3)),(on (.ref 3)),Oi,(on Y5),Oi,(on (.ref 0))]⟩
def b17:O7:=tS 190 ["k"]
def b19:O7:=fB "_wall" "_wall" (dq 0)
def b20:O7:=cG "_wall" 187 1 1 0 15 181 191
def b21:O7:=fM "__main__" 164 "_wall" 0 20
def b22:O7:=tO [(.type "ValueError")]
noncomputable def Yz:O7:=⟨(.type "builtin_function_or_method"),Oi,(.fields #[(.builtin "type.__prepare__"),(.type "type")]),#[]⟩
def b24:O7:=⟨(.type "dict"),Oi,(.dict #[(E P "__module__" 203 lv),(E P "__qualname__" 205 (.str "EdgeError" 204)),(E P "__firstlineno__" 207 (.int 5 206)),(eR P "__init__" 216 35),(eR P "__static_attributes__" 218 36)] 5),#[]⟩
def b26:O7:=nT [7,4,34]
def b27:O7:=cC "EdgeError" "EdgeError" 198 5 0 0 0 0 25 Os 181 26 .none .none .none .none 201 5 202
def b28:O7:=⟨(.type "frame"),Oi,.plain,#[(on (.ref 27)),(on (.ref 3)),(on (.ref 24)),Oi,(on lv),Oi,(on (.ref 0))]⟩
def b31:O7:=tS 211 ["self","word","why"]
def b33:O7:=fB "__init__" "EdgeError.__init__" (aA (dq 2) 0)
def b34:O7:=cC "__init__" "EdgeError.__init__" 208 7 3 0 0 3 29 On 181 30 .none (.ref 31) (.ref 32) (.ref 33) 214 7 215
def b35:O7:=fO (FN "__init__" "EdgeError.__init__" (aA (dq 2) 0) .none .none .none lv Oi (.ref 34) .none)
def b36:O7:=tS 217 ["word"]
def b37:O7:=⟨(.type "dict"),Oi,(.dict #[(E P "__module__" 203 lv),(E P "__firstlineno__" 207 (.int 5 206)),(eR P "__init__" 216 35),(eR P "__static_attributes__" 218 36),(eR P "__weakref__" 220 39),(E P "__doc__" 221 .none)] 3),#[]⟩
noncomputable def b38:O7:=⟨(.type "type"),Oi,(.cls ⟨"EdgeError",[(.type "ValueError")],[(.ref 38),(.type "ValueError"),(.type "Exception"),(.type "BaseException"),(.type "object")],37,"EdgeError",On,[],[(.ref 59),(.ref 79),(.ref 98),(.ref 117),(.ref 137)],Os,Oi,Os⟩),#[(on (.ref 22)),Oi,(on (.str "EdgeError" 196)),(on (.str "EdgeError" 204)),(on (.builtin "ValueError.__new__")),(on (.bool On))]⟩
noncomputable def b39:O7:=⟨(.type "getset_descriptor"),Oi,(.fields #[(.str "__weakref__" 219),(.ref 38),(.builtin "ExceptionGroup.__weakref__"),.none]),#[]⟩
noncomputable def b40:O7:=⟨(.type "super"),Oi,(.fields #[(.ref 38),(.ref 38),(.ref 38)]),#[]⟩
def b41:O7:=Yu 38
def YV:O7:=tO [(.ref 38)]
def b44:O7:=⟨(.type "dict"),Oi,(.dict #[(E P "__module__" 231 lv),(E P "__qualname__" 233 (.str "BadSums" 232)),(E P "__firstlineno__" 235 (.int 10 234)),(eR P "__init__" 244 56),(eR P "__static_attributes__" 245 57)] 5),#[]⟩
def b46:O7:=nT [12,4,55]
def b47:O7:=cC "BadSums" "BadSums" 226 10 0 0 0 0 45 Os 181 46 .none .none .none .none 229 10 230
def b48:O7:=⟨(.type "frame"),Oi,.plain,#[(on (.ref 47)),(on (.ref 3)),(on (.ref 44)),Oi,(on lv),Oi,(on (.ref 0))]⟩
def b49:O7:=tS 236 ["these sums are no table's"]
def b52:O7:=tS 240 ["self","why"]
def b54:O7:=fB "__init__" "BadSums.__init__" (aA (dq 3) 0)
def b55:O7:=cC "__init__" "BadSums.__init__" 237 12 2 0 0 3 50 On 181 51 .none (.ref 52) (.ref 53) (.ref 54) 242 12 243
def b56:O7:=fO (FN "__init__" "BadSums.__init__" (aA (dq 3) 0) (.ref 49) .none .none lv Oi (.ref 55) .none)
def b58:O7:=⟨(.type "dict"),Oi,(.dict #[(E P "__module__" 231 lv),(E P "__firstlineno__" 235 (.int 10 234)),(eR P "__init__" 244 56),(eR P "__static_attributes__" 245 57),(E P "__doc__" 246 .none)] 2),#[]⟩
def b59:O7:=YK "BadSums" 59 58 42 224 232
noncomputable def b60:O7:=⟨(.type "super"),Oi,(.fields #[(.ref 59),(.ref 59),(.ref 59)]),#[]⟩
def b61:O7:=Yu 59
def b64:O7:=⟨(.type "dict"),Oi,(.dict #[(E P "__module__" 256 lv),(E P "__qualname__" 258 (.str "BadBounds" 257)),(E P "__firstlineno__" 260 (.int 14 259)),(eR P "__init__" 269 76),(eR P "__static_attributes__" 270 77)] 5),#[]⟩
def b66:O7:=nT [16,4,75]
def b67:O7:=cC "BadBounds" "BadBounds" 251 14 0 0 0 0 65 Os 181 66 .none .none .none .none 254 14 255
def b68:O7:=⟨(.type "frame"),Oi,.plain,#[(on (.ref 67)),(on (.ref 3)),(on (.ref 64)),Oi,(on lv),Oi,(on (.ref 0))]⟩
def b69:O7:=tS 261 ["these bounds are no table's"]
def b72:O7:=tS 265 ["self","why"]
def b74:O7:=fB "__init__" "BadBounds.__init__" (aA (dq 4) 0)
def b75:O7:=cC "__init__" "BadBounds.__init__" 262 16 2 0 0 3 70 On 181 71 .none (.ref 72) (.ref 73) (.ref 74) 267 16 268
def b76:O7:=fO (FN "__init__" "BadBounds.__init__" (aA (dq 4) 0) (.ref 69) .none .none lv Oi (.ref 75) .none)
def b78:O7:=⟨(.type "dict"),Oi,(.dict #[(E P "__module__" 256 lv),(E P "__firstlineno__" 260 (.int 14 259)),(eR P "__init__" 269 76),(eR P "__static_attributes__" 270 77),(E P "__doc__" 271 .none)] 2),#[]⟩
def b79:O7:=YK "BadBounds" 79 78 62 249 257
noncomputable def b80:O7:=⟨(.type "super"),Oi,(.fields #[(.ref 79),(.ref 79),(.ref 79)]),#[]⟩
def b81:O7:=Yu 79
def b84:O7:=⟨(.type "dict"),Oi,(.dict #[(E P "__module__" 281 lv),(E P "__qualname__" 283 (.str "TooWide" 282)),(E P "__firstlineno__" 285 (.int 18 284)),(eR P "__init__" 293 95),(eR P "__static_attributes__" 295 96)] 5),#[]⟩
def b86:O7:=nT [20,4,94]
def b87:O7:=cC "TooWide" "TooWide" 276 18 0 0 0 0 85 Os 181 86 .none .none .none .none 279 18 280
def b88:O7:=⟨(.type "frame"),Oi,.plain,#[(on (.ref 87)),(on (.ref 3)),(on (.ref 84)),Oi,(on lv),Oi,(on (.ref 0))]⟩
def b91:O7:=tS 289 ["self","wide"]
def b93:O7:=fB "__init__" "TooWide.__init__" (aA (dq 5) 0)
def b94:O7:=cC "__init__" "TooWide.__init__" 286 20 2 0 0 3 89 On 181 90 .none (.ref 91) (.ref 92) (.ref 93) 291 20 292
def b95:O7:=fO (FN "__init__" "TooWide.__init__" (aA (dq 5) 0) .none .none .none lv Oi (.ref 94) .none)
def b96:O7:=tS 294 ["wide"]
def b97:O7:=⟨(.type "dict"),Oi,(.dict #[(E P "__module__" 281 lv),(E P "__firstlineno__" 285 (.int 18 284)),(eR P "__init__" 293 95),(eR P "__static_attributes__" 295 96),(E P "__doc__" 296 .none)] 2),#[]⟩
def b98:O7:=YK "TooWide" 98 97 82 274 282
noncomputable def b99:O7:=⟨(.type "super"),Oi,(.fields #[(.ref 98),(.ref 98),(.ref 98)]),#[]⟩
def b100:O7:=Yu 98
def b103:O7:=⟨(.type "dict"),Oi,(.dict #[(E P "__module__" 306 lv),(E P "__qualname__" 308 (.str "Barred" 307)),(E P "__firstlineno__" 310 (.int 23 309)),(eR P "__init__" 319 114),(eR P "__static_attributes__" 322 115)] 5),#[]⟩
def b105:O7:=nT [25,4,113]
def b106:O7:=cC "Barred" "Barred" 301 23 0 0 0 0 104 Os 181 105 .none .none .none .none 304 23 305
def b107:O7:=⟨(.type "frame"),Oi,.plain,#[(on (.ref 106)),(on (.ref 3)),(on (.ref 103)),Oi,(on lv),Oi,(on (.ref 0))]⟩
def b110:O7:=tS 314 ["self","over","into"]
def b112:O7:=fB "__init__" "Barred.__init__" (aA (dq 6) 0)
def b113:O7:=cC "__init__" "Barred.__init__" 311 25 3 0 0 3 108 On 181 109 .none (.ref 110) (.ref 111) (.ref 112) 317 25 318
def b114:O7:=fO (FN "__init__" "Barred.__init__" (aA (dq 6) 0) .none .none .none lv Oi (.ref 113) .none)
def b115:O7:=tS 320 ["into","over"]
def b116:O7:=⟨(.type "dict"),Oi,(.dict #[(E P "__module__" 306 lv),(E P "__firstlineno__" 310 (.int 23 309)),(eR P "__init__" 319 114),(eR P "__static_attributes__" 322 115),(E P "__doc__" 323 .none)] 2),#[]⟩
def b117:O7:=YK "Barred" 117 116 101 299 307
noncomputable def b118:O7:=⟨(.type "super"),Oi,(.fields #[(.ref 117),(.ref 117),(.ref 117)]),#[]⟩
def b119:O7:=Yu 117
def b122:O7:=⟨(.type "dict"),Oi,(.dict #[(E P "__module__" 333 lv),(E P "__qualname__" 335 (.str "BadNumber" 334)),(E P "__firstlineno__" 337 (.int 29 336)),(eR P "__init__" 346 134),(eR P "__static_attributes__" 347 135)] 5),#[]⟩
def b124:O7:=nT [31,4,133]
def b125:O7:=cC "BadNumber" "BadNumber" 328 29 0 0 0 0 123 Os 181 124 .none .none .none .none 331 29 332
def b126:O7:=⟨(.type "frame"),Oi,.plain,#[(on (.ref 125)),(on (.ref 3)),(on (.ref 122)),Oi,(on lv),Oi,(on (.ref 0))]⟩
def b127:O7:=tS 338 ["this number is out of its bounds"]
def b130:O7:=tS 342 ["self","why"]
def b132:O7:=fB "__init__" "BadNumber.__init__" (aA (dq 7) 0)
def b133:O7:=cC "__init__" "BadNumber.__init__" 339 31 2 0 0 3 128 On 181 129 .none (.ref 130) (.ref 131) (.ref 132) 344 31 345
def b134:O7:=fO (FN "__init__" "BadNumber.__init__" (aA (dq 7) 0) (.ref 127) .none .none lv Oi (.ref 133) .none)
def b136:O7:=⟨(.type "dict"),Oi,(.dict #[(E P "__module__" 333 lv),(E P "__firstlineno__" 337 (.int 29 336)),(eR P "__init__" 346 134),(eR P "__static_attributes__" 347 135),(E P "__doc__" 348 .none)] 2),#[]⟩
def b137:O7:=YK "BadNumber" 137 136 120 326 334
noncomputable def b138:O7:=⟨(.type "super"),Oi,(.fields #[(.ref 137),(.ref 137),(.ref 137)]),#[]⟩
def b139:O7:=Yu 137
def MS:O7:=tO [(.int 0 359),(.int 40 353)]
def MR:O7:=⟨(.type "dict"),Oi,(.dict #[(eR P "pair" 361 140)] 1),#[]⟩
def b144:O7:=fB "free" "free" (dq 13)
def MQ:O7:=cF "free" 362 38 2 1 142 181 365
def FX:O7:=fO (FN "free" "free" (dq 13) .none (.ref 141) .none (.str "edgetally.bounds" 351) Oi (.ref 145) .none)
def b149:O7:=fB "check_sums" "check_sums" (dq 14)
def MP:O7:=cF "check_sums" 368 40 2 0 147 181 371
def FW:O7:=fM "edgetally.bounds" 351 "check_sums" 14 150
def b154:O7:=tS 377 ["pair","low","high"]
def b156:O7:=fB "check_pair" "check_pair" (dq 15)
def MO:O7:=cG "check_pair" 374 51 1 0 152 181 380
def FV:O7:=fM "edgetally.bounds" 351 "check_pair" 15 157
def b161:O7:=fB "settled_bounds" "settled_bounds" (dq 16)
def MN:O7:=cF "settled_bounds" 383 55 3 0 159 181 386
def FU:O7:=fM "edgetally.bounds" 351 "settled_bounds" 16 162
def b166:O7:=tS 394 ["number","product","factor"]
def b168:O7:=fB "factorial" "factorial" (dq 18)
def MM:O7:=cG "factorial" 391 65 1 0 164 181 397
def FT:O7:=fM "edgetally.counts" 389 "factorial" 18 169
def b173:O7:=tS 403 ["parts","part","told"]
def b175:O7:=fB "ways" "ways" (dq 19)
def ML:O7:=cG "ways" 400 70 1 0 171 181 406
def FS:O7:=fM "edgetally.counts" 389 "ways" 19 176
def b180:O7:=fB "fillings" "fillings" (dq 20)
def MK:O7:=cF "fillings" 409 78 3 0 178 181 412
def FR:O7:=fM "edgetally.counts" 389 "fillings" 20 181
def b185:O7:=fB "need_of" "need_of" (dq 22)
def MJ:O7:=cF "need_of" 417 88 2 0 183 181 420
def FQ:O7:=fM "edgetally.fits" 415 "need_of" 22 186
def b190:O7:=fB "room_inside" "room_inside" (dq 23)
def MI:O7:=cF "room_inside" 423 90 4 0 188 181 426
def FP:O7:=fM "edgetally.fits" 415 "room_inside" 23 191
def b195:O7:=fB "room_beside" "room_beside" (dq 24)
def MH:O7:=cF "room_beside" 429 93 3 0 193 181 432
def FO:O7:=fM "edgetally.fits" 415 "room_beside" 24 196
def b200:O7:=fB "room_of" "room_of" (dq 25)
def MG:O7:=cF "room_of" 435 95 4 0 198 181 438
def FM:O7:=fM "edgetally.fits" 415 "room_of" 25 201
def b205:O7:=fB "narrowest" "narrowest" (dq 26)
def MF:O7:=cF "narrowest" 441 97 3 0 203 181 444
def FK:O7:=fM "edgetally.fits" 415 "narrowest" 26 206
def b210:O7:=fB "choices" "choices" (dq 27)
def ME:O7:=cF "choices" 447 99 1 0 208 181 450
def FJ:O7:=fM "edgetally.fits" 415 "choices" 27 211
def b215:O7:=tS 456 ["rowsums","columnsums","bounds","over","into"]
def b217:O7:=fB "check_fit" "check_fit" (dq 28)
def MD:O7:=cG "check_fit" 453 104 3 0 213 181 461
def FI:O7:=fM "edgetally.fits" 415 "check_fit" 28 218
def b222:O7:=tS 471 ["rowsums","wide","many"]
def b224:O7:=fB "check_wide" "check_wide" (dq 31)
def MC:O7:=cG "check_wide" 468 111 1 0 220 181 474
def FH:O7:=fM "edgetally.net" 464 "check_wide" 31 225
def b229:O7:=tS 480 ["rowsums","columnsums","bounds","settled"]
def b231:O7:=fB "settled_for_net" "settled_for_net" (dq 32)
def MB:O7:=cG "settled_for_net" 477 117 3 0 227 181 484
def FG:O7:=fM "edgetally.net" 464 "settled_for_net" 32 232
def b236:O7:=fB "column_fillings" "column_fillings" (dq 33)
def MA:O7:=cF "column_fillings" 487 122 4 0 234 181 490
def FF:O7:=fM "edgetally.net" 464 "column_fillings" 33 237
def b241:O7:=fB "rests_behind" "rests_behind" (dq 34)
def Mz:O7:=cF "rests_behind" 493 124 2 0 239 181 496
def FE:O7:=fM "edgetally.net" 464 "rests_behind" 34 242
def b246:O7:=fB "nodes_by_level" "nodes_by_level" (dq 35)
def Mx:O7:=cF "nodes_by_level" 499 126 3 0 244 181 502
def FC:O7:=fM "edgetally.net" 464 "nodes_by_level" 35 247
def b251:O7:=tS 508 ["rests","filled","behind","tables","dealings","counts","tables_behind","dealings_behind"]
def b253:O7:=fB "node_counts" "node_counts" (dq 36)
def Mw:O7:=cG "node_counts" 505 134 3 0 249 181 516
def FA:O7:=fM "edgetally.net" 464 "node_counts" 36 254
def b258:O7:=fB "counted_nodes" "counted_nodes" (dq 37)
def Mv:O7:=cF "counted_nodes" 519 142 3 0 256 181 522
def EZ:O7:=fM "edgetally.net" 464 "counted_nodes" 37 259
def b263:O7:=⟨(.type "dict"),Oi,(.dict #[(E P "__module__" 532 r_),(E P "__qualname__" 534 (.str "Net" 533)),(E P "__firstlineno__" 536 (.int 152 535)),(eR P "__init__" 548 275),(eR P "__eq__" 556 282),(eR P "__len__" 563 289),(eR P "rowsums" 570 296),(eR P "columnsums" 577 303),(eR P "bounds" 583 308),(eR P "counts_at" 592 315),(eR P "tables" 599 322),(eR P "dealings" 606 329),(eR P "steps" 612 334),(eR P "paper" 619 341),(eR P "__static_attributes__" 624 342)] 15),#[]⟩
def b265:O7:=nT [154,4,274,162,4,281,165,4,288,168,4,295,171,4,302,174,4,307,177,4,314,180,4,321,183,4,328,186,4,333,191,4,340]
def b266:O7:=cC "Net" "Net" 527 152 0 0 0 0 264 Os 181 265 .none .none .none .none 530 152 531
def b267:O7:=⟨(.type "frame"),Oi,.plain,#[(on (.ref 266)),(on (.ref 3)),(on (.ref 263)),Oi,(on r_),Oi,(on (.ref 0))]⟩
def Mu:O7:=⟨(.type "dict"),Oi,(.dict #[(E P "bounds" 537 .none)] 1),#[]⟩
def b271:O7:=tS 541 ["self","rowsums","columnsums","bounds","settled"]
def b273:O7:=fB "__init__" "Net.__init__" (aA (dq 38) 0)
def Mt:O7:=cC "__init__" "Net.__init__" 538 154 3 0 1 3 269 On 181 270 .none (.ref 271) (.ref 272) (.ref 273) 546 154 547
def EY:O7:=fO (FN "__init__" "Net.__init__" (aA (dq 38) 0) .none (.ref 268) .none r_ Oi (.ref 274) .none)
def b278:O7:=tS 552 ["self","other"]
def b280:O7:=fB "__eq__" "Net.__eq__" (aA (dq 38) 1)
def b281:O7:=cC "__eq__" "Net.__eq__" 549 162 2 0 0 3 276 On 181 277 .none (.ref 278) (.ref 279) (.ref 280) 554 162 555
def b282:O7:=fO (FN "__eq__" "Net.__eq__" (aA (dq 38) 1) .none .none .none r_ Oi (.ref 281) .none)
def b285:O7:=tS 560 ["self"]
def b287:O7:=fB "__len__" "Net.__len__" (aA (dq 38) 2)
def b288:O7:=cC "__len__" "Net.__len__" 557 165 1 0 0 3 283 On 181 284 .none (.ref 285) (.ref 286) (.ref 287) 561 165 562
def b289:O7:=fO (FN "__len__" "Net.__len__" (aA (dq 38) 2) .none .none .none r_ Oi (.ref 288) .none)
def b292:O7:=tS 567 ["self"]
def b294:O7:=fB "rowsums" "Net.rowsums" (aA (dq 38) 3)
def b295:O7:=cC "rowsums" "Net.rowsums" 564 168 1 0 0 3 290 On 181 291 .none (.ref 292) (.ref 293) (.ref 294) 568 168 569
def b296:O7:=fO (FN "rowsums" "Net.rowsums" (aA (dq 38) 3) .none .none .none r_ Oi (.ref 295) .none)
def b299:O7:=tS 574 ["self"]
def b301:O7:=fB "columnsums" "Net.columnsums" (aA (dq 38) 4)
def b302:O7:=cC "columnsums" "Net.columnsums" 571 171 1 0 0 3 297 On 181 298 .none (.ref 299) (.ref 300) (.ref 301) 575 171 576
def b303:O7:=fO (FN "columnsums" "Net.columnsums" (aA (dq 38) 4) .none .none .none r_ Oi (.ref 302) .none)
def b306:O7:=fB "bounds" "Net.bounds" (aA (dq 38) 5)
def b307:O7:=cC "bounds" "Net.bounds" 578 174 1 0 0 3 304 On 181 305 .none .none .none (.ref 306) 581 174 582
def b308:O7:=fO (FN "bounds" "Net.bounds" (aA (dq 38) 5) .none .none .none r_ Oi (.ref 307) .none)
def b311:O7:=tS 587 ["self","level","rests"]
def b313:O7:=fB "counts_at" "Net.counts_at" (aA (dq 38) 6)
def Ms:O7:=cC "counts_at" "Net.counts_at" 584 177 3 0 0 3 309 On 181 310 .none (.ref 311) (.ref 312) (.ref 313) 590 177 591
def EX:O7:=fO (FN "counts_at" "Net.counts_at" (aA (dq 38) 6) .none .none .none r_ Oi (.ref 314) .none)
def b318:O7:=tS 596 ["self"]
def b320:O7:=fB "tables" "Net.tables" (aA (dq 38) 7)
def Mr:O7:=cC "tables" "Net.tables" 593 180 1 0 0 3 316 On 181 317 .none (.ref 318) (.ref 319) (.ref 320) 597 180 598
def EW:O7:=fO (FN "tables" "Net.tables" (aA (dq 38) 7) .none .none .none r_ Oi (.ref 321) .none)
def b325:O7:=tS 603 ["self"]
def b327:O7:=fB "dealings" "Net.dealings" (aA (dq 38) 8)
def b328:O7:=cC "dealings" "Net.dealings" 600 183 1 0 0 3 323 On 181 324 .none (.ref 325) (.ref 326) (.ref 327) 604 183 605
def b329:O7:=fO (FN "dealings" "Net.dealings" (aA (dq 38) 8) .none .none .none r_ Oi (.ref 328) .none)
def b332:O7:=fB "steps" "Net.steps" (aA (dq 38) 9)
def Mq:O7:=cC "steps" "Net.steps" 607 186 3 0 0 3 330 On 181 331 .none .none .none (.ref 332) 610 186 611
def EV:O7:=fO (FN "steps" "Net.steps" (aA (dq 38) 9) .none .none .none r_ Oi (.ref 333) .none)
def b337:O7:=tS 616 ["self"]
def b339:O7:=fB "paper" "Net.paper" (aA (dq 38) 10)
def b340:O7:=cC "paper" "Net.paper" 613 191 1 0 0 3 335 On 181 336 .none (.ref 337) (.ref 338) (.ref 339) 617 191 618
def b341:O7:=fO (FN "paper" "Net.paper" (aA (dq 38) 10) .none .none .none r_ Oi (.ref 340) .none)
def b342:O7:=tS 620 ["column_list","counted","pairs","row_list"]
def Mp:O7:=⟨(.type "dict"),Oi,(.dict #[(E P "__module__" 532 r_),(E P "__firstlineno__" 536 (.int 152 535)),(eR P "__init__" 548 275),(eR P "__eq__" 556 282),(eR P "__len__" 563 289),(eR P "rowsums" 570 296),(eR P "columnsums" 577 303),(eR P "bounds" 583 308),(eR P "counts_at" 592 315),(eR P "tables" 599 322),(eR P "dealings" 606 329),(eR P "steps" 612 334),(eR P "paper" 619 341),(eR P "__static_attributes__" 624 342),(eR P "__dict__" 626 345),(eR P "__weakref__" 628 346),(E P "__doc__" 629 .none),(E P "__hash__" 630 .none)] 5),#[]⟩
noncomputable def Mo:O7:=⟨(.type "type"),Oi,(.cls ⟨"Net",[(.type "object")],[(.ref 344),(.type "object")],343,"Net",On,[],[],Os,Oi,Os⟩),#[Oi,Oi,(on (.str "Net" 525)),(on (.str "Net" 533)),(on (.builtin "object.__new__")),(on (.bool On))]⟩
noncomputable def b345:O7:=⟨(.type "getset_descriptor"),Oi,(.fields #[(.str "__dict__" 625),(.ref 344),(.builtin "function.__dict__"),(.builtin "function.__dict__#set")]),#[]⟩
noncomputable def b346:O7:=⟨(.type "getset_descriptor"),Oi,(.fields #[(.str "__weakref__" 627),(.ref 344),(.builtin "ExceptionGroup.__weakref__"),.none]),#[]⟩
noncomputable def b347:O7:=⟨(.type "super"),Oi,(.fields #[(.ref 344),(.ref 344),(.ref 344)]),#[]⟩
def b348:O7:=Yu 344
def b351:O7:=fB "_law_bag" "_law_bag" (dq 40)
def Mn:O7:=cF "_law_bag" 635 194 1 0 349 181 638
def EU:O7:=fL "_law_bag" "_law_bag" 40 352
def b356:O7:=tS 644 ["_law_bag_here","_law_lot","_law_cells","_law_at","_law_cell"]
def b358:O7:=fB "_law_pull" "_law_pull" (dq 41)
def Ml:O7:=cG "_law_pull" 641 196 2 0 354 181 649
def ET:O7:=fL "_law_pull" "_law_pull" 41 359
def b363:O7:=fB "_law_same" "_law_same" (dq 42)
def Mj:O7:=cF "_law_same" 652 206 2 0 361 181 655
def ES:O7:=fL "_law_same" "_law_same" 42 364
def b368:O7:=fB "_law_grid" "_law_grid" (dq 43)
def Mi:O7:=cF "_law_grid" 658 218 4 0 366 181 661
def ER:O7:=fL "_law_grid" "_law_grid" 43 369
def b373:O7:=tS 667 ["_law_bag_here","_law_way","_law_block","_law_columns"]
def b375:O7:=fB "_law_small" "_law_small" (dq 44)
def Mh:O7:=cG "_law_small" 664 225 1 0 371 181 671
def EQ:O7:=fL "_law_small" "_law_small" 44 376
def b380:O7:=fB "_law_turned" "_law_turned" (dq 45)
def Mg:O7:=cF "_law_turned" 674 236 1 0 378 181 677
def EO:O7:=fL "_law_turned" "_law_turned" 45 381
def b385:O7:=fB "_law_rowsums" "_law_rowsums" (dq 46)
def Mf:O7:=cF "_law_rowsums" 680 238 1 0 383 181 683
def EN:O7:=fL "_law_rowsums" "_law_rowsums" 46 386
def b390:O7:=fB "_law_columnsums" "_law_columnsums" (dq 47)
def Me:O7:=cF "_law_columnsums" 686 240 1 0 388 181 689
def EM:O7:=fL "_law_columnsums" "_law_columnsums" 47 391
def b395:O7:=fB "_law_free" "_law_free" (dq 48)
def Md:O7:=cF "_law_free" 692 242 2 0 393 181 695
def EL:O7:=fL "_law_free" "_law_free" 48 396
def b400:O7:=tS 701 ["_law_bag_here","_law_grid_here","_law_told","_law_at","_law_row","_law_to","_law_count","_law_way"]
def b402:O7:=fB "_law_bounds" "_law_bounds" (dq 49)
def Mc:O7:=cG "_law_bounds" 698 244 2 0 398 181 709
def EK:O7:=fL "_law_bounds" "_law_bounds" 49 403
def b407:O7:=fB "_law_copied" "_law_copied" (dq 50)
def Mb:O7:=cF "_law_copied" 712 256 1 0 405 181 715
def EJ:O7:=fL "_law_copied" "_law_copied" 50 408
def b412:O7:=fB "_law_fit" "_law_fit" (dq 51)
def Ma:O7:=cF "_law_fit" 718 258 3 0 410 181 721
def EI:O7:=fL "_law_fit" "_law_fit" 51 413
def b417:O7:=fB "_law_less" "_law_less" (dq 52)
def L9:O7:=cF "_law_less" 724 267 2 0 415 181 727
def EH:O7:=fL "_law_less" "_law_less" 52 418
def b422:O7:=fB "_law_listing" "_law_listing" (dq 53)
def L8:O7:=cF "_law_listing" 730 269 3 0 420 181 733
def EG:O7:=fL "_law_listing" "_law_listing" 53 423
def b427:O7:=tS 739 ["_law_lot","_law_found","_law_k"]
def b429:O7:=fB "_law_factorial" "_law_factorial" (dq 54)
def L7:O7:=cG "_law_factorial" 736 278 1 0 425 181 742
def EF:O7:=fL "_law_factorial" "_law_factorial" 54 430
def b434:O7:=tS 748 ["_law_parts","_law_under","_law_part"]
def b436:O7:=fB "_law_ways" "_law_ways" (dq 55)
def L6:O7:=cG "_law_ways" 745 283 1 0 432 181 751
def EE:O7:=fL "_law_ways" "_law_ways" 55 437
def b441:O7:=tS 757 ["_law_columns","_law_found","_law_column"]
def b443:O7:=fB "_law_weight" "_law_weight" (dq 56)
def L5:O7:=cG "_law_weight" 754 288 1 0 439 181 760
def ED:O7:=fL "_law_weight" "_law_weight" 56 444
def b448:O7:=tS 766 ["_law_grid_here","_law_limits"]
def b450:O7:=fB "_law_net" "_law_net" (dq 57)
def L0:O7:=cG "_law_net" 763 293 2 0 446 181 768
def EC:O7:=fL "_law_net" "_law_net" 57 451
def b455:O7:=fB "_law_nodes" "_law_nodes" (dq 58)
def LZ:O7:=cF "_law_nodes" 771 295 3 0 453 181 774
def EB:O7:=fL "_law_nodes" "_law_nodes" 58 456
def b460:O7:=fB "law" "law" (dq 59)
def LY:O7:=cF "law" 777 304 1 0 458 181 780
def EA:O7:=fL "law" "law" 59 461
def Z2:O7:=⟨(.type "dict"),Oi,(.dict (((mL P).take 9).set 0 (E P "__name__" 165 Y5)).toArray 9),#[]⟩
def N7:O7:=nO []
def Z1:O7:=⟨(.type "dict"),Oi,(.dict (((mL P).take 9).set 0 (E P "__name__" 165 Y5)).toArray 9),#[]⟩
def NY:O7:=nT [1,0,20,5,0,27,10,0,47,14,0,67,18,0,87]
def ZW:O7:=⟨(.type "dict"),Oi,(.dict (((mL P).take 14).set 0 (E P "__name__" 165 lv)).toArray 14),#[]⟩
noncomputable def NX:O7:=⟨(.type "type"),Oi,(.cls ⟨"EdgeError",[(.type "ValueError")],[(.ref 38),(.type "ValueError"),(.type "Exception"),(.type "BaseException"),(.type "object")],37,"EdgeError",On,[],[(.ref 59),(.ref 79),(.ref 98)],Os,Oi,Os⟩),#[(on (.ref 22)),Oi,(on (.str "EdgeError" 196)),(on (.str "EdgeError" 204)),(on (.builtin "ValueError.__new__")),(on (.bool On))]⟩
def NW:O7:=nT [1,0,20,5,0,27,10,0,47,14,0,67,18,0,87,23,0,106,29,0,125,38,0,145,40,0,150,51,0,157,55,0,162,65,0,169,70,0,176,78,0,181,88,0,186,90,0,191,93,0,196,95,0,201,97,0,206,99,0,211,104,0,218]
def ZV:O7:=⟨(.type "dict"),Oi,(.dict (((mL P).take 35).set 0 (E P "__name__" 165 r_)).toArray 35),#[]⟩
def NV:O7:=nT [1,0,20,5,0,27,10,0,47,14,0,67,18,0,87,23,0,106,29,0,125,38,0,145,40,0,150,51,0,157,55,0,162,65,0,169,70,0,176,78,0,181,88,0,186,90,0,191,93,0,196,95,0,201,97,0,206,99,0,211,104,0,218,111,0,225,117,0,232,122,0,237,124,0,242,126,0,247,134,0,254,142,0,259,152,0,266,194,0,352,196,0,359,206,0,364,218,0,369,225,0,376,236,0,381,238,0,386,240,0,391]
noncomputable def ZU:O7:=⟨(.type "dict"),Oi,(.dict ((mL P).take 51).toArray 51),#[]⟩
def kL:List O7:=[b0 P,b1 P,b2,b3 P,b4,b5,b6,b7,b8,b9,b10,b7,b12,b13,b14,b7,b8,b17,b7,b19,b20,b21,b22,Yz,b24 P,b7,b26,b27,b28,b7,b8,b31,b7,b33,b34,b35,b36,b37 P,b38,b39,b40,b41,YV,Yz,b44 P,b7,b46,b47,b48,b49,b7,b8,b52,b7,b54,b55,b56,b7,b58 P,b59,b60,b61,YV,Yz,b64 P,b7,b66,b67,b68,b69,b7,b8,b72,b7,b74,b75,b76,b7,b78 P,b79,b80,b81,YV,Yz,b84 P,b7,b86,b87,b88,b7,b8,b91,b7,b93,b94,b95,b96,b97 P,b98,b99,b100,YV,Yz,b103 P,b7,b105,b106,b107,b7,b8,b110,b7,b112,b113,b114,b115,b116 P,b117,b118,b119,YV,Yz,b122 P,b7,b124,b125,b126,b127,b7,b8,b130,b7,b132,b133,b134,b7,b136 P,b137,b138,b139,MS,MR P,b7,b8,b144,MQ,FX,b7,b8,b149,MP,FW,b7,b8,b154,b7,b156,MO,FV,b7,b8,b161,MN,FU,b7,b8,b166,b7,b168,MM,FT,b7,b8,b173,b7,b175,ML,FS,b7,b8,b180,MK,FR,b7,b8,b185,MJ,FQ,b7,b8,b190,MI,FP,b7,b8,b195,MH,FO,b7,b8,b200,MG,FM,b7,b8,b205,MF,FK,b7,b8,b210,ME,FJ,b7,b8,b215,b7,b217,MD,FI,b7,b8,b222,b7,b224,MC,FH,b7,b8,b229,b7,b231,MB,FG,b7,b8,b236,MA,FF,b7,b8,b241,Mz,FE,b7,b8,b246,Mx,FC,b7,b8,b251,b7,b253,Mw,FA,b7,b8,b258,Mv,EZ,b7,Yz,b263 P,b7,b265,b266,b267,Mu P,b7,b8,b271,b7,b273,Mt,EY,b7,b8,b278,b7,b280,b281,b282,b7,b8,b285,b7,b287,b288,b289,b7,b8,b292,b7,b294,b295,b296,b7,b8,b299,b7,b301,b302,b303,b7,b8,b306,b307,b308,b7,b8,b311,b7,b313,Ms,EX,b7,b8,b318,b7,b320,Mr,EW,b7,b8,b325,b7,b327,b328,b329,b7,b8,b332,Mq,EV,b7,b8,b337,b7,b339,b340,b341,b342,Mp P,Mo,b345,b346,b347,b348,b7,b8,b351,Mn,EU,b7,b8,b356,b7,b358,Ml,ET,b7,b8,b363,Mj,ES,b7,b8,b368,Mi,ER,b7,b8,b373,b7,b375,Mh,EQ,b7,b8,b380,Mg,EO,b7,b8,b385,Mf,EN,b7,b8,b390,Me,EM,b7,b8,b395,Md,EL,b7,b8,b400,b7,b402,Mc,EK,b7,b8,b407,Mb,EJ,b7,b8,b412,Ma,EI,b7,b8,b417,L9,EH,b7,b8,b422,L8,EG,b7,b8,b427,b7,b429,L7,EF,b7,b8,b434,b7,b436,L6,EE,b7,b8,b441,b7,b443,L5,ED,b7,b8,b448,b7,b450,L0,EC,b7,b8,b455,LZ,EB,b7,b8,b460,LY,EA]
def Yv:P4:=⟨⟨((kL P).take 11).set 3 (Z2 P)⟩,{}⟩
def Zf:P4:=⟨⟨(((kL P).take 15).set 3 (Z1 P)).set 12 (N7)⟩,{}⟩
def k1H:P4:=⟨⟨((((kL P).take 101).set 3 (ZW P)).set 12 (NY)).set 38 (NX)⟩,{}⟩
def k2H:P4:=⟨⟨(((kL P).take 220).set 3 (ZV P)).set 12 (NW)⟩,{}⟩
def k3H:P4:=⟨⟨(((kL P).take 393).set 3 (ZU P)).set 12 (NV)⟩,{}⟩
noncomputable def YS:P4:=⟨⟨kL P⟩,{}⟩
end
def KH:Wg->OU:=λP=>
[(2,b2),(3,b3 P),(34,b34),(35,b35),(37,b37 P),(38,b38),(140,MS),(141,MR P),(145,MQ),(146,FX),(150,MP),(151,FW),(157,MO),(158,FV),(162,MN),(163,FU),(169,MM),(170,FT),(176,ML),(177,FS),(181,MK),(182,FR),(186,MJ),(187,FQ),(191,MI),(192,FP),(196,MH),(197,FO),(201,MG),(202,FM),(206,MF),(207,FK),(211,ME),(212,FJ),(218,MD),(219,FI),(225,MC),(226,FH),(232,MB),(233,FG),(237,MA),(238,FF),(242,Mz),(243,FE),(247,Mx),(248,FC),(254,Mw),(255,FA),(259,Mv),(260,EZ),(268,Mu P),(274,Mt),(275,EY),(314,Ms),(315,EX),(321,Mr),(322,EW),(333,Mq),(334,EV),(343,Mp P),(344,Mo),(352,Mn),(353,EU),(359,Ml),(360,ET),(364,Mj),(365,ES),(369,Mi),(370,ER),(376,Mh),(377,EQ),(381,Mg),(382,EO),(386,Mf),(387,EN),(391,Me),(392,EM),(396,Md),(397,EL),(403,Mc),(404,EK),(408,Mb),(409,EJ),(413,Ma),(414,EI),(418,L9),(419,EH),(423,L8),(424,EG),(430,L7),(431,EF),(437,L6),(438,EE),(444,L5),(445,ED),(451,L0),(452,EC),(456,LZ),(457,EB),(461,LY),(462,EA)]
noncomputable def aH:List Oq:=[2,3,34,35,37,38,140,141,145,146,150,151,157,158,162,163,169,170,176,177,181,182,186,187,191,192,196,197,201,202,206,207,211,212,218,219,225,226,232,233,237,238,242,243,247,248,254,255,259,260,268,274,275,314,315,321,322,333,334,343,344,352,353,359,360,364,365,369,370,376,377,381,382,386,387,391,392,396,397,403,404,408,409,413,414,418,419,423,424,430,431,437,438,444,445,451,452,456,457,461,462]
theorem eH:∀P,aH=(KH P).map (·.1):=λ_=>by kernel_rfl
noncomputable def qH:Pc:={PySem.Challenge.pw_edgetally_k18_counts_and_steps with main:={PySem.Challenge.pw_edgetally_k18_counts_and_steps.main with body:=[dq 0,dq 2,dq 3,dq 4,dq 5,dq 6,dq 7,dq 9,dq 10,dq 11,dq 12,dq 14,dq 15,dq 16,dq 18,dq 19,dq 20,dq 22,dq 23,dq 24,dq 25,dq 26,dq 27,dq 28,dq 30,dq 31,dq 32,dq 33,dq 34,dq 35,dq 36,dq 37,dq 38,dq 40,dq 41,dq 42,dq 43,dq 44,dq 45,dq 46,dq 47,dq 48,dq 49,dq 50,dq 51,dq 52,dq 53,dq 54,dq 55,dq 56,dq 57,dq 58,dq 59]}}
noncomputable abbrev lvH:List (Pj×PySem.W.WData):=[("FREE",PySem.W.WData.tuple [Wb 0,Wb 40])]
noncomputable abbrev loH:List Pj:=["BadSums","BadBounds","BadNumber","FREE","free","Net"]
abbrev hkH:=PySem.W.kHook KH aH eH
def xtH(s:OB):Bool:=PySem.W.xlAt qH lvH s&&PySem.W.recOk (PySem.W.RowW.records (QW (Rg Pi))) s
noncomputable abbrev pH:Pc:=Wh (QW (Rg Pi))
noncomputable def R_:List Qe:=PySem.W.behindTheImports pH
noncomputable def Yw:VJ:={scope:=pH.main.scope,locals:=mainNs,globals:=mainNs,cells:=[],code:=(.ref 13),frame:=(on 14)}
def cH:Code:= .body R_ Yw
noncomputable abbrev V_:List Frame:=[PySem.W.topFrame ⟨0,0,0,0⟩]
theorem opH(w:Pk):(PySem.W.fencedOpening QN pH w 6696).map (λs=>(s.heap,s.gens,s.drawn,s.toks))=on (Yv w.params,#[],{},181):=by kernel_rfl
theorem szH(w:Pk):((Yv w.params).isNs QV&&(#[]:Array GenState).size==0,(Yv w.params).objs.size,(Yv w.params).nsMap QV "__annotations__")=(On,11,(on (.ref 6))):=by kernel_rfl
theorem r1H(w:Pk)(os:UT):PySem.W.topGo QN pH w 11 (on (.ref 6)) 12 ⟨Yv w.params,#[],{},181,os⟩ (XX pH)=on (⟨Zf w.params,#[],{},187,os⟩,⟨denote QN (.body R_ Yw),cH,⟨0,0,0,0⟩,V_⟩):=by kernel_rfl
theorem r2H(w:Pk)(os:UT):Tp QN pH w 11 (on (.ref 6)) 1 1 ⟨Zf w.params,#[],{},187,os⟩ (PySem.W.blockOf R_ Yw cH ⟨0,0,0,0⟩ V_)=on (.next,⟨Zf w.params,#[],{},187,os⟩,cH,⟨0,0,0,0⟩):=by kernel_rfl
theorem c1H(w:Pk)(os:UT):Tp QN pH w 11 (on (.ref 6)) 1 995 ⟨Zf w.params,#[],{},187,os⟩ (Uc (R_.take 6) Yw cH ⟨0,0,0,0⟩ V_)=on (.next,⟨k1H w.params,#[],{},299,os⟩,cH,⟨18,0,22,24⟩):=by kernel_rfl
theorem c2H(w:Pk)(os:UT):Tp QN pH w 11 (on (.ref 6)) 1 972 ⟨k1H w.params,#[],{},299,os⟩ (Uc ((R_.drop 6).take 25) Yw cH ⟨18,0,22,24⟩ V_)=on (.next,⟨k2H w.params,#[],{},468,os⟩,cH,⟨110,0,110,4⟩):=by kernel_rfl
theorem c3H(w:Pk)(os:UT):Tp QN pH w 11 (on (.ref 6)) 1 980 ⟨k2H w.params,#[],{},468,os⟩ (Uc (((R_.drop 6).drop 25).take 17) Yw cH ⟨110,0,110,4⟩ V_)=on (.next,⟨k3H w.params,#[],{},692,os⟩,cH,⟨240,0,241,76⟩):=by kernel_rfl
theorem c4H(w:Pk)(os:UT):Tp QN pH w 11 (on (.ref 6)) 1 342 ⟨k3H w.params,#[],{},692,os⟩ (Uc ((((R_.drop 6).drop 25).drop 17).take 12) Yw cH ⟨240,0,241,76⟩ V_)=on (.next,⟨YS w.params,#[],{},783,os⟩,cH,⟨304,0,333,170⟩):=by kernel_rfl
theorem e0H:((((R_.drop 6).drop 25).drop 17).drop 12)=[]:=by kernel_rfl
theorem r9H(w:Pk)(os:UT):Yh QN pH w 11 (on (.ref 6)) 2 ⟨YS w.params,#[],{},783,os⟩ ⟨PySem.W.doneF .next,cH,⟨304,0,333,170⟩,V_⟩=on ⟨YS w.params,#[],{},783,os⟩:=by kernel_rfl
theorem rnH(w:Pk)(os:UT):Yh QN pH w 11 (on (.ref 6)) (12+(1+(995+(972+(980+(342+2)))))) ⟨Yv w.params,#[],{},181,os⟩ (XX pH)=on ⟨YS w.params,#[],{},783,os⟩:=PySem.W.go_top (r1H w os) (PySem.W.piece_block (r2H w os) (j7 6 (c1H w os) (j7 25 (c2H w os) (j7 17 (c3H w os) (j7 12 (c4H w os) (DG e0H (r9H w os)))))))
theorem hlH:PySem.W.LeftO pH qH loH xtH (PySem.W.Hook.obs hkH) (PySem.W.Hook.val hkH) 6696:=PySem.W.LeftO.of_pieces (H₀:=Yv) (H₁:=YS) opH szH rnH (by decide +kernel) λw=>by kernel_rfl
theorem wsH:PySem.W.OpenLaw.wellSaid Pi=On:=by decide +kernel
theorem okH:(PySem.W.chainsOk qH&&PySem.W.opensWell (Wh (QW (Rg Pi)))&&(PySem.W.frees (QW (Rg Pi))&&(PySem.W.RowW.within (QW (Rg Pi))).isEmpty))=On:=by decide +kernel
abbrev adH:Ad:={Aa:=38,Ab:=35,Ac:=fD b35,Ae:=344,Af:=146,Ag:=fD FX,Ah:=151,Ai:=fD FW,Aj:=158,Ak:=fD FV,Al:=163,Am:=fD FU,An:=170,Ao:=fD FT,Aq:=177,Ar:=fD FS,As:=182,At:=fD FR,Au:=187,Av:=fD FQ,Aw:=192,Ax:=fD FP,Ay:=197,Az:=fD FO,A0:=202,A1:=fD FM,A2:=207,A3:=fD FK,A4:=212,A5:=fD FJ,A6:=219,A7:=fD FI,A8:=226,A9:=fD FH,Ba:=233,Bb:=fD FG,Bc:=238,Bd:=fD FF,Be:=243,Bf:=fD FE,Bh:=248,Bi:=fD FC,Bj:=255,Bk:=fD FA,Bl:=260,Bm:=fD EZ,Bn:=353,Bo:=fD EU,Bp:=360,Bq:=fD ET,Br:=365,Bs:=fD ES,Bt:=370,Bu:=fD ER,Bv:=377,Bw:=fD EQ,Bx:=382,By:=fD EO,Bz:=387,B0:=fD EN,B3:=392,B4:=fD EM,B5:=397,B7:=fD EL,B8:=404,Ca:=fD EK,Cb:=409,Cc:=fD EJ,Cd:=414,Cf:=fD EI,Cg:=419,Ch:=fD EH,Ci:=424,Cj:=fD EG,Ck:=431,Cl:=fD EF,Cm:=438,Cn:=fD EE,Co:=445,Cp:=fD ED,Cq:=452,Cr:=fD EC,Cs:=457,Ct:=fD EB,Cu:=275,Cv:=fD EY,Cw:=334,Cy:=fD EV,Cz:=315,C0:=fD EX,C2:=322,C3:=fD EW,C4:=462,C5:=fD EA}
section
variable{P:Wg}{h:P4}{mg:Pj->Option Ov}
theorem fH{x q:Pj}{s:Qe}{f:Oq}{a b d e cd ct:Ov}{g:Option Oq}(l:(KH P).lookup f=on (fO (FN x q s a b d e g cd ct)):=by kernel_rfl)(c:Tl (KH P) cd q=On:=by kernel_rfl)(k:Uo (KH P) (.ref f)=On:=by kernel_rfl):d5 (KH P) x q s f (FN x q s a b d e g cd ct):=JO l c k
theorem mO(X:(KH P).In h)(G:h.Ns QV mg){n:Pj}{v:Ov}(e:PySem.W.nsIn (KH P) QV n=on (on v):=by kernel_rfl):mg n=on v:=mg_of X G e
theorem mN(X:(KH P).In h)(G:h.Ns QV mg){n:Pj}(e:PySem.W.nsIn (KH P) QV n=on Oi:=by kernel_rfl):mg n=Oi:=PySem.W.mg_none_of X G e
theorem nH(X:(KH P).In h)(G:h.Ns QV mg):x0 (KH P) mg adH where
 C6:=mN X G
 C7:=mN X G
 C8:=mN X G
 C9:=mN X G
 Da:=mN X G
 Db:=mN X G
 Dc:=mN X G
 Dd:=mN X G
 Df:=mN X G
 Dg:=mN X G
 Dh:=mN X G
 Di:=mN X G
 Dj:=mN X G
 Dl:=mN X G
 Dm:=mN X G
 Do:=mN X G
 Dp:=mN X G
 Dq:=mN X G
 Dr:=pL (u:=(.int 40 353)) (mO X G) lX
 Dt:=pL (u:=(.int 6 357)) (mO X G) lX
 Du:=pL (u:=(.int 4 355)) (mO X G) lX
 Dv:=pL (u:=(.int 500 466)) (mO X G) lX
 Dw:=fH
 Dx:=mO X G
 Dy:=LV (us:=[(.ref 140)]) 2 rfl (λs us a b=>by obtain⟨c,d,rfl⟩:=ZS b;exact PySem.W.kp_binds a λS=>by kernel_rfl) (JT (IH (p:=140) (q1:=(.type "tuple")) (q2:=Oi) (q3:=#[(.int 0 359),(.int 40 353)]) (q4:=0) (q5:=#[]) (by kernel_rfl) rfl (by decide) (by repeat (first|exact trivial|refine⟨rfl,?_⟩))) LT)
 Dz:=fH
 D0:=mO X G
 D3:= .all (PC λ_ _=>rfl)
 D4:=fH
 D5:=mO X G
 D6:= .all (s9 λ_=>rfl)
 D7:=fH
 D8:=mO X G
 D9:= .all (sA λ_ _ _=>rfl)
 Ea:=fH
 Eb:=mO X G
 Ec:= .all (s9 λ_=>rfl)
 Ed:=fH
 Ee:=mO X G
 Ef:= .all (s9 λ_=>rfl)
 Eg:=fH
 Eh:=mO X G
 Ei:= .all (sA λ_ _ _=>rfl)
 Ej:=fH
 Ek:=mO X G
 El:= .all (PC λ_ _=>rfl)
 Em:=fH
 En:=mO X G
 Eo:= .all (Zj λ_ _ _ _=>rfl)
 Ep:=fH
 Er:=mO X G
 Es:= .all (sA λ_ _ _=>rfl)
 Et:=fH
 Eu:=mO X G
 Ev:= .all (Zj λ_ _ _ _=>rfl)
 Ew:=fH
 Ex:=mO X G
 Ey:= .all (sA λ_ _ _=>rfl)
 Ez:=fH
 E2:=mO X G
 E3:= .all (s9 λ_=>rfl)
 E4:=fH
 E5:=mO X G
 E6:= .all (sA λ_ _ _=>rfl)
 E7:=fH
 E8:=mO X G
 E9:= .all (s9 λ_=>rfl)
 Fa:=fH
 Fb:=mO X G
 Fc:= .all (sA λ_ _ _=>rfl)
 Fd:=fH
 Fe:=mO X G
 Ff:= .all (Zj λ_ _ _ _=>rfl)
 Fg:=fH
 Fh:=mO X G
 Fi:= .all (PC λ_ _=>rfl)
 Fj:=fH
 Fk:=mO X G
 Fl:= .all (sA λ_ _ _=>rfl)
 Fm:=fH
 Fn:=mO X G
 Fo:= .all (sA λ_ _ _=>rfl)
 Fp:=fH
 Fq:=mO X G
 Fs:= .all (sA λ_ _ _=>rfl)
 Ft:=fH
 Fu:=mO X G
 Fv:= .all (s9 λ_=>rfl)
 Fw:=fH
 Fy:=mO X G
 Fz:= .all (PC λ_ _=>rfl)
 F4:=fH
 F5:=mO X G
 F6:= .all (PC λ_ _=>rfl)
 F7:=fH
 F8:=mO X G
 F9:= .all (Zj λ_ _ _ _=>rfl)
 Ga:=fH
 Gb:=mO X G
 Gc:= .all (s9 λ_=>rfl)
 Gd:=fH
 Ge:=mO X G
 Gf:= .all (s9 λ_=>rfl)
 Gg:=fH
 Gh:=mO X G
 Gi:= .all (s9 λ_=>rfl)
 Gj:=fH
 Gk:=mO X G
 Gm:= .all (s9 λ_=>rfl)
 Gn:=fH
 Go:=mO X G
 Gp:= .all (PC λ_ _=>rfl)
 Gq:=fH
 Gr:=mO X G
 Gs:= .all (PC λ_ _=>rfl)
 Gu:=fH
 Gv:=mO X G
 Gx:= .all (s9 λ_=>rfl)
 Gy:=fH
 Gz:=mO X G
 G0:= .all (sA λ_ _ _=>rfl)
 G1:=fH
 G2:=mO X G
 G3:= .all (PC λ_ _=>rfl)
 G4:=fH
 G5:=mO X G
 G6:= .all (sA λ_ _ _=>rfl)
 G7:=fH
 G8:=mO X G
 G9:= .all (s9 λ_=>rfl)
 Ha:=fH
 Hb:=mO X G
 Hc:= .all (s9 λ_=>rfl)
 Hd:=fH
 He:=mO X G
 Hf:= .all (s9 λ_=>rfl)
 Hg:=fH
 Hh:=mO X G
 Hi:= .all (PC λ_ _=>rfl)
 Hj:=fH
 Hk:=mO X G
 Hl:= .all (sA λ_ _ _=>rfl)
 Hm:=fH
 Hn:=⟨by kernel_rfl,by kernel_rfl,by kernel_rfl,by kernel_rfl⟩
 Ho:=NU (sv:=[.kw 0]) (.kw .nil) rfl (by decide) λs us g a e f=>by obtain⟨c,d,i,rfl⟩:=ZR e;obtain⟨j,rfl⟩:=ZT f;exact .of_eq rfl
 Hq:=fH
 Hr:=⟨by kernel_rfl,by kernel_rfl,by kernel_rfl⟩
 Ht:= .all (sA λ_ _ _=>rfl)
 Hu:=fH
 Hv:=⟨by kernel_rfl,by kernel_rfl,by kernel_rfl⟩
 Hw:= .all (sA λ_ _ _=>rfl)
 Hx:=fH
 Hy:=⟨by kernel_rfl,by kernel_rfl,by kernel_rfl⟩
 Hz:= .all (s9 λ_=>rfl)
 Ia:=⟨by kernel_rfl,by kernel_rfl,by kernel_rfl,by kernel_rfl⟩
 Ib:=mO X G
 Id:=show SU (KH P) _ _=_ by kernel_rfl
 Ie:=show SU (KH P) _ _=_ by kernel_rfl
 Ig:=show SU (KH P) _ _=_ by kernel_rfl
 Ih:=show SU (KH P) _ _=_ by kernel_rfl
 Ii:=fH
 Ij:= .all (sA λ_ _ _=>rfl)
 Ik:=mO X G
 Il:=⟨by kernel_rfl,by kernel_rfl,by kernel_rfl,by kernel_rfl⟩
theorem wlkH:PySem.W.WalkO qH loH (PySem.W.XL qH lvH) (PySem.W.Hook.says hkH) (QW (Rg Pi)) (Option.get (PySem.W.defOf qH "law") rfl).1 [] (λf vs=>XB f vs):=
 L2.walk_of (n:=63) (k:=9) (x:="_law_script") (CX:=λw=>hO _ w) (sp:=λw=>GX (KH w.params)) rfl (by decide) rfl ⟨rfl,by decide,by decide,rfl⟩ (λw h Y=>PySem.W.kIn_of Y) (λw mg i h c G b=>by
  have e:=b.symm.trans (mg_of c G (v:= .ref 462) (by kernel_rfl));cases e;exact⟨FN "law" "law" (dq 59) .none .none .none (.str "law_edgetally_k18_counts_and_steps" 633) Oi (.ref 461) .none,λs v=> .of_eq rfl,λbase _ _=>Lf _ _ _ (a:=adH) (fH (by kernel_rfl) (by kernel_rfl) (by kernel_rfl)) (nH c G) λβ ok=>CT (K:=KH w.params) (a:=adH)  β ok⟩) (λ_ _ a ns d _ g=>⟨a,ns,rfl,g,d,λ_=>rfl⟩) λ_ _ _ _ _ h=>by obtain⟨x,C,j,_,fl⟩:=h;obtain⟨_,_,z⟩:=fl.wish;all_goals exact z
end
end Law
open PySem PySem.W PyProof.Rows
set_option maxHeartbeats 0 in
theorem PySem.Challenge.cw_edgetally_k18_counts_and_steps_holds : PySem.Challenge.rw_edgetally_k18_counts_and_steps.Holds := by
 w_on
 refine holds_law Law.wsH λsaid=>?_;refine holds_open (q:=Law.qH) (loose:=Law.loH) (Xt:=Law.xtH) (XP:=XL Law.qH Law.lvH) (Yf:=Hook.obs Law.hkH) (Ya:=Hook.val Law.hkH) (YP:=Hook.says Law.hkH) (N:=6696) Law.hlH (Hook.of Law.hkH) (Hook.keeps Law.hkH) (λs e=>xl_of s (Xe.mp e).1) XL.keeps (by rfl) (by rfl) (by rfl) (λs e=>recFacts_of (Xe.mp e).2) (by rfl) said Law.okH ⟨rfl,rfl,rfl,rfl,rfl,by decide +kernel⟩ ?hw ?hc
 case hw=>w_witness2
 exact Law.wlkH
