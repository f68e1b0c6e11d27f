import PyProof.Rows.All
import Wide.All
import OpenK.AllK
import Wide.FinOn
import Lean
import PyProof.EqAt
import PyProof.EqKinds
import PyProof.TupleCall
import PyProof.NsDelKeeps
import PyProof.ListRange
import PyProof.ExcArgsOwn
import PySem.Challenge.RW_edgetally_k18_counts_and_steps
set_option Elab.async false
set_option linter.all false
set_option genSizeOf false
set_option compiler.extract_closed false
set_option bootstrap.genMatcherCode false
set_option maxHeartbeats 8000000
set_option maxRecDepth 100000
noncomputable section
open And renaming intro->WH
open Array renaming length_toList->Pe,getElem?_eq_some_iff->Px,getElem?_eq_none->Q9,getElem_toList->Rq,getD->Rx,getElem?_toList->RX,getElem?_eq_getElem->Se,forIn_toList->SB,getElem?_extract->WA,getElem?_push->Xg,append_assoc->Xp,size_extract->Xq,toList_push->XN
open Bool renaming true->Oq,false->Ov,false_ne_true->OH,false_eq_true->OW,and_eq_true->Pc,not_true->Re,true_and->S8,eq_iff_iff->Tl,false_and->TL,and_self->Uh,not_false->UQ,and_eq_true_iff->Xh
open Classical renaming byContradiction->Ri
open Except renaming ok->Q3
open False renaming elim->Rj
open ForInStep renaming yield->Uj
open Function renaming comp->TN
open Int renaming toNat_natCast->P3,zero_add->SU,emod_nonneg->Tq,emod_lt_of_pos->TX,fdiv_eq_ediv_of_nonneg->TY,natCast_add->UL,natAbs_natCast->Vh,le_refl->Xv
open List renaming length_map->Ol,getD_eq_getElem?_getD->Op,getElem?_eq_getElem->Os,mem_cons_of_mem->Ot,getElem?_map->Ox,mem_cons_self->Oz,map_map->OA,range->OB,mem_map->OF,getElem?_eq_some_iff->OI,map_cons->OJ,mem_cons->ON,length_append->OQ,length_cons->OR,mem_of_getElem?->OT,size_toArray->OU,mem_range->OY,length_range->OZ,replicate->O0,map_congr_left->O5,sum_cons->O6,mem_singleton->O9,map_append->Pg,append_nil->Pi,getElem_mem->Pr,mem_append_right->Pt,nodup_cons->Pw,getElem?_range->Pz,length_singleton->PL,flatMap_cons->PM,map->PR,mem_flatMap->PY,append_assoc->PZ,drop_eq_getElem_cons->Qa,length_set->Qc,mem_append->Qd,not_mem_nil->Qe,length_take->Qi,take_length->Ql,getElem?_set->Qm,sum->Qt,filterMap_cons->Qu,replicate_succ->Qv,length_replicate->Qz,ext_getElem->QG,getElem?_append_right->QJ,flatMap_append->QL,mem_or_eq_of_mem_set->QS,map_flatMap->QV,mem_replicate->QW,zip_cons_cons->QX,getElem?_replicate->Q4,nil_append->Q6,take_of_length_le->Rb,getElem_map->Rh,take_append_drop->Rm,pairwise_iff_getElem->Ro,find?_cons->Rr,range_succ->Rt,flatten_cons->Rv,mem_append_left->Rw,map_drop->Rz,drop_eq_nil_of_le->RG,getElem_range->RH,map_nil->RI,map_replicate->RJ,forIn_cons->RV,forIn_nil->R9,all_eq_true->Sf,cons_append->Sg,exists_cons_of_length_eq_add_one->Sh,length_drop->Si,getElem?_append_left->Sv,length_zip->SD,mem_filter->SE,pairwise_cons->SH,flatMap_eq_nil_iff->SJ,pairwise_singleton->SK,getElem?_eq_none->SY,drop_length->S4,filter_cons->S5,flatMap_map->S6,any_cons->Tc,lookup->Tg,map_set->Tz,zipWith->TC,getElem?_drop->TR,mem_filterMap->TU,getElem?_eq_none_iff->T6,length->Ua,nodup_append->Ub,pairwise_map->Uc,reverse_cons->Ud,all_cons->Uk,flatMap_nil->Uv,length_eq_zero_iff->Uw,lookup_cons->Ux,length_pos_of_mem->UD,of_mem_zip->UI,getElem?_toArray->UN,getElem?_append->UT,map_id->UU,mem_of_mem_take->UV,filter_sublist->U5,getElem_of_mem->U6,length_zipWith->U7,map_take->Vb,map_inj_right->Vg,filter_congr->Vs,zip_nil_left->Vt,any_eq_true->VA,nodup_range->VB,filter_map->VQ,length_nil->VR,sum_append->VS,nodup_nil->Wa,take_zero->Wb,getElem?_take_of_lt->Wt,getElem?_cons_succ->WC,any_map->WL,filter_eq_nil_iff->WM,flatMap->WN,getElem?_set_self->WO,range_succ_eq_map->WP,dropLast_eq_take->WS,getElem?_zipWith->WT,length_filter_le->WU,getElem?_set_ne->Xk,getElem_reverse->Xl,filter_flatMap->Xw,length_reverse->Xx,filterMap_map->XS,filter_append->XT,foldl->XU,any_eq_false->Ye,ext_getElem?->Yg,map_dropLast->Yh,take_add_one->Yi
open List.Pairwise renaming nil->UH
open List.Perm renaming of_eq->Vi
open List.Sublist renaming refl->UM
open List.cons renaming injEq->RB
open Max renaming max->WQ
open Min renaming min->RP
open Nat renaming le_refl->OG,le_trans->OS,lt_of_lt_of_le->O3,ne_of_lt->Ps,lt_irrefl->PH,zero_le->PX,lt_of_le_of_lt->Qo,zero_add->QN,not_lt_zero->Q7,ne_of_gt->Rf,le_add_right->RC,mul_comm->RM,lt_succ_of_lt->R7,lt_trichotomy->R8,mul_left_comm->SV,mul_assoc->Th,mul_le_mul_right->Tj,pow_le_pow_right->Tk,le_of_lt->TF,lt_trans->TH,le_succ->Ul,add_sub_cancel_left->UA,le_mul_of_pos_right->UB,sub_self->UJ,add_comm->Vw,lt_or_ge->Vx,lt_succ_self->VG,min_le_right->VH,div_le_self->VY,add_le_add->Wh,mod_lt->Wj,div_div_eq_div_mul->WV,min_self->WW,sub_zero->WX,zero_mul->WY,add_mul->Xy,add_le_add_left->XW
open Option renaming some->on,none->Om,map_some->QO,bind_some->Rc,map_eq_some_iff->Uy,isSome_iff_exists->Wc,getD_none->XX
open Option.some renaming inj->Pb,injEq->Wu
open Or renaming inl->Q1,inr->Sj
open Prod renaming ext->RW,ext_iff->Sk
open Pure renaming pure->QU
open PyProof renaming noPylong_of_log2->VZ
open PyProof.Rows renaming callWith_type1->Qj,seqObj->Q8,slot_tuple_getitem->SA,listUpdate_at->SN,envOfC->SW,AllBare->T8,subscriptTail_builtinR->U1,IntsAre->WK,subscriptTail->XI
open PyProof.Rows.IsTup renaming new->Yd
open PySem renaming wpAny_bind->My,wpAny_pure->On,Addr->Ou,Value->Oy,Shared->OD,wpAny->OK,starEach->OM,sizeLine->OV,model->O7,FuncData->O8,Obj->Pa,Program->Pf,wpAny_call_entry->Ph,wpAny_newObj_type->Pk,Str->Pn,World->Po,foldedSetIterable->PD,wpAny_mono->PP,SetTable->PQ,Around->PV,eval->P0,wpAny_holding->P4,Heap->P5,compareOp->P7,wpAny_truthy_bool->P8,wpAny_field->Qb,Stmt->Qg,mem_of_lookup->Qh,wpAny_setField_rec->Qk,sizeLine_eq->Qr,Comprehension->Qs,cellsFrom->Qy,wpAny_setState_of->QB,wpAny_seqItems->QE,keywordEach->QH,wpAny_isInstance->QI,treeTable->QR,mainGlobals->QY,backTo->Q0,DictEntry->Q2,wpAny_standAt->Q5,wpAny_specialOf->Rg,binaryOp->Ru,wpAny_comprehension_free->RE,IsPair->RK,backToKw->RN,firstArgMember->RO,wpAny_setField->RQ,wpAny_typeNameOfWhole_itemiter->RT,wpAny_of_eq->R0,wpAny_typeNameOfWhole_keyiter->R1,rawInt->R4,wpAny_rule->R5,wpAny_attempt->Sb,pyNext->Sd,standAt->Sm,wpAny_dictEntries->Ss,NameKind->Sx,sliceBounds->Sz,bootBuiltins->SF,wpAny_typeNameOf_itemiter->SI,attributeBase->SM,wpAny_typeNameOf_keyiter->SO,codeAny->SQ,holding->SR,wpAny_dictEpoch->SS,isSubtype_type->Td,wpAny_fieldsOf->Te,wpAny_pyIter_slot->Tf,swapsWith->Tv,sysModules->Tw,wpAny_askSetting->Tx,behindInMarks->TD,Pos->TK,Paired->TZ,assign->T1,codeAny_builtin->T3,letOwnedTupleGo->T4,wpAny_passesOwn->T5,cLine->T7,codeAny_mono->Ug,IsItemIter->Uo,Fin->Ur,wpAny_Call_Name_kw->Ut,IsZip->UC,wpAny_pyIter_list->UG,getMethod->UO,wpAny_forIn_list->UP,OsState->UW,assignEach->UX,intKind->UY,pyIter->UZ,wpAny_isOneOf_itemiter->U2,wpAny_pyIter_rangeiter->U3,wpAny_typeOf->U4,builtinLookup_eq_fast->Vd,isSubtype_tuple_tuple->Ve,Within->Vj,isSubtype_stop->Vm,setField->Vn,wpAny_updateSeq_pair->Vo,BindsTo->Vp,Keyword->Vr,wpAny_setEntries_of->Vy,again->VC,plainId_quiet->VD,wpAny_handled->VE,wpAny_onRaise->VF,call->VI,isInstance->VJ,wpAny_pyIter_tuple->VL,wpAny_tupleItemsOf->VM,Env->VN,atKey->V0,callerA->V1,ofAClassStatement->V2,searchCouldBeSeen->V4,wpAny_assign_Name->V5,IsPart->Wg,Params->Wl,newExc->Wn,noFill_tuple_add->Wo,pickOrder->Wp,Draws->Wq,IsRangeIter->Ws,wpAny_letGo->Wx,wpAny_throw->Wz,typeLookup_type->WF,wpAny_execs_nil->WG,PyData->WZ,builtinsNs->W3,callWith->W4,call_meets->W5,compPost->W7,entryFor_alias->W8,intItems->W9,newFunctionEnv->Xb,raiseNew->Xc,wpAny_newTuple->Xe,wpAny_runValue->Xf,call->XF,evalPart_none->XG,seq_tuple_add->XH,wpAny_getItem_list_slice->XJ,wpAny_newList->XM,list_append->X2,bindC->X4,bindL->X5,eqIsQuiet->X6,field->X7,lastMarks->X8,slicePick->X9,getItem->Yn,seqIndex_neg->Yr,wpAny_Call_method_late->Ys,wpAny_pyNext_range_end->Yt
open PySem.Around renaming under_plainId->S3,under->Vf
open PySem.Builtin.Dict renaming showsAll->SC
open PySem.Builtin.Dict_items renaming ownsTuple->QP,ownedTupleFields->TV,ownedTupleIsFree->TW,pairFromOwner->Ui
open PySem.Builtin.Int renaming intBits->V6
open PySem.Builtin.List renaming listExtendWith->RA,listSameRef->R6,listTooLong->Tp,listLengthHint->U8,listTouch->Vz
open PySem.Builtin.Range renaming rangeFitsLong->P9,rangeSize->Vq
open PySem.Builtin.Slice renaming slicePlaces->RU,sliceAdjust->S9,sliceApplied->U9
open PySem.Builtin.SmallTypes renaming nextOf->QC,ownedTupleIsFree->QT,ownedTupleHandOut->TM,refuseKeywords->T9
open PySem.Builtin.Tuple renaming tupleExact->R3,tupleHashOf->Ta,tupleItemsOf->Va
open PySem.Calls renaming callWith_builtin->Uz,Name_function_global->VV,call_function_entry->V7,evalArgs_plain->WR,spliced_cons->Xr,spliced_nil->XO
open PySem.Challenge renaming rw_edgetally_k18_counts_and_steps->Pl
open PySem.Code renaming isFrame->WI
open PySem.Draws renaming list->Xs
open PySem.F renaming slot_list_append->Qw,type_list_append->Qx,slot_dict_itemiterator_next->QA,plainAttrs_list->QD,slot_dict_keyiterator_next->Ra,slot_tuple_iterator_next->Su,args_tuple_add_2->T0,entry_tuple_add->Ue,slot_tuple_add->Uq,plain_list_iadd->Uu,slot_zip_next->UR,args_dict_itemiterator_next_1->VO,args_dict_keyiterator_next_1->VW,entry_dict_itemiterator_next->VX,entry_dict_keyiterator_next->V8,slot_dict_itemiterator_iter->V9,plainAttrs_dict->Wd,args_tuple_iterator_next_1->Wf,entry_tuple_iterator_next->Wr,slot_dict_get->Wv,slot_dict_items_iter->Xu,entry_proto_collect->XQ,plain_proto_collect->XR,args_list_append_2->Yb
open PySem.Heap renaming get?_push_of_some->Oo,get?_push_size->OL,lt_size->O1,SameBut->Pd,size_push->Qn,get?_update_ne->QK,get?_update_self->Rl,ExtBut->US,get?_update_other->WJ,get?_none_of_le->Xi,get?_push_ne->Yc
open PySem.Heap.IsSliceOf renaming new->VP
open PySem.Heap.SameBut renaming update->Qf
open PySem.IntMulOk renaming of_bits->Xj
open PySem.IsTupleKey renaming typeIs->WB
open PySem.Manifest renaming find?->XV
open PySem.NameKind renaming free->Rp,cell->VT
open PySem.Obj renaming mapSeq->P6,data_mapFields->Qp,isFreed_of_fields->S7,cls_mapFields->Um,putSet->UK,mapFields->WD
open PySem.P renaming add_list->Xz
open PySem.PyData renaming eqv->RF,canLayAll0->RY,eqvAll->SZ,depthAll->Ti
open PySem.SeqAt renaming shaped->Vk
open PySem.SetTable renaming fits->VU,fresh->X3
open PySem.Str renaming ofString->Qq,empty->Sw
open PySem.Value renaming ref->OP,none->Pj,type->Ry,int->Sc,bool->Vc,isInt_shape->Vl,isInt->W2,str->Yl
open PySem.W renaming Frag->OX,fnOf->SL,findIn->SX,codeIn->Ts,segRun->Tt,emptyDict->Tu,piecesOf->Uf,keepIn->Us,kia_one->UE,kia_tup->UF,instObj->Vu,kitx_list->Vv,methodCall_KW->Ww,callWith_K->W0,of_hideAll->W1,cellsFrom_some->W6,kitx_tuple->Xa,topFrame->Xd,kitx_bool->Xm,kitx_none->Xn,plainOver->Xo,handedIn->XA,kitx_int->XB,kitx_own->XD,kitx_str->XE,makesIn->XZ,takesIn->X0,topStub->X1,kitAny->Yj,topRun->Yk,hideAll->Yo,hideAll_none->Yp
open PySem.W.OpenLaw renaming row->Rk
open PySem.W.OpenRow renaming toRowW->QZ
open PySem.W.RowW renaming prog->Wm
open PySem.W.WData renaming int->We
open PySem.pickOrder renaming go->V3
open True renaming intro->Sa
abbrev OC:=@if_neg
abbrev OE:=@if_pos
abbrev OO:=@decide_eq_true
abbrev O4:=@absurd
abbrev Pp:=@decide_eq_false
abbrev Pq:=@decide_eq_true_eq
abbrev Py:=@congrArg
abbrev PF:=@if_false
abbrev PN:=@if_true
noncomputable abbrev PU:=@of_decide_eq_true
abbrev RZ:=@bne_self_eq_false
abbrev Sy:=@beq_iff_eq
abbrev SG:=@or_false
abbrev WE:=@beq_eq_false_iff_ne
abbrev Ym:=@beq_self_eq_true
abbrev Yq:=@not_or
open PySem.W (Frag instObj methodObj hideAll hideAll_get hideAll_none lookIn plainGet hasDictIn findIn plainGet_of isFn takerIn emptyDict keepIn specialIn kitOne kia_one kitx_list kitx_tuple cellsFrom_some mg_of kia_tup)
abbrev LI:=List (List Int)
abbrev LP:=List (List (Int×Int))
--CHANGE:your row's module here,as the last of these ba
namespace L2
open PySem PySem.Spec PyProof.Rows
inductive V where
 |non|bl (b:Bool)|int (i:Int)|str (x:Pn)|ref (a:Ou)|ty (n:String)
 deriving DecidableEq
def aI:V->Oy->Prop
 | .non,u=>u=Pj
 | .bl b,u=>u=Vc b
 | .int i,u=>∃t,u=Sc i t
 | .str x,u=>∃t,u=Yl x t
 | .ref a,u=>u=OP a
 | .ty n,u=>u=Ry n
abbrev au:List V->List Oy->Prop:=TZ aI
theorem au.length{xs:List V}{us:List Oy}(r:au xs us):xs.length=us.length:=Paired.length r
theorem au.get:∀{xs:List V} {us:List Oy} {i:Nat} {x:V},au xs us->xs[i]?=on x->∃u,us[i]?=on u/\aI x u
 |_,_,_,_,.nil,e=>by simp at e
 |_,_,0,_,.cons r _,e=>by simp at e;subst e;exact⟨_,rfl,r⟩
 |_,_,i+1,x,.cons _ t,e=>by
  obtain⟨u,a,b⟩:=au.get (i:=i) (x:=x) t (by simpa using e);exact⟨u,by simpa using a,b⟩
theorem au.set(r:aI x u):∀{xs:List V} {us:List Oy} (i:Nat),au xs us->au (xs.set i x) (us.set i u)
 |_,_,_,.nil=> .nil
 |_,_,0,.cons _ t=> .cons r t
 |_,_,i+1,.cons q t=> .cons q (au.set r i t)
theorem au.append:∀{xs ys:List V} {us a:List Oy},au xs us->au ys a->au (xs++ys) (us++a)
 |_,_,_,_,.nil,s=>s
 |_,_,_,_,.cons r t,s=> .cons r (au.append t s)
theorem au.take:∀{xs:List V} {us:List Oy} (n:Nat),au xs us->au (xs.take n) (us.take n)
 |_,_,0,_=> .nil
 |_,_,_+1,.nil=> .nil
 |_,_,n+1,.cons r t=> .cons r (au.take n t)
theorem au.drop:∀{xs:List V} {us:List Oy} (n:Nat),au xs us->au (xs.drop n) (us.drop n)
 |_,_,0,r=>r
 |_,_,_+1,.nil=> .nil
 |_,_,n+1,.cons _ t=>au.drop n t
def gG:Option V->Option Oy->Prop
 |some v,on u=>aI v u
 |none,Om=>True
 |_,_=>False
inductive HO where
 |lst (xs:List V)
 |tup (xs:List V)
 |ins (C dx:Ou) (fs:List (Pn×V))
 |own (x:Ou)
 |xd (fs:List (Pn×V))
 |met (f x:Ou)
 |rng (lo hi:Int)
 |frz (o:Pa) (u:HO)
 |tbl (ps:Array Oy)
 |ext (φ:P5->Prop)
abbrev Hp:=Ou->Option HO
noncomputable def upd(H:Hp)(a:Ou)(o:HO):Hp:=λb=>if b=a then on o else H b
theorem aj:upd H a o a=on o:=by unfold upd;rw[OE rfl]
theorem bt(h:b≠a):upd H a o b=H b:=by unfold upd;rw[OC h]
theorem NM{H:Hp}{a b:Ou}{o u:HO}(h:H a=on o)(h':H b=on u)(d:o≠u):a≠b:=by
 intro e;subst e;rw[h]at h';exact d (Pb h')
theorem ay{H:Hp}{a b:Ou}{o:HO}(h:H a=on o)(h':H b=Om):a≠b:=by
 intro e;subst e;rw[h]at h';cases h'
section
variable(P:Pf)(w:Po)
def bF(P:Pf)(w:Po)(H:Hp)(h:P5)(a:Ou):HO->Prop
 | .lst xs=>xs.length<=OV/\∃(its:List Oy) (n:Nat),au xs its/\h.get? a=on {cls:= .type "list",data:= .seq its.toArray n}
 | .tup xs=>xs.length<=OV/\∃its:List Oy,au xs its/\IsTup h a its.toArray
 | .ins C dx fs=>H dx=on (.own a)/\fs.length<=1000/\dx≠a/\h.get? a=on (Vu C dx)/\
   ∃b,h.Ns1 dx b/\(∀f,gG (fs.lookup f) (b f))/\Vj b (fs.map (·.1))
 | .own _=>∃o,h.get? a=on o
 | .xd fs=>∃b,h.Ns1 a b/\∀f,gG (fs.lookup f) (b f)
 | .rng lo hi=>∃t u v,h.get? a=on {cls:= .type "range",data:= .fields #[.int lo t,.int hi u,.int 1 v]}
 | .frz o u=>h.get? a=on o/\bF P w H h a u
 | .tbl ps=>h.get? a=on {cls:= .none,data:= .fields ps}
 | .met f x=>h.get? a=on (methodObj (.ref f) (.ref x))
 | .ext φ=>φ h/\(∃o,h.get? a=on o)/\∀c d:P5,φ c->(∀o,c.get? a=on o->d.get? a=on o)->φ d
def lp(H:Hp)(h:P5):Prop:=∀a o,H a=on o->bF P w H h a o
end
section
variable{P:Pf}{w:Po}{H H':Hp}{h h':P5}{a:Ou}{o:HO}
theorem bF.lt(x:bF P w H h a o):a<h.objs.size:=by
 cases o with
 |lst xs=>obtain⟨_,_,_,_,e⟩:=x;exact O1 e
 |tup xs=>obtain⟨_,_,_,p⟩:=x;exact p.lt
 |ins C dx fs=>obtain⟨_,_,_,e,_⟩:=x;exact O1 e
 |own y=>obtain⟨_,e⟩:=x;exact O1 e
 |xd fs=>obtain⟨_,⟨_,_,_,e,_⟩,_⟩:=x;exact O1 e
 |rng lo hi=>obtain⟨_,_,_,e⟩:=x;exact O1 e
 |frz ob u=>obtain⟨e,_⟩:=x;exact O1 e
 |tbl ps=>exact O1 (show h.get? a=on _ from x)
 |met f y=>exact O1 (show h.get? a=on _ from x)
 |ext φ=>obtain⟨_,⟨_,e⟩,_⟩:=x;exact O1 e
theorem bF.stay(x:bF P w H h a o)(k:∀b u,(b=a\/H b=on (.own a))->h.get? b=on u->h'.get? b=on u)
  (l:∀b,H b=on (.own a)->H' b=on (.own a)) (A:∀b xs,H b=on (.tup xs)->H' b=on (.tup xs)):bF P w H' h' a o:=by
 induction o with
 |lst xs=>obtain⟨z,its,n,r,e⟩:=x;exact⟨z,its,n,r,k _ _ (.inl rfl) e⟩
 |tup xs=>obtain⟨z,its,r,g,e,c⟩:=x;exact⟨z,its,r,g,k _ _ (.inl rfl) e,c⟩
 |ins C dx fs=>
  obtain⟨d,z,ne,e,i,⟨j,es,ep,m,c⟩,r⟩:=x;exact⟨l _ d,z,ne,k _ _ (.inl rfl) e,i,⟨j,es,ep,k _ _ (.inr d) m,c⟩,r⟩
 |own y=>obtain⟨g,e⟩:=x;exact⟨g,k _ _ (.inl rfl) e⟩
 |xd fs=>obtain⟨i,⟨j,es,ep,e,c⟩,r⟩:=x;exact⟨i,⟨j,es,ep,k _ _ (.inl rfl) e,c⟩,r⟩
 |rng lo hi=>obtain⟨t,u,v,e⟩:=x;exact⟨t,u,v,k _ _ (.inl rfl) e⟩
 |frz g u ih=>obtain⟨e,q⟩:=x;exact⟨k _ _ (.inl rfl) e,ih q⟩
 |tbl ps=>
  have e:h.get? a=on {cls:= .none,data:= .fields ps}:=x;show h'.get? a=on {cls:= .none,data:= .fields ps};exact k a _ (.inl rfl) e
 |met f y=>
  have e:h.get? a=on (methodObj (.ref f) (.ref y)):=x;show h'.get? a=on (methodObj (.ref f) (.ref y));exact k a _ (.inl rfl) e
 |ext φ=>obtain⟨p,⟨o,e⟩,st⟩:=x;exact⟨st _ _ p λo q=>k _ _ (.inl rfl) q,⟨o,k _ _ (.inl rfl) e⟩,st⟩
theorem lp.lt(x:lp P w H h)(e:H a=on o):a<h.objs.size:=(x a o e).lt
theorem lp.fresh(x:lp P w H h)(e:h.objs.size<=a):H a=Om:=by
 cases q:H a with
 |none=>rfl
 |some u=>exact O4 (O3 (x.lt q) e) (PH _)
theorem lp.kept(x:lp P w H h)(k:∀b u,h.get? b=on u->h'.get? b=on u):lp P w H h':=λa o e=>
 (x a o e).stay (λb u _ q=>k b u q) (λ_ q=>q) λ_ _ q=>q
theorem lp.laid(x:lp P w H h)(k:∀b u,h.get? b=on u->h'.get? b=on u)(f:h.objs.size<=a)(new:bF P w (upd H a o) h' a o):lp P w (upd H a o) h':=λb u e=>by
 have hn:=x.fresh f;by_cases d:b=a
 .subst d;rw[aj]at e;cases e;exact new
 .rw[bt d]at e
  exact(x b u e).stay (λc v _ q=>k c v q) (λc q=>by rw[bt (ay q hn)];exact q) λc xs q=>by rw[bt (ay q hn)];exact q
def Rd(H:Hp)(a:Ou)(u:HO):Prop:=H a=on u\/∃o,H a=on (.frz o u)
theorem Rd.ok{P:Pf}{w:Po}{H:Hp}{h:P5}{a:Ou}(r:Rd H a u)(x:lp P w H h):bF P w H h a u:=by
 rcases r with r|⟨o,r⟩
 .exact x a u r
 .obtain⟨_,q⟩:=x a _ r
  exact q
def Zo:Option HO->Prop
 |some (.lst _)=>True
 |some (.ins _ _ _)=>True
 |some (.ext _)=>True
 |_=>False
variable{x e:Ou}{o':HO}
theorem lp.write(ok:lp P w H h)(mu:Zo (H x))(l:e=x\/H e=on (.own x))(k:∀b u,b≠e->h.get? b=on u->h'.get? b=on u)(j:∃u,h'.get? e=on u)
  (new:bF P w (upd H x o') h' x o'):lp P w (upd H x o') h':=λb u q=>by
 have f:∀c y,H c=on (.own y)->c≠x:=λc y r z=>by subst z;rw[r]at mu;exact mu
 have g:∀c xs,H c=on (.tup xs)->c≠x:=λc xs r z=>by subst z;rw[r]at mu;exact mu
 by_cases i:b=x
 .subst i;rw[aj]at q;cases q;exact new
 .rw[bt i]at q
  by_cases d:b=e
  .have m:H b=on (.own x):=by
    rcases l with z|z
    .exact O4 (d.trans z) i
    .rw[d];exact z
   rw[q]at m;cases m;obtain⟨v,n⟩:=j;exact⟨v,by rw[d];exact n⟩
  .refine(ok b u q).stay (λc v hc r=>k c v ?_ r) (λc r=>by rw[bt (f c b r)];exact r) λc xs r=>by rw[bt (g c xs r)];exact r
   rcases hc with rfl|hc
   .exact d
   .rintro rfl
    rcases l with z|z
    .exact f c b hc z
    .rw[hc]at z;cases z;exact i rfl
structure Un (fs ex:List Ou) (H H':Hp) (h h':P5):Prop where
 keep:∀b o,h.get? b=on o->H b=Om->b∉fs->b∉ex->h'.get? b=on o
 slot:∀b o,h.get? b=on o->H b=Om->b∈fs->b∉ex->∃sl,h'.get? b=on {o with slots:=sl}
 free:∀b o,h.get? b=on o->H b=Om->b∉ex->H' b=Om
 there:∀b o,h.get? b=on o->b∉ex->∃o',h'.get? b=on o'
 tups:∀b xs,H b=on (.tup xs)->H' b=on (.tup xs)
 frzs:∀b o u,H b=on (.frz o u)->H' b=on (.frz o u)
 tbls:∀b ps,H b=on (.tbl ps)->∃more,H' b=on (.tbl (ps++more))
variable{fs fs' ex ex':List Ou}{H1 H2:Hp}{h1 h2:P5}
theorem Un.any(u:Un fs ex H H1 h h1)(q:h.get? b=on ob)(n:H b=Om)(c:b∉ex):∃sl,h1.get? b=on {ob with slots:=sl}:=by
 by_cases d:b∈fs
 .exact u.slot b ob q n d c
 .exact⟨ob.slots,u.keep b ob q n d c⟩
theorem Un.trans(a:Un fs ex H H1 h h1)(b:Un fs ex H1 H2 h1 h2):Un fs ex H H2 h h2 where
 keep:=λc d q n i f=>b.keep c d (a.keep c d q n i f) (a.free c d q n f) i f
 slot:=λc d q n i f=>by
  obtain⟨sl,g⟩:=a.slot c d q n i f;obtain⟨j,k⟩:=b.slot c _ g (a.free c d q n f) i f;exact⟨j,k⟩
 free:=λc d q n f=>by
  obtain⟨o',g⟩:=a.there c d q f;exact b.free c o' g (a.free c d q n f) f
 there:=λc d q f=>by
  obtain⟨o',g⟩:=a.there c d q f;exact b.there c o' g f
 tups:=λc xs q=>b.tups c xs (a.tups c xs q)
 frzs:=λc d xs q=>b.frzs c d xs (a.frzs c d xs q)
 tbls:=λc ps q=>by
  obtain⟨m1,g⟩:=a.tbls c ps q;obtain⟨m2,k⟩:=b.tbls c _ g;exact⟨m1++m2,by rw[k,Xp]⟩
theorem Un.kept(k:∀b u,h.get? b=on u->h'.get? b=on u):Un fs ex H H h h':=
 ⟨λb c q _ _ _=>k b c q,λb c q _ _ _=>⟨c.slots,k b c q⟩,λ_ _ _ n _=>n,λb c q _=>⟨c,k b c q⟩,λ_ _ q=>q,λ_ _ _ q=>q,λ_ ps q=>⟨#[],by rw[q];simp⟩⟩
theorem Un.refl:Un fs ex H H h h:=Un.kept λ_ _ q=>q
theorem Un.laid(k:∀b u,h.get? b=on u->h'.get? b=on u)(c:h.objs.size<=a)(hn:H a=Om):Un fs ex H (upd H a o) h h' where
 keep:=λb u q _ _ _=>k b u q
 slot:=λb u q _ _ _=>⟨u.slots,k b u q⟩
 free:=λb u q n _=>by rw[bt (Ps (O3 (O1 q) c))];exact n
 there:=λb u q _=>⟨u,k b u q⟩
 tups:=λb xs q=>by rw[bt (ay q hn)];exact q
 frzs:=λb u xs q=>by rw[bt (ay q hn)];exact q
 tbls:=λb ps q=>⟨#[],by rw[bt (ay q hn),q];simp⟩
theorem Un.write(mu:Zo (H x))(i:e=x\/H e=on (.own x))(k:∀b u,b≠e->h.get? b=on u->h'.get? b=on u)(d:∃u,h'.get? e=on u):Un fs ex H (upd H x o) h h':=by
 have f:∀b,H b=Om->b≠x:=λb n z=>by subst z;rw[n]at mu;exact mu
 have g:∀b,H b=Om->b≠e:=λb n z=>by
  subst z;rcases i with r|r
  .exact f b n r
  .rw[n]at r;cases r
 have hm:∀b u,H b=on u->¬Zo (on u)->b≠x:=λb u q j z=>by subst z;rw[q]at mu;exact j mu
 refine⟨λb u q n _ _=>k b u (g b n) q,λb u q n _ _=>⟨u.slots,k b u (g b n) q⟩,λb u q n _=>by rw[bt (f b n)];exact n,λb u q _=>?_,
  λb xs q=>by rw[bt (hm b _ q λz=>z)];exact q,λb u xs q=>by rw[bt (hm b _ q λz=>z)];exact q,λb ps q=>⟨#[],by rw[bt (hm b _ q λz=>z),q];simp⟩⟩
 by_cases c:b=e
 .subst c;exact d
 .exact⟨u,k b u c q⟩
theorem Un.mono(u:Un fs ex H H1 h h1)(hs:∀b∈fs,b∈fs')(f:∀b∈ex,b∈ex'):Un fs' ex' H H1 h h1:=
 ⟨λb d q n g c=>u.keep b d q n (λz=>g (hs b z)) λz=>c (f b z),λ_ _ q n _ c=>u.any q n λz=>c (f _ z),λb d q n c=>u.free b d q n λz=>c (f b z),λb d q c=>u.there b d q λz=>c (f b z),u.tups,u.frzs,u.tbls⟩
noncomputable def Y4(h:P5)(H:Hp):List Ou:=(OB h.objs.size).filter λa=>(H a).isSome
noncomputable def j8(h:P5)(H:Hp):P5:=Yo h (Y4 h H)
theorem zN(h:P5)(H:Hp):(j8 h H).objs.size=h.objs.size:=PySem.W.hideAll_size _ _
theorem DI{h:P5}{H:Hp}{o:Pa}(e:h.get? b=on o)(n:H b=Om):(j8 h H).get? b=on o:=
 hideAll_get _ e λhm=>by
  have q:(H b).isSome=Oq:=(SE.mp hm).2;rw[n]at q;simp at q
theorem Jz{h:P5}{H:Hp}{o:Pa}(e:(j8 h H).get? b=on o):h.get? b=on o/\H b=Om:=by
 have c:h.get? b=on o:=W1 (Y4 h H) e;refine⟨c,?_⟩;cases q:H b with
 |none=>rfl
 |some x=>
  have hm:b∈Y4 h H:=SE.mpr ⟨OY.mpr (O1 c),by simp[q]⟩;have z:(j8 h H).get? b=Om:=Yp (Y4 h H) hm;rw[z]at e;cases e
structure Mod (K:OX) (mg:Pn->Option Oy) (base:P5):Prop where
 kin:K.In base
 glob:base.Ns QY mg
 blt:∃mb,base.Ns W3 mb/\∀x:Pn,x≠"__name__"->mb x=SF x
 nolimit:base.NoLimit
structure Cx where
 prog:Pf
 w:Po
 K:OX
 mg:Pn->Option Oy
 base:P5
 A:PV
 N:List Pn
 s₀:OD
 H₀:Hp
 env:VN
 outer:List VN
 stack:List VN
 ex:List Ou
 fn:Pn->Bool
 calm:Bool
 pn:List (Ou×Pa)
 xe:Oy->OD->Prop
noncomputable def hO(l:List VN):List Ou:=l.filterMap (·.frame)
end
noncomputable abbrev Cx.fs(X:Cx):List Ou:=hO X.outer
def YU(a:Scope)(x:Pn):Prop:=a.names.lookup x=on .local\/a.names.lookup x=on .cell\/a.names.lookup x=on .free
def zv(a:Scope)(x:Pn):Prop:=a.names.lookup x=on .local\/a.names.lookup x=on .cell
def Look(env:VN)(h:P5)(m:Pn->Option Oy)(x:Pn)(u:Oy):Prop:=
 (env.kindOf x=on .local/\m x=on u)\/((env.kindOf x=on .cell\/env.kindOf x=on .free)/\∃c,env.cells.lookup x=on c/\h.IsCell c (on u))
structure Cx.Ok (X:Cx):Prop where
 mod:Mod X.K X.mg X.base
 kind:X.env.scope.kind= .function
 glob:X.env.globals=QY
 blt:X.env.builtins=W3
 above:X.s₀.heap.objs.size<=X.env.locals
 inj:∀x y c,X.env.cells.lookup x=on c->X.env.cells.lookup y=on c->x=y
 has:∀x,(X.env.kindOf x=on .cell\/X.env.kindOf x=on .free)->∃c,X.env.cells.lookup x=on c
 cab:∀x c,X.fn x=Oq->X.env.cells.lookup x=on c->X.s₀.heap.objs.size<=c
 hd:X.calm=Oq->X.A.handled=Om
 frames:X.A.frames=on X.stack
 stk:X.stack=X.outer\/(X.stack=X.env::X.outer/\X.env.frame=on X.env.locals)
 exf:∀b∈X.ex,b≠X.env.locals/\∀x c,X.env.cells.lookup x=on c->c≠b
 bs:∀b o,X.base.get? b=on o->X.s₀.heap.get? b=on o/\X.H₀ b=Om
 bsz:X.base.objs.size<=X.s₀.heap.objs.size
 noex:∀b o,X.base.get? b=on o->b∉X.ex
 exfs:∀b∈X.ex,b∉X.fs
 funs:X.s₀.heap.FunFrames X.base X.outer
 frf:∀b∈X.fs,X.H₀ b=Om
structure dc (X:Cx) (a_:List (Ou×Pa)) (σ:List (Option V)) (H:Hp) (s:OD):Prop where
 ok:X.Ok
 os:s.os=X.s₀.os
 bare:T8 s.gens
 base:Un X.fs X.ex X.H₀ H X.s₀.heap s.heap
 loc:∃m,s.heap.Ns X.env.locals m/\∀(i:Nat) (x:Pn) (v:V),X.N[i]?=on x->σ[i]?=on (on v)->YU X.env.scope x->∃u,aI v u/\Look X.env s.heap m x u
 cell:∀x c,X.env.cells.lookup x=on c->∃v,s.heap.IsCell c v
 free:H X.env.locals=Om
 freeC:∀x c,X.env.cells.lookup x=on c->H c=Om
 pin:∀p∈X.pn++a_,s.heap.get? p.1=on p.2/\H p.1=Om/\p.1≠X.env.locals/\p.1∉X.fs/\∀v,p.2.data≠ .cell v
 hok:lp X.prog X.w H s.heap
 len:σ.length=X.N.length
section
variable{X:Cx}{a_:List (Ou×Pa)}{σ:List (Option V)}{H H':Hp}{s:OD}{h':P5}
theorem Cx.Ok.nofr(ok:X.Ok)(e:X.base.get? b=on o):b∉X.fs:=λa=>by
 have:=(ok.funs.mem a).1;rw[e]at this;cases this
theorem dc.bs(I:dc X a_ σ H s):∀b o,X.base.get? b=on o->s.heap.get? b=on o/\H b=Om:=λb o e=>
 ⟨I.base.keep b o (I.ok.bs b o e).1 (I.ok.bs b o e).2 (I.ok.nofr e) (I.ok.noex b o e),I.base.free b o (I.ok.bs b o e).1 (I.ok.bs b o e).2 (I.ok.noex b o e)⟩
theorem dc.bk(I:dc X a_ σ H s):∀b o,X.base.get? b=on o->s.heap.get? b=on o:=λb o e=>(I.bs b o e).1
theorem dc.mod(I:dc X a_ σ H s):Mod X.K X.mg X.base:=I.ok.mod
theorem dc.kIn(I:dc X a_ σ H s):X.K.In s.heap:=I.ok.mod.kin.keeps I.bk
theorem dc.lt(I:dc X a_ σ H s):X.env.locals<s.heap.objs.size:=let ⟨_,hn,_⟩:=I.loc;hn.lt
theorem dc.sz(I:dc X a_ σ H s):X.s₀.heap.objs.size<=s.heap.objs.size:=OS I.ok.above (TF I.lt)
theorem dc.nofs(I:dc X a_ σ H s){a:Ou}(h:s.heap.objs.size<=a):a∉X.fs:=λb=>by
 obtain⟨_,o,c,_⟩:=I.ok.funs.mem b;exact O4 (O3 (O1 c) (OS I.sz h)) (PH _)
theorem dc.cne(I:dc X a_ σ H s):∀x c,X.env.cells.lookup x=on c->c≠X.env.locals:=λx c e z=>by
 obtain⟨v,o,d,hd⟩:=I.cell x c e;obtain⟨m,⟨f,es,ep,a,b,_⟩,_⟩:=I.loc;rw[z,a]at d;cases d;rw[b]at hd;cases hd
theorem dc.funs(I:dc X a_ σ H s):s.heap.FunFrames X.base X.outer:=by
 have all:∀(l:List VN),(∀b∈hO l,b∈X.fs)->X.s₀.heap.FunFrames X.base l->s.heap.FunFrames X.base l:=by
  intro l
  induction l with
  |nil=>intro _ _;trivial
  |cons env r ih=>
   intro hs f;obtain⟨g,⟨L,o,a,hn,h,hd⟩,i⟩:=f;have c:L∈X.fs:=hs L (by unfold hO;rw[Qu,a];exact Oz);obtain⟨sl,e⟩:=I.base.slot L o h (I.ok.frf L c) c λz=>I.ok.exfs L z c;exact⟨g,⟨L,_,a,hn,e,hd⟩,ih (λb d=>hs b (by unfold hO;rw[Qu,a];exact Ot _ d)) i⟩
 exact all X.outer (λ_ d=>d) I.ok.funs
theorem dc.stack(I:dc X a_ σ H s):s.heap.FunFrames X.base X.stack:=by
 rcases I.ok.stk with e|⟨e,a⟩
 .rw[e];exact I.funs
 .rw[e]
  obtain⟨m,hn,_⟩:=I.loc;refine .cons (by rw[I.ok.kind];decide) a hn ?_ I.funs;exact Xi (OS I.ok.bsz I.ok.above)
theorem dc.stkSub(I:dc X a_ σ H s):∀b∈hO X.stack,b∈X.env.locals::X.fs:=λb a=>by
 rcases I.ok.stk with e|⟨e,c⟩
 .rw[e]at a;exact Ot _ a
 .rw[e]at a
  unfold hO at a;rw[Qu,c]at a;exact a
theorem dc.stkFree(I:dc X a_ σ H s):∀b∈hO X.stack,H b=Om:=λb hb=>by
 rcases ON.mp (I.stkSub b hb)with e|hb
 .rw[e];exact I.free
 .obtain⟨_,o,a,_⟩:=I.ok.funs.mem hb
  exact I.base.free b o a (I.ok.frf b hb) λz=>I.ok.exfs b z hb
theorem dc.step{ch:List Ou}(I:dc X a_ σ H s)
  (f:∀b∈ch,(b∈X.ex\/X.s₀.heap.objs.size<=b)/\b≠X.env.locals/\(∀x c,X.env.cells.lookup x=on c->c≠b)/\∀p∈X.pn++a_,p.1≠b)
  (keep:∀b o,b≠X.env.locals->b∉X.fs->b∉ch->s.heap.get? b=on o->H b=Om->h'.get? b=on o)
  (slot:∀b o,b≠X.env.locals->b∈X.fs->b∉ch->s.heap.get? b=on o->H b=Om->∃sl,h'.get? b=on {o with slots:=sl}) (free:∀b o,b∉ch->s.heap.get? b=on o->H b=Om->H' b=Om)
  (there:∀b o,b∉ch->s.heap.get? b=on o->∃B,h'.get? b=on B)
  (tups:∀b xs,H b=on (.tup xs)->H' b=on (.tup xs)) (frzs:∀b o u,H b=on (.frz o u)->H' b=on (.frz o u)) (tbls:∀b ps,H b=on (.tbl ps)->∃more,H' b=on (.tbl (ps++more)))
  (ns:∀m,s.heap.Ns X.env.locals m->h'.Ns X.env.locals m) (hok:lp X.prog X.w H' h') (O:T8 g'):
  dc X a_ σ H' {s with heap:=h',gens:=g',drawn:=d',toks:=t'}:=by
 have C:∀b o,X.s₀.heap.get? b=on o->b≠X.env.locals:=λb o e=>Ps (O3 (O1 e) I.ok.above);have j:∀b o,X.s₀.heap.get? b=on o->b∉X.ex->b∉ch:=λb o e a y=>by
  rcases(f b y).1 with z|z
  .exact a z
  .exact O4 (O3 (O1 e) z) (PH _)
 have g:∀x c,X.env.cells.lookup x=on c->∀v,s.heap.IsCell c v->h'.IsCell c v:=λx c e v ⟨o,A,hd⟩=>by
  have h:c∉ch:=λz=>(f c z).2.2.1 x c e rfl;by_cases L:c∈X.fs
  .obtain⟨sl,q⟩:=slot c o (I.cne x c e) L h A (I.freeC x c e)
   exact⟨_,q,hd⟩
  .exact⟨o,keep c o (I.cne x c e) L h A (I.freeC x c e),hd⟩
 refine⟨I.ok,I.os,O,⟨λb o e n y a=>?_,λb o e n y a=>?_,λb o e n a=>?_,λb o e a=>?_,λb xs e=>tups b xs (I.base.tups b xs e),λb o xs e=>frzs b o xs (I.base.frzs b o xs e),λb ps e=>?_⟩,?_,λx c e=>?_,?_,λx c e=>?_,λp N=>?_,hok,I.len⟩
 .exact keep b o (C b o e) y (j b o e a) (I.base.keep b o e n y a) (I.base.free b o e n a)
 .obtain⟨sl,t⟩:=I.base.slot b o e n y a
  obtain⟨J,F⟩:=slot b _ (C b o e) y (j b o e a) t (I.base.free b o e n a);exact⟨J,F⟩
 .obtain⟨B,t⟩:=I.base.there b o e a
  exact free b B (j b o e a) t (I.base.free b o e n a)
 .obtain⟨B,t⟩:=I.base.there b o e a
  exact there b B (j b o e a) t
 .obtain⟨m1,t⟩:=I.base.tbls b ps e
  obtain⟨m2,F⟩:=tbls b _ t;exact⟨m1++m2,by rw[F,Xp]⟩
 .obtain⟨m,hn,P⟩:=I.loc
  refine⟨m,ns m hn,λi x v t F Q=>?_⟩;obtain⟨u,r,l⟩:=P i x v t F Q;refine⟨u,r,?_⟩;rcases l with l|⟨k,c,e,z⟩
  .exact .inl l
  .exact .inr ⟨k,c,e,g x c e _ z⟩
 .obtain⟨v,z⟩:=I.cell x c e
  exact⟨v,g x c e v z⟩
 .obtain⟨m,⟨o,_,_,A,_⟩,_⟩:=I.loc
  exact free _ o (λz=>(f _ z).2.1 rfl) A I.free
 .obtain⟨v,o,A,hd⟩:=I.cell x c e
  exact free c o (λz=>(f c z).2.2.1 x c e rfl) A (I.freeC x c e)
 .obtain⟨e,n,ne,nf,d⟩:=I.pin p N
  have h:p.1∉ch:=λz=>(f p.1 z).2.2.2 p N rfl;exact⟨keep p.1 p.2 ne nf h e n,free p.1 p.2 h e n,ne,nf,d⟩
theorem dc.un(I:dc X a_ σ H s)(u:Un X.fs [] H H' s.heap h')(hok:lp X.prog X.w H' h'):dc X a_ σ H' {s with heap:=h',toks:=t'}:=by
 obtain⟨m,⟨o,es,ep,g,r⟩,_⟩:=id I.loc;obtain⟨sl,h⟩:=u.any g I.free (by simp);exact I.step (g':=s.gens) (d':=s.drawn) (ch:=[]) (λ_ z=>nomatch z) (λb o _ c _ e n=>u.keep b o e n c (by simp)) (λb o _ c _ e n=>u.slot b o e n c (by simp)) (λb o _ e n=>u.free b o e n (by simp)) (λb o _ e=>u.there b o e (by simp)) u.tups u.frzs u.tbls (λj hm=>by
  obtain⟨k,d,f,a,i⟩:=hm;rw[g]at a;cases a;exact⟨_,d,f,h,i⟩) hok I.bare
theorem dc.call{ch:List Ou}(I:dc X a_ σ H s)(u:Un (hO X.stack) ch H H' s.heap h')(hok:lp X.prog X.w H' h')(k:T8 g')
  (d:∀b∈ch,(b∈X.ex\/X.s₀.heap.objs.size<=b)/\b≠X.env.locals/\(∀x c,X.env.cells.lookup x=on c->c≠b)/\∀p∈X.pn++a_,p.1≠b):
  dc X a_ σ H' {s with heap:=h',gens:=g',drawn:=d',toks:=t'}:=by
 obtain⟨m,⟨o,es,ep,j,r⟩,_⟩:=id I.loc;obtain⟨sl,g⟩:=u.any j I.free λz=>(d _ z).2.1 rfl;exact I.step (ch:=ch) d (λb o g l a e n=>u.keep b o e n (λz=>(ON.mp (I.stkSub b z)).elim g l) a) (λb o _ _ a e n=>u.any e n a) (λb o a e n=>u.free b o e n a) (λb o a e=>u.there b o e a) u.tups u.frzs u.tbls (λt hm=>by
  obtain⟨v,h,i,f,q⟩:=hm;rw[j]at f;cases f;exact⟨_,h,i,g,q⟩) hok k
theorem dc.turned(I:dc X a_ σ H s)(k:∀b o,b≠it->s.heap.get? b=on o->h'.get? b=on o)(hn:H it=Om)(f:it≠X.env.locals)
  (g:it∈X.ex\/X.s₀.heap.objs.size<=it) (h:∀x c,X.env.cells.lookup x=on c->c≠it) (i:∀p∈X.pn++a_,p.1≠it):dc X a_ σ H {s with heap:=h',toks:=t'}:=by
 have d:∀b u,H b=on u->b≠it:=λb u e z=>by rw[z,hn]at e;cases e
 refine I.step (g':=s.gens) (d':=s.drawn) (ch:=[it]) (λb j=>?_) (λb o _ _ a e _=>k b o (λz=>a (by simp[z])) e) (λb o _ _ a e _=>⟨o.slots,k b o (λz=>a (by simp[z])) e⟩) (λ_ _ _ _ n=>n)
  (λb o a e=>⟨o,k b o (λz=>a (by simp[z])) e⟩) (λ_ _ e=>e) (λ_ _ _ e=>e) (λb ps e=>⟨#[],by rw[e];simp⟩) (λm hm=>?_) (λb u e=>?_) I.bare
 .have e:b=it:=by simpa using j
  subst e;exact⟨g,f,h,i⟩
 .obtain⟨o,es,ep,l,r⟩:=hm
  exact⟨o,es,ep,k _ o (Ne.symm f) l,r⟩
 .refine(I.hok b u e).stay (λc v a q=>k c v ?_ q) (λ_ q=>q) λ_ _ q=>q
  rcases a with z|z
  .rw[z];exact d b u e
  .exact d c _ z
theorem dc.tok(I:dc X a_ σ H s)(t:Nat):dc X a_ σ H {s with toks:=t}:=I.un (h':=s.heap) (t':=t) Un.refl I.hok
theorem dc.kept(I:dc X a_ σ H s)(k:∀b u,s.heap.get? b=on u->h'.get? b=on u):dc X a_ σ H {s with heap:=h',toks:=t'}:=I.un (Un.kept k) (I.hok.kept k)
theorem dc.laid{a:Ou}{o:HO}{t':Nat}(I:dc X a_ σ H s)(k:∀b u,s.heap.get? b=on u->h'.get? b=on u)(c:s.heap.objs.size<=a)(new:bF X.prog X.w (upd H a o) h' a o):
  dc X a_ σ (upd H a o) {s with heap:=h',toks:=t'}:=I.un (Un.laid k c (I.hok.fresh c)) (I.hok.laid k c new)
theorem dc.write(I:dc X a_ σ H s)(mu:Zo (H x))(c:e=x\/H e=on (.own x))(k:∀b u,b≠e->s.heap.get? b=on u->h'.get? b=on u)(a:∃u,h'.get? e=on u)
  (new:bF X.prog X.w (upd H x o) h' x o):dc X a_ σ (upd H x o) {s with heap:=h',toks:=t'}:=I.un (Un.write mu c k a) (I.hok.write mu c k a new)
theorem dc.pins_of(I:dc X a_ σ H s)(h:∀p∈pins',s.heap.get? p.1=on p.2/\H p.1=Om/\p.1≠X.env.locals/\p.1∉X.fs/\∀v,p.2.data≠ .cell v):dc X pins' σ H s:=
 ⟨I.ok,I.os,I.bare,I.base,I.loc,I.cell,I.free,I.freeC,λp a=>(Qd.mp a).elim (λz=>I.pin p (Rw _ z)) (h p),I.hok,I.len⟩
theorem tW{N:List Pn}(c:N.Nodup){i j:Nat}{x:Pn}(a:N[i]?=on x)(b:N[j]?=on x):i=j:=by
 obtain⟨f,d⟩:=OI.mp a;obtain⟨g,e⟩:=OI.mp b;exact(List.getElem_inj c).mp (d.trans e.symm)
theorem kJ{M:Model}{E:Oy->OD->Prop}(I:dc X a_ σ H s)(hN:X.N.Nodup)(O:X.N[i]?=on x)(l:zv X.env.scope x)(r:aI v u)
  (h:∀s',dc X a_ (σ.set i (on v)) H s'->(∃a,Pd a s.heap s'.heap/\(a=X.env.locals\/X.env.cells.lookup x=on a))->Q () s') (hf:X.fn x=Oq\/X.env.scope.names.lookup x=on .local:=by first|exact .inl rfl|exact .inr rfl|assumption):OK M A (storeName X.env x u) Q E s:=by
 obtain⟨m,hn,hl⟩:=id I.loc;have P:(X.env.scope.kind== .class||(X.env.scope.kind== .module&&X.env.locals !=X.env.globals))=Ov:=by rw[I.ok.kind];rfl
 have C:i<σ.length:=by rw[I.len];exact(OI.mp O).1
 have cne:=I.cne;have f:∀{a:Ou} {h':P5},(∃o,s.heap.get? a=on o/\H a=Om)->Pd a s.heap h'->lp X.prog X.w H h':=λ{a h'} ha hs b ob e=>by
  obtain⟨_,_,t⟩:=ha;refine(I.hok b ob e).stay (λc Y hc q=>(hs.2 c ?_).trans q) (λ_ q=>q) λ_ _ q=>q;rintro rfl;rcases hc with rfl|hc
  .rw[t]at e;cases e
  .rw[t]at hc;cases hc
 rcases l with hk|hk
 .refine wpAny_storeName_local hk hn (λh' hn' hs=>?_) P
  obtain⟨oL,_,_,hoL,_⟩:=id hn;refine h _ ⟨I.ok,I.os,I.bare,⟨λb o e n F l=>?_,λb o e n F l=>?_,I.base.free,λb o e l=>?_,I.base.tups,I.base.frzs,I.base.tbls⟩,⟨_,hn',λj y v' g B e3=>?_⟩,λy c e=>?_,I.free,I.freeC,λp hp=>?_,f ⟨oL,hoL,I.free⟩ hs,by simpa using I.len⟩ ⟨_,hs,.inl rfl⟩
  .exact(hs.2 b (Ps (O3 (O1 e) I.ok.above))).trans (I.base.keep b o e n F l)
  .obtain⟨sl,g⟩:=I.base.slot b o e n F l
   exact⟨sl,(hs.2 b (Ps (O3 (O1 e) I.ok.above))).trans g⟩
  .obtain⟨o',g⟩:=I.base.there b o e l
   exact⟨o',(hs.2 b (Ps (O3 (O1 e) I.ok.above))).trans g⟩
  .by_cases J:j=i
   .subst J
    rw[O]at g;cases g;rw[WO C]at B;cases B;exact⟨u,r,.inl ⟨hk,by simp⟩⟩
   .rw[Xk (Ne.symm J)]at B
    obtain⟨u',r',q⟩:=hl j y v' g B e3;refine⟨u',r',?_⟩;rcases q with⟨k,e⟩|⟨k,c,e,z⟩
    .refine .inl ⟨k,?_⟩
     have:y≠x:=λe=>J (tW hN g (e▸O));simp[this,e]
    .exact .inr ⟨k,c,e,z.sameBut hs (cne y c e)⟩
  .obtain⟨Y,z⟩:=I.cell y c e
   exact⟨Y,z.sameBut hs (cne y c e)⟩
  .obtain⟨e,n,ne,nf,d⟩:=I.pin p hp
   exact⟨(hs.2 p.1 ne).trans e,n,ne,nf,d⟩
 .have L:X.fn x=Oq:=by
   rcases hf with z|z
   .exact z
   .rw[z]at hk;cases hk
  obtain⟨c,hc⟩:=I.ok.has x (.inl hk);obtain⟨Y,z⟩:=I.cell x c hc;refine wpAny_storeName_cell I.ok.kind hk hc z (λh' R hs=>?_);obtain⟨oc,T,U⟩:=id z;refine h {s with heap:=h'} ⟨I.ok,I.os,I.bare,⟨λb o e n F l=>?_,λb o e n F l=>?_,I.base.free,λb o e l=>?_,I.base.tups,I.base.frzs,I.base.tbls⟩,⟨m,hn.sameBut hs (Ne.symm (cne x c hc)),λj y v' g B e3=>?_⟩,λy Z e=>?_,I.free,I.freeC,λp hp=>?_,f ⟨oc,T,I.freeC x c hc⟩ hs,by simpa using I.len⟩ ⟨c,hs,.inr hc⟩
  .exact(hs.2 b (Ps (O3 (O1 e) (I.ok.cab x c L hc)))).trans (I.base.keep b o e n F l)
  .obtain⟨sl,g⟩:=I.base.slot b o e n F l
   exact⟨sl,(hs.2 b (Ps (O3 (O1 e) (I.ok.cab x c L hc)))).trans g⟩
  .obtain⟨o',g⟩:=I.base.there b o e l
   exact⟨o',(hs.2 b (Ps (O3 (O1 e) (I.ok.cab x c L hc)))).trans g⟩
  .by_cases J:j=i
   .subst J
    rw[O]at g;cases g;rw[WO C]at B;cases B;exact⟨u,r,.inr ⟨.inl hk,c,hc,R⟩⟩
   .rw[Xk (Ne.symm J)]at B
    obtain⟨u',r',q⟩:=hl j y v' g B e3;refine⟨u',r',?_⟩;rcases q with q|⟨k,Z,e,z'⟩
    .exact .inl q
    .refine .inr ⟨k,Z,e,z'.sameBut hs ?_⟩
     rintro rfl;exact J (tW hN g (I.ok.inj _ _ _ e hc▸O))
  .by_cases W:Z=c
   .subst W;exact⟨_,R⟩
   .obtain⟨w2,z2⟩:=I.cell y Z e
    exact⟨w2,z2.sameBut hs W⟩
  .obtain⟨e,n,ne,nf,d⟩:=I.pin p hp
   refine⟨(hs.2 p.1 ?_).trans e,n,ne,nf,d⟩;intro q;rw[q,T]at e;have q':oc=p.2:=Pb e;exact d Y (by rw[<-q'];exact U)
theorem nz{M:Model}{E:Oy->OD->Prop}(I:dc X a_ σ H s)(a:X.N.Nodup)(b:X.N[i]?=on x)(c:zv X.env.scope x)(r:aI v u)
  (h:∀s',dc X a_ (σ.set i (on v)) H s'->Q () s') (d:X.fn x=Oq\/X.env.scope.names.lookup x=on .local:=by first|exact .inl rfl|exact .inr rfl|assumption):OK M A (storeName X.env x u) Q E s:=
 kJ I a b c r (λs' e _=>h s' e) d
theorem dc.call'{s':OD}{ch:List Ou}(I:dc X a_ σ H s)(d:s'.os=s.os)(u:Un (hO X.stack) ch H H' s.heap s'.heap)(hok:lp X.prog X.w H' s'.heap)(f:T8 s'.gens)
  (a:∀b∈ch,(b∈X.ex\/X.s₀.heap.objs.size<=b)/\b≠X.env.locals/\(∀x c,X.env.cells.lookup x=on c->c≠b)/\∀p∈X.pn++a_,p.1≠b):dc X a_ σ H' s':=by
 obtain⟨h',g',d',t',g⟩:=s';have e:g=s.os:=d;subst e;exact I.call (g':=g') (t':=t') (d':=d') u hok f a
abbrev XK:=Oy->Option Ou->Hp->Prop
abbrev St:=List (Option V)
abbrev VK:=V->Hp->Prop
abbrev TE:=St->Hp->VK->Prop
abbrev TT:=St->Hp->(Bool->Hp->Prop)->Prop
abbrev TA:=St->Hp->(List V->Hp->Prop)->Prop
structure pa where
 nx:St->Hp->Prop
 rt:VK
 bk:St->Hp->Prop:=λ_ _=>False
 ct:St->Hp->Prop:=λ_ _=>False
abbrev TS:=pa->St->Hp->Prop
def EP(X:Cx)(a_:List (Ou×Pa))(σ:St)(Q:VK)(u:Oy)(s':OD):Prop:=∃v H',dc X a_ σ H' s'/\aI v u/\Q v H'
def TP(X:Cx)(a_:List (Ou×Pa))(σ:St)(Q:Bool->Hp->Prop)(b:Bool)(s':OD):Prop:=∃H',dc X a_ σ H' s'/\Q b H'
def AP(X:Cx)(a_:List (Ou×Pa))(σ:St)(Q:List V->Hp->Prop)(us:List Oy)(s':OD):Prop:=∃vs H',dc X a_ σ H' s'/\au vs us/\Q vs H'
def SP(X:Cx)(a_:List (Ou×Pa))(D:pa)(f:Flow)(s':OD):Prop:=
 match f with
 | .next=>∃a H',dc X a_ a H' s'/\D.nx a H'
 | .brk=>∃a H',dc X a_ a H' s'/\D.bk a H'
 | .cont=>∃a H',dc X a_ a H' s'/\D.ct a H'
 | .ret u=>∃v a H',dc X a_ a H' s'/\aI v u/\D.rt v H'
def PE(X:Cx)(e:Expr)(t:TE):Prop:=
 ∀(a_:List (Ou×Pa)) (s:OD) (σ:St) (H:Hp) (Q:VK),dc X a_ σ H s->t σ H Q->OK (O7 X.prog X.w) X.A (P0 e X.env) (EP X a_ σ Q) X.xe s
def PT(X:Cx)(e:Expr)(t:TT):Prop:=
 ∀(a_:List (Ou×Pa)) (s:OD) (σ:St) (H:Hp) (Q:Bool->Hp->Prop),dc X a_ σ H s->t σ H Q->OK (O7 X.prog X.w) X.A (isTrue e X.env (P0 e X.env)) (TP X a_ σ Q) X.xe s
def PW(X:Cx)(e:Expr)(t:TT):Prop:=
 ∀(a:Sem Oy) (a_:List (Ou×Pa)) (s:OD) (σ:St) (H:Hp) (Q:Bool->Hp->Prop),dc X a_ σ H s->t σ H Q->OK (O7 X.prog X.w) X.A (isTrue e X.env a) (TP X a_ σ Q) X.xe s
theorem PW.pt{X:Cx}(h:PW X e t):PT X e t:=h _
def PA(X:Cx)(es:List Expr)(t:TA):Prop:=
 ∀(pos:TK) (a_:List (Ou×Pa)) (s:OD) (σ:St) (H:Hp) (Q:List V->Hp->Prop),dc X a_ σ H s->t σ H Q->OK (O7 X.prog X.w) X.A (spliced (Q0 pos (OM es X.env))) (AP X a_ σ Q) X.xe s
def PS(X:Cx)(st:Qg)(t:TS):Prop:=
 ∀(a_:List (Ou×Pa)) (s:OD) (σ:St) (H:Hp) (D:pa),dc X a_ σ H s->t D σ H->OK (O7 X.prog X.w) X.A (exec st X.env) (SP X a_ D) X.xe s
def PSs(X:Cx)(st:List Qg)(t:TS):Prop:=
 ∀(a_:List (Ou×Pa)) (s:OD) (σ:St) (H:Hp) (D:pa),dc X a_ σ H s->t D σ H->OK (O7 X.prog X.w) X.A (execs st X.env) (SP X a_ D) X.xe s
theorem eo{α:Type}{t:Sem α}{Q b:α->OD->Prop}{M:Model}{A:PV}{E:Oy->OD->Prop}{s:OD}(h:OK M A t Q E s)(c:∀a s,Q a s->b a s):OK M A t b E s:=PP h c λ_ _ x=>x
def jK(i:Nat):TE:=λσ H Q=>∃v,σ[i]?=on (on v)/\Q v H
def tC(v:V):TE:=λ_ H Q=>Q v H
theorem K3(g:X.N[i]?=on x)(j:YU X.env.scope x)(hd:(x==("__debug__":Pn))=Ov:=by decide)(d:(x==("__classdict__":Pn))=Ov:=by decide):PE X (.Name x pos) (jK i):=by
 intro a_ s σ H Q I h;obtain⟨v,e,h⟩:=h;obtain⟨m,hn,k⟩:=I.loc;obtain⟨u,r,l⟩:=k i x v g e j;have b:EP X a_ σ Q u s:=⟨v,H,I,r,h⟩;rcases l with⟨hk,hm⟩|⟨hk,c,f,a⟩
 .exact wpAny_Name (wpAny_loadName_local I.ok.kind hk hn hm b) hd
 .rcases hk with hk|hk
  .exact wpAny_Name (wpAny_loadName_cell I.ok.kind hk f a b) hd
  .exact wpAny_Name (wpAny_loadName_free I.ok.kind hk f a b d) hd
theorem bN{i j pos}:PE X (.Constant (.int i) j pos) (tC (.int i)):=λ_ _ _ H _ I h=>wpAny_Constant_int ⟨.int i,H,I.tok _,⟨_,rfl⟩,h⟩
theorem NC{b j pos}:PE X (.Constant (.bool b) j pos) (tC (.bl b)):=λ_ _ _ H _ I h=>Constant_bool ⟨.bl b,H,I,rfl,h⟩
theorem K7{j pos}:PE X (.Constant .none j pos) (tC .non):=λ_ _ _ H _ I h=>Constant_none ⟨.non,H,I,rfl,h⟩
def Gl(X:Cx)(x:Pn):Prop:=X.env.kindOf x=on .globalImplicit
theorem qo{E:Oy->OD->Prop}{a_:List (Ou×Pa)}{s:OD}{σ:St}{H:Hp}(I:dc X a_ σ H s)(a:Gl X x)(hm:X.mg x=on u)(h:Q u s)
  (hd:(x==("__debug__":Pn))=Ov:=by decide):OK (O7 X.prog X.w) X.A (P0 (.Name x pos) X.env) Q E s:=
 VV I.ok.kind a (Calls.loadGlobal_global (by rw[I.ok.glob];exact I.mod.glob.keeps I.bk) hm h) hd
theorem fI{E:Oy->OD->Prop}{a_:List (Ou×Pa)}{s:OD}{σ:St}{H:Hp}(I:dc X a_ σ H s)(a:Gl X x)(hm:X.mg x=Om)(b:SF x=on u)(h:Q u s)
  (hn:x≠"__name__":=by decide) (hd:(x==("__debug__":Pn))=Ov:=by decide):OK (O7 X.prog X.w) X.A (P0 (.Name x pos) X.env) Q E s:=by
 obtain⟨e,c,d⟩:=I.mod.blt;exact VV I.ok.kind a (Calls.loadGlobal_builtin (by rw[I.ok.glob];exact I.mod.glob.keeps I.bk) hm (by rw[I.ok.blt];exact c.keeps I.bk) ((d x hn).trans b) h) hd
theorem Jr(a:Gl X x)(hm:X.mg x=on u)(r:aI v u)(hd:(x==("__debug__":Pn))=Ov:=by decide):PE X (.Name x pos) (tC v):=
 λ_ _ _ H _ I h=>qo I a hm ⟨v,H,I,r,h⟩ hd
theorem cV(a:Gl X x)(hm:X.mg x=Om)(b:SF x=on u)(r:aI v u)(hn:x≠"__name__":=by decide)(hd:(x==("__debug__":Pn))=Ov:=by decide):PE X (.Name x pos) (tC v):=
 λ_ _ _ H _ I h=>fI I a hm b ⟨v,H,I,r,h⟩ hn hd
variable{a b:Expr}{ta tb:TE}{pos:TK}
variable{tA tB':TT}{rest:List Expr}
def Ko(t u:TT):TT:=λσ H Q=>t σ H λc d=>if c=Oq then u σ d Q else Q Ov d
def tOr(t u:TT):TT:=λσ H Q=>t σ H λc d=>if c=Oq then Q Oq d else u σ d Q
def Zx(t:TT):TT:=λσ H Q=>t σ H λc d=>Q (!c) d
theorem Jl(ha:PT X a tA):PW X (.BoolOp .And [a] pos) tA:=by
 intro d a_ s σ H Q I h;refine isTrue_and (eo (ha a_ s σ H Q I h) λc f e=>?_);cases c with
 |true=>exact isTrue_and_nil e
 |false=>exact e
theorem KV(ha:PT X a tA):PW X (.BoolOp .Or [a] pos) tA:=by
 intro d a_ s σ H Q I h;refine isTrue_or (eo (ha a_ s σ H Q I h) λc f e=>?_);cases c with
 |false=>exact isTrue_or_nil e
 |true=>exact e
theorem KW(ha:PT X a tA)(f:PW X (.BoolOp .And (b::rest) pos) tB'):PW X (.BoolOp .And (a::b::rest) pos) (Ko tA tB'):=by
 intro g a_ s σ H Q I h;refine isTrue_and (eo (ha a_ s σ H _ I h) λc i ⟨d,e,q1⟩=>?_);cases c with
 |true=>exact f g a_ i σ d Q e q1
 |false=>exact⟨d,e,q1⟩
theorem NA(ha:PT X a tA)(f:PW X (.BoolOp .Or (b::rest) pos) tB'):PW X (.BoolOp .Or (a::b::rest) pos) (tOr tA tB'):=by
 intro g a_ s σ H Q I h;refine isTrue_or (eo (ha a_ s σ H _ I h) λc i ⟨d,e,q1⟩=>?_);cases c with
 |true=>exact⟨d,e,q1⟩
 |false=>exact f g a_ i σ d Q e q1
theorem KZ(ha:PT X a tA):PT X (.UnaryOp .Not a pos) (Zx tA):=by
 intro a_ s σ H Q I h;exact isTrue_not (ha a_ s σ H (λc d=>Q (!c) d) I h)
def Nn(ta tb:TE):TE:=λσ H Q=>ta σ H λx d=>∃c,x= .bl c/\if c=Oq then tb σ d Q else Q (.bl Ov) d
theorem K6{op}(h:PE X a t):PE X (.BoolOp op [a] pos) t:=λa_ s σ H Q I c=>BoolOp_one (h a_ s σ H Q I c)
theorem K9(ha:PE X a ta)(f:PE X (.BoolOp .And (b::rest) pos) tb):PE X (.BoolOp .And (a::b::rest) pos) (Nn ta tb):=by
 intro a_ s σ H Q I h;refine BoolOp_and (eo (ha a_ s σ H _ I h) λv g ⟨x,d,e,r1,q1⟩=>?_);obtain⟨c,rfl,q1⟩:=q1;cases r1;refine P8 ?_;cases c with
 |true=>exact f a_ g σ d Q e q1
 |false=>exact⟨.bl Ov,d,e,rfl,q1⟩
def tIf(t:TT)(ta tb:TE):TE:=λσ H Q=>t σ H λc d=>if c=Oq then ta σ d Q else tb σ d Q
theorem BY(i:PT X c tA)(ha:PE X a ta)(j:PE X b tb):PE X (.IfExp c a b pos) (tIf tA ta tb):=by
 intro a_ s σ H Q I h;refine wpAny_IfExp (eo (i a_ s σ H _ I h) λd e ⟨f,g,q1⟩=>?_);cases d with
 |true=>exact ha a_ e σ f Q g q1
 |false=>exact j a_ e σ f Q g q1
def fx(K:OX)(H:Hp)(a:Ou)(xs:List V):Prop:=
 Rd H a (.lst xs)\/
  ∃(o:Pa) (its:Array Oy) (n:Nat),K.lookup a=on o/\o.cls= .type "list"/\o.dict=Om/\o.data= .seq its n/\its.size<=OV/\au xs its.toList
def i_(K:OX)(H:Hp)(a:Ou)(xs:List V):Prop:=
 Rd H a (.tup xs)\/
  ∃(o:Pa) (its:Array Oy) (n:Nat),K.lookup a=on o/\o.cls= .type "tuple"/\o.data= .seq its n/\its.size<=OV/\au xs its.toList
noncomputable def absV:Oy->Option V
 | .none=>on .non
 | .bool b=>on (.bl b)
 | .int i _=>on (.int i)
 | .str x _=>on (.str x)
 | .ref a=>on (.ref a)
 | .type n=>on (.ty n)
 |_=>Om
theorem aI.abs(r:aI x u):absV u=on x:=by
 cases x with
 |non=>cases r;rfl
 |bl _=>cases r;rfl
 |int _=>obtain⟨t,rfl⟩:=r;rfl
 |str _=>obtain⟨t,rfl⟩:=r;rfl
 |ref _=>cases r;rfl
 |ty _=>cases r;rfl
theorem aI.inj(r:aI x u)(q:aI y u):x=y:=Pb (r.abs.symm.trans q.abs)
theorem au.inj:∀{xs ys:List V} {us:List Oy},au xs us->au ys us->xs=ys
 |_,_,_,.nil,.nil=>rfl
 |_,_,_,.cons r t,.cons r' t'=>by rw[r.inj r',au.inj t t']
end
section
variable{X:Cx}{a_:List (Ou×Pa)}{σ:St}{H:Hp}{s:OD}{a:Ou}{xs ys:List V}
theorem fx.of{K:OX}(h:H a=on (.lst xs)):fx K H a xs:= .inl (.inl h)
theorem dc.list(I:dc X a_ σ H s)(h:fx X.K H a xs):∃its:List Oy,au xs its/\PlainL s.heap a its.toArray/\xs.length<=OV:=by
 rcases h with h|⟨o,its,n,b,c,hd,hs,d,r⟩
 .obtain⟨z,its,n,r,e⟩:=h.ok I.hok
  exact⟨its,r,⟨_,n,e,rfl,rfl,rfl⟩,z⟩
 .refine⟨its.toList,r,⟨o,n,I.kIn a o b,c,hd,by simpa using hs⟩,?_⟩
  have e:=r.length;simp only[Pe]at e;omega
theorem dc.tuple(I:dc X a_ σ H s)(h:i_ X.K H a xs):∃its:List Oy,au xs its/\IsTup s.heap a its.toArray/\xs.length<=OV:=by
 rcases h with h|⟨o,its,n,b,c,hs,d,r⟩
 .obtain⟨z,its,r,p⟩:=h.ok I.hok
  exact⟨its,r,p,z⟩
 .refine⟨its.toList,r,⟨o,I.kIn a o b,c,n,by simpa using hs⟩,?_⟩
  have e:=r.length;simp only[Pe]at e;omega
theorem dc.list_inj(I:dc X a_ σ H s)(h:fx X.K H a xs)(h':fx X.K H a ys):xs=ys:=by
 obtain⟨its,r,⟨o,n,e,_,_,d⟩,_⟩:=I.list h;obtain⟨its',c,⟨f,g,b,_,_,d'⟩,_⟩:=I.list h';rw[e]at b;cases b;rw[d]at d'
 injection d' with d1 _
 have:its=its':=by simpa using Py Array.toList d1
 subst this;exact r.inj c
theorem dc.tuple_inj(I:dc X a_ σ H s)(h:i_ X.K H a xs)(h':i_ X.K H a ys):xs=ys:=by
 obtain⟨its,r,⟨o,e,_,n,d⟩,_⟩:=I.tuple h;obtain⟨its',c,⟨f,b,_,g,d'⟩,_⟩:=I.tuple h';rw[e]at b;cases b;rw[d]at d'
 injection d' with d1 _
 have:its=its':=by simpa using Py Array.toList d1
 subst this;exact r.inj c
noncomputable abbrev Cx.wish(X:Cx)(E:Oy->OD->Prop):Cx:={X with xe:=E}
noncomputable abbrev Cx.nox(X:Cx):Cx:=X.wish λ_ _=>False
theorem Cx.Ok.wish{X:Cx}(ok:X.Ok)(E:Oy->OD->Prop):(X.wish E).Ok:=
 ⟨ok.mod,ok.kind,ok.glob,ok.blt,ok.above,ok.inj,ok.has,ok.cab,ok.hd,ok.frames,ok.stk,ok.exf,ok.bs,ok.bsz,ok.noex,ok.exfs,ok.funs,ok.frf⟩
theorem Cx.Ok.unwish{X:Cx}{E:Oy->OD->Prop}(ok:(X.wish E).Ok):X.Ok:=
 ⟨ok.mod,ok.kind,ok.glob,ok.blt,ok.above,ok.inj,ok.has,ok.cab,ok.hd,ok.frames,ok.stk,ok.exf,ok.bs,ok.bsz,ok.noex,ok.exfs,ok.funs,ok.frf⟩
variable{E:Oy->OD->Prop}
theorem dc.wish(I:dc X a_ σ H s)(E:Oy->OD->Prop):dc (X.wish E) a_ σ H s:=⟨I.ok.wish E,I.os,I.bare,I.base,I.loc,I.cell,I.free,I.freeC,I.pin,I.hok,I.len⟩
theorem dc.unwish(I:dc (X.wish E) a_ σ H s):dc X a_ σ H s:=⟨I.ok.unwish,I.os,I.bare,I.base,I.loc,I.cell,I.free,I.freeC,I.pin,I.hok,I.len⟩
theorem SP.unwish{D:pa}(h:SP (X.wish E) a_ D f s'):SP X a_ D f s':=by
 cases f with
 |next=>obtain⟨b,c,I,q⟩:=h;exact⟨b,c,I.unwish,q⟩
 |brk=>obtain⟨b,c,I,q⟩:=h;exact⟨b,c,I.unwish,q⟩
 |cont=>obtain⟨b,c,I,q⟩:=h;exact⟨b,c,I.unwish,q⟩
 |ret u=>obtain⟨v,b,c,I,r,q⟩:=h;exact⟨v,b,c,I.unwish,r,q⟩
theorem PSs.nox{st:List Qg}(h:PSs X.nox st t):PSs X st t:=λa_ s σ H D I b=>
 PP (h a_ s σ H D (I.wish _) b) (λ_ _ q=>q.unwish) λ_ _ z=>Rj z
variable{st:Qg}{rest:List Qg}{t u:TS}{e:Expr}{te:TE}{pos:TK}
noncomputable def Nl:TS:=λD σ H=>D.nx σ H
def Zv(t u:TS):TS:=λD σ H=>t {D with nx:=u D} σ H
theorem mq:PSs X [] Nl:=λ_ _ σ H _ I h=>WG ⟨σ,H,I,h⟩
theorem cr(c:PS X st t)(d:PSs X rest u):PSs X (st::rest) (Zv t u):=by
 intro a_ s σ H D I h;refine wpAny_execs_cons (eo (c a_ s σ H {D with nx:=u D} I h) λf g q=>?_);cases f with
 |next=>
  obtain⟨b,i,j,q⟩:=q;exact d a_ g b i D j q
 |ret v=>exact q
 |brk=>exact q
 |cont=>exact q
theorem gW(b:PS X st t):PSs X [st] t:=by
 intro a_ s σ H D I h;refine wpAny_execs_cons (eo (b a_ s σ H D I h) λf c q=>?_);cases f with
 |next=>exact WG q
 |ret v=>exact q
 |brk=>exact q
 |cont=>exact q
theorem dc.quiet{a_:List (Ou×Pa)}{σ:St}{H:Hp}{s:OD}(I:dc X a_ σ H s):interactive X.env=Ov:=by simp[interactive,I.ok.kind]
def wz(te:TE):TS:=λD σ H=>te σ H λ_ b=>D.nx σ b
theorem dh(b:PE X e te)(hs:Tv e Om pos.line X.env=QU Ov:=by rfl):PS X (.Expr e pos) (wz te):=by
 intro a_ s σ H D I h;exact wpAny_Expr_any (eo (b a_ s σ H _ I h) λv f ⟨x,c,d,r1,q1⟩=>⟨σ,c,d,q1⟩) I.quiet hs
def np(te:TE):TS:=λD σ H=>te σ H D.rt
theorem aw(b:PE X e te):PS X (.Return (on e) pos) (np te):=by
 intro a_ s σ H D I h;exact wpAny_Return_some (eo (b a_ s σ H _ I h) λv f ⟨x,c,d,r1,q1⟩=>⟨x,σ,c,d,r1,q1⟩)
def Zy(c:TT)(t u:TS):TS:=λD σ H=>c σ H λb d=>if b=Oq then t D σ d else u D σ d
theorem wO{a b:List Qg}(j:PT X c tc)(ha:PSs X a t)(k:PSs X b u):PS X (.If c a b pos) (Zy tc t u):=by
 intro a_ s σ H D I h;refine wpAny_If (eo (j a_ s σ H _ I h) λd f ⟨g,i,q1⟩=>?_);cases d with
 |true=>exact ha a_ f σ g D i q1
 |false=>exact k a_ f σ g D i q1
abbrev TG:=V->St->Hp->(St->Hp->Prop)->Prop
abbrev O2:=List V->St->Hp->(St->Hp->Prop)->Prop
def PG(X:Cx)(b:Expr)(t:TG):Prop:=
 ∀(a_:List (Ou×Pa)) (s:OD) (σ:St) (H:Hp) (v:V) (u:Oy) (Q:St->Hp->Prop),dc X a_ σ H s->aI v u->t v σ H Q->
  OK (O7 X.prog X.w) X.A (T1 b X.env u) (λ_ s'=>∃c d,dc X a_ c d s'/\Q c d) X.xe s
def Zm(X:Cx)(d:List Expr)(t:O2):Prop:=
 ∀(a_:List (Ou×Pa)) (s:OD) (σ:St) (H:Hp) (vs:List V) (us:List Oy) (Q:St->Hp->Prop),dc X a_ σ H s->au vs us->t vs σ H Q->
  OK (O7 X.prog X.w) X.A (assignInOrder ((UX d X.env).map (·.2)) us) (λ_ s'=>∃b c,dc X a_ b c s'/\Q b c) X.xe s
abbrev GE:=V->V->V->Hp->(Hp->Prop)->Prop
def GF(X:Cx)(t:GE):Prop:=
 ∀(a_:List (Ou×Pa)) (s:OD) (σ:St) (H:Hp) (o i v:V) (b c u:Oy) (Q:Hp->Prop),dc X a_ σ H s->aI o b->aI i c->aI v u->t o i v H Q->
  OK (O7 X.prog X.w) X.A (setItem b c u) (λ_ s'=>∃d,dc X a_ σ d s'/\Q d) X.xe s
abbrev Zk:=V->V->Hp->VK->Prop
def Zl(X:Cx)(op:Operator)(t:Zk):Prop:=
 ∀(a_:List (Ou×Pa)) (s:OD) (σ:St) (H:Hp) (x y:V) (v u:Oy) (Q:VK),dc X a_ σ H s->aI x v->aI y u->t x y H Q->
  OK (O7 X.prog X.w) X.A (inplaceOp op v u) (EP X a_ σ Q) X.xe s
def dE(i:Nat):TG:=λv σ H Q=>Q (σ.set i (on v)) H
theorem vx(b:X.N.Nodup)(c:X.N[i]?=on x)(d:zv X.env.scope x)(f:X.fn x=Oq\/X.env.scope.names.lookup x=on .local:=by first|exact .inl rfl|exact .inr rfl|assumption):PG X (.Name x pos) (dE i):=by
 intro a_ s σ H v u Q I r h;exact V5 (nz I b c d r (λs' g=>⟨_,H,g,h⟩) f)
noncomputable def gNil:O2:=λvs σ H Q=>vs=[]/\Q σ H
def xu(t:TG)(u:O2):O2:=λvs σ H Q=>∃v r,vs=v::r/\t v σ H λb c=>u r b c Q
theorem br:Zm X [] gNil:=by
 intro a_ s σ H vs us Q I r h;obtain⟨e,h⟩:=h;subst e;cases r;exact assignInOrder_nil ⟨σ,H,I,h⟩
theorem ax{e:Expr}{t:TG}{u:O2}(c:PG X e t)(d:Zm X es u)
  (hs:(UX (e::es) X.env).map (·.2)=T1 e X.env::(UX es X.env).map (·.2):=by rfl):Zm X (e::es) (xu t u):=by
 intro a_ s σ H vs us Q I r h;obtain⟨v,l,f,h⟩:=h;subst f;cases r with
 |cons r g=>
  rw[hs];refine assignInOrder_cons (eo (c a_ s σ H _ _ _ I r h) λ_ i ⟨b,j,k,q1⟩=>?_);exact d a_ i b j _ _ Q k g q1
def DL(K:OX)(n:Nat)(t:O2):TG:=λv σ H Q=>∃a xs,v= .ref a/\i_ K H a xs/\xs.length=n/\t xs σ H Q
theorem bM{t:O2}(g:X.calm=Oq)(h:Zm X es t)
  (hn:(UX es X.env).length=n:=by rfl) (c:(UX es X.env).findIdx? (·.1)=Om:=by rfl):PG X (.Tuple es k pos) (DL X.K n t):=by
 intro a_ s σ H v u Q I r d;obtain⟨a,xs,i,j,l,d⟩:=d;subst i;cases r;obtain⟨its,f,m,w⟩:=I.tuple j;refine assign_Tuple_tuple (I.ok.hd g) m (by simp[hn,<-l,f.length]) c λh' p=>?_;have q:dc X a_ σ H {s with heap:=h'}:=I.kept (t':=s.toks) λb o e=>p b o (Ps (O1 e)) e;exact h a_ _ σ H xs _ Q q (by simpa using f) d
def DM(to b:TE)(t:GE):TG:=λv σ H Q=>to σ H λo c=>b σ c λi d=>t o i v d λf=>Q σ f
theorem ij{t:GE}(d:PE X o to)(f:PE X i ti)(hs:GF X t)
  (ha:∀v,T1 (.Subscript o i pos) X.env v=(do
   let b <-SR [v] (P0 o X.env)
   let c <-SR [v,b] (P0 i X.env)
   Sm pos
   SR [v,b,c] (setItem b c v)
   release [v,b,c] []):=by intro _;rfl):PG X (.Subscript o i pos) (DM to ti t):=by
 intro a_ s σ H v u Q I r h;rw[ha];refine My (P4 (eo (d a_ s σ H _ I h) λb g ⟨x,j,k,r1,q1⟩=>?_));refine My (P4 (eo (f a_ g σ j _ k q1) λc l ⟨y,m,n,p,q2⟩=>?_));refine My (Q5 (My (P4 (eo (hs a_ l σ m x y v b c u _ n r1 p r q2) λ_ A ⟨q,w,q3⟩=>?_))));exact wpAny_release ⟨σ,q,w,q3⟩
def fj(te:TE)(g:TG):TS:=λD σ H=>te σ H λx b=>g x σ b D.nx
theorem fA{tg e:Expr}{te:TE}(b:PE X e te)(c:PG X tg g)(hs:swapsWithSole [tg] e pos.line X.env=QU Ov:=by rfl)(d:swappedStores [tg] e X.env=QU Om:=by rfl)
  (f:(UX [tg] X.env).map (·.2)=[T1 tg X.env]:=by rfl):PS X (.Assign [tg] e pos) (fj te g):=by
 intro a_ s σ H D I h;refine wpAny_Assign_stores (eo (b a_ s σ H _ I h) λv i ⟨x,j,k,r1,q1⟩=>?_) hs d;rw[f];exact eo (c a_ i σ j x v _ k r1 q1) λ_ l q=>q
theorem oZ{e:Expr}{te:TE}(b:X.N.Nodup)(c:X.N[i]?=on x)(d:zv X.env.scope x)(f:PE X e te)(hs:Tv e (on (.Name x pos')) pos.line X.env=QU Ov:=by rfl)(g:X.fn x=Oq\/X.env.scope.names.lookup x=on .local:=by first|exact .inl rfl|exact .inr rfl|assumption):
  PS X (.Assign [.Name x pos'] e pos) (fj te (dE i)):=by
 intro a_ s σ H D I h;refine wpAny_Assign_Name (eo (f a_ s σ H _ I h) λv m ⟨y,j,k,r1,q1⟩=>?_) hs;exact nz k b c d r1 (λn l=>⟨_,j,l,q1⟩) g
def Kn(i:Nat)(te:TE)(b:Zk):TS:=λD σ H=>∃x,σ[i]?=on (on x)/\te σ H λy c=>b x y c λz d=>D.nx (σ.set i (on z)) d
theorem kZ{e:Expr}{te:TE}(o:X.N.Nodup)(n:X.N[i]?=on x)(g:zv X.env.scope x)(p:PE X e te)(q:Zl X op ti)(B:X.fn x=Oq\/X.env.scope.names.lookup x=on .local:=by first|exact .inl rfl|exact .inr rfl|assumption):
  PS X (.AugAssign (.Name x pos') op e pos) (Kn i te ti):=by
 intro a_ s σ H D I h;obtain⟨v,C,h⟩:=h;obtain⟨m,hn,F⟩:=I.loc;have j:YU X.env.scope x:=by rcases g with k|k;exact .inl k;exact .inr (.inl k)
 obtain⟨u,r,l⟩:=F i x v n C j;refine wpAny_AugAssign_Name ?_;have go:OK (O7 X.prog X.w) X.A (P0 e X.env) (λw d=>OK (O7 X.prog X.w) X.A (inplaceOp op u w) (λr f=>OK (O7 X.prog X.w) X.A (storeName X.env x r) (λ_=>SP X a_ D .next) X.xe f) X.xe d) X.xe s:=by
  refine eo (p a_ s σ H _ I h) λw J ⟨y,L,O,r1,q1⟩=>?_;refine eo (q a_ J σ L v y u w _ O r r1 q1) λz W ⟨Y,P,Q,R,q2⟩=>?_;exact nz Q o n g R (λZ T=>⟨_,P,T,q2⟩) B
 rcases l with⟨hk,hm⟩|⟨hk,c,U,b⟩
 .exact wpAny_loadName_local I.ok.kind hk hn hm go
 .rcases hk with hk|hk
  .exact wpAny_loadName_cell I.ok.kind hk U b go
  .rcases g with k|k
   .have:X.env.scope.names.lookup x=on .free:=hk
    rw[k]at this;cases this
   .have:X.env.scope.names.lookup x=on .free:=hk
    rw[k]at this;cases this
def ipI(f:Int->Int->Int):Zk:=λx y H Q=>∃i j,x= .int i/\y= .int j/\Q (.int (f i j)) H
theorem zJ:Zl X .Add (ipI λi j=>i+j):=by
 intro a_ s σ H x y v u Q I r1 b h;obtain⟨i,j,c,d,q⟩:=h;subst c;subst d;obtain⟨t,rfl⟩:=r1;obtain⟨t',rfl⟩:=b;exact iadd_int ⟨.int _,H,I.tok _,⟨_,rfl⟩,q⟩
structure It where
 go:Nat->Hp->Prop
 yld:Nat->Hp->V->Hp->Prop
 stop:Nat->Hp->Prop
def eL(X:Cx)(a_:List (Ou×Pa))(H:Hp)(b:Ou):Prop:=
 H b=Om/\b≠X.env.locals/\b∉X.fs/\(b∈X.ex\/X.s₀.heap.objs.size<=b)/\(∀x c,X.env.cells.lookup x=on c->c≠b)/\∀p∈X.pn++a_,p.1≠b
theorem dc.fpOk{X:Cx}{a_:List (Ou×Pa)}{σ:St}{H f:Hp}{s:OD}{b:Ou}(I:dc X a_ σ H s)(d:s.heap.objs.size<=b)(hn:f b=Om):eL X a_ f b:=by
 refine⟨hn,Rf (O3 I.lt d),I.nofs d,.inr (OS I.sz d),λx c e z=>?_,λp g z=>?_⟩
 .obtain⟨v,q⟩:=I.cell x c e
  exact O4 (O3 q.lt (by rw[z];exact d)) (PH _)
 .exact O4 (O3 (O1 (I.pin p g).1) (by rw[z];exact d)) (PH _)
structure nw (P:Pf) (w:Po) (K:OX) (tg:Expr) (J:It) (fp:List Ou) (it:Ou) (tn:Nat->P5->Prop):Prop where
 mem:it∈fp
 obj:∀i h,tn i h->∀b∈fp,∃o,h.get? b=on o/\∀v,o.data≠ .cell v
 keep:∀i h h',tn i h->(∀b∈fp,∀o,h.get? b=on o->h'.get? b=on o)->tn i h'
 item:∀(X:Cx),X.prog=P->X.w=w->X.K=K->X.calm=Oq->∀(i:Nat) (a_:List (Ou×Pa)) (s:OD) (σ:St) (H:Hp) (E:Oy->OD->Prop),dc X a_ σ H s->(∀b∈fp,eL X a_ H b)->tn i s.heap->J.go i H->
  OK (O7 P w) X.A (Sd (.ref it)) (λr s1=>∃u,r=on u/\
   OK (O7 P w) X.A (T4 tg (.ref it) u) (λ_ s2=>∃x H',dc X a_ σ H' s2/\aI x u/\J.yld i H x H'/\tn (i+1) s2.heap/\∀b∈fp,H' b=Om) E s1) E s
 done:∀(X:Cx),X.prog=P->X.w=w->X.K=K->X.calm=Oq->∀(i:Nat) (a_:List (Ou×Pa)) (s:OD) (σ:St) (H:Hp) (E:Oy->OD->Prop),dc X a_ σ H s->(∀b∈fp,eL X a_ H b)->tn i s.heap->J.stop i H->
  OK (O7 P w) X.A (Sd (.ref it)) (λr s1=>r=Om/\dc X a_ σ H s1) E s
 self:∀(A:PV) (i:Nat) (s:OD) (Q:Oy->OD->Prop) (E:Oy->OD->Prop),tn i s.heap->Q (.ref it) s->OK (O7 P w) A (UZ (.ref it)) Q E s
abbrev TI:=St->Hp->(It->Hp->Prop)->Prop
def PIE(X:Cx)(a_:List (Ou×Pa))(σ:St)(tg:Expr)(R:It->Hp->Prop)(c:Oy)(f:OD):Prop:=
 ∃(it:Ou) (g:List Ou) (h:Nat->P5->Prop) (J:It) (d:Hp),c= .ref it/\dc X a_ σ d f/\nw X.prog X.w X.K tg J g it h/\h 0 f.heap/\(∀b∈g,eL X a_ d b)/\R J d
def PI(X:Cx)(tg b:Expr)(c:TI):Prop:=
 ∀(a_:List (Ou×Pa)) (s:OD) (σ:St) (H:Hp) (R:It->Hp->Prop),dc X a_ σ H s->c σ H R->
  OK (O7 X.prog X.w) X.A (P0 b X.env) (λv d=>OK (O7 X.prog X.w) X.A (UZ v) (PIE X a_ σ tg R) X.xe d) X.xe s
theorem rX{M:Model}{E:Oy->OD->Prop}{s:OD}{u:Oy}{o:Pa}(c:s.heap.get? it=on o)(d:o.cls= .type n)(hd:o.data= .fields vs)
  (hn:["enumerate","zip","dict_itemiterator","dict_reverseitemiterator","odict_iterator","itertools.zip_longest","itertools.pairwise"].contains n=Ov) (b:Q () s):OK M A (T4 tg (.ref it) u) Q E s:=by
 unfold T4;cases tg<;>first
  |exact On b
  |(cases u<;>first
   |exact On b
   |(refine My (wpAny_load c ?_)
     rw[d,hd];show OK M A (if(["enumerate","zip","dict_itemiterator","dict_reverseitemiterator","odict_iterator","itertools.zip_longest","itertools.pairwise"].contains n&&vs[0]?==on (R4 _))=Oq then _ else _) Q E s;rw[OC (by intro h;rw[hn,TL]at h;cases h)];exact On b))
noncomputable def YX(K:OX)(a:Ou):It:=
 ⟨λi H=>∃xs x,fx K H a xs/\xs[i]?=on x,λi H x b=>b=H/\∀xs,fx K H a xs->xs[i]?=on x,λi H=>∃xs,fx K H a xs/\xs.length<=i⟩
noncomputable def Itt(K:OX)(a:Ou):It:=
 ⟨λi H=>∃xs x,i_ K H a xs/\xs[i]?=on x,λi H x b=>b=H/\∀xs,i_ K H a xs->xs[i]?=on x,λi H=>∃xs,i_ K H a xs/\xs.length<=i⟩
noncomputable def YW(lo:Int)(n:Nat):It:=⟨λi _=>i<n,λi H x b=>b=H/\x= .int (lo+i),λi _=>n<=i⟩
theorem qE{K:OX}(a it:Ou):nw P w K tg (YX K a) [it] it (λi h=>h.IsListIter it a i) where
 mem:=by simp
 obj:=λi h st b f=>by
  have e:b=it:=by simpa using f
  subst e;obtain⟨o,e,c,d⟩:=st;exact⟨o,e,λv z=>by rw[d]at z;cases z⟩
 keep:=λi h h' st k=>st.at λo e=>k it (by simp) o e
 item:=by
  intro X m n q L i a_ s σ H E I j st r;subst m n q;obtain⟨xs,x,l,y⟩:=r;obtain⟨its,A,p,N⟩:=I.list l;obtain⟨u,O,Q⟩:=A.get y;obtain⟨B,f1,f2,C,F,J⟩:=j it (by simp);refine wpAny_pyNext_list_item st p.isList (x:=u) (by simpa using O) λh' g R=>?_;have T:dc X a_ σ H {s with heap:=h'}:=I.turned (t':=s.toks) (λb o f e=>(R.2 b f).trans e) B f1 C F J;obtain⟨o,e,c,d⟩:=id g;exact⟨u,rfl,rX (s:={s with heap:=h'}) e c d (by decide) ⟨x,H,T,Q,⟨rfl,λys U=>by rw[I.list_inj U l];exact y⟩,g,λb f=>(j b f).1⟩⟩
 done:=by
  intro X m n q L i a_ s σ H E I j st r;subst m n q;obtain⟨xs,l,y⟩:=r;obtain⟨its,A,p,N⟩:=I.list l;obtain⟨B,f1,f2,C,F,J⟩:=j it (by simp);have Y:=A.length;exact wpAny_pyNext_list_end (I.ok.hd L) st p.isList (by simp;omega) λh' W=>⟨rfl,I.turned (t':=s.toks) (λb o f e=>W b o f e) B f1 C F J⟩
 self:=λ_ _ _ _ _ st h=>wpAny_pyIter_listiter st h
theorem wr{K:OX}(a it:Ou):nw P w K tg (Itt K a) [it] it (λi h=>h.IsTupleIter it a i) where
 mem:=by simp
 obj:=λi h st b f=>by
  have e:b=it:=by simpa using f
  subst e;obtain⟨o,e,c,d⟩:=st;exact⟨o,e,λv z=>by rw[d]at z;cases z⟩
 keep:=λi h h' st k=>st.at λo e=>k it (by simp) o e
 item:=by
  intro X m n q L i a_ s σ H E I j st r;subst m n q;obtain⟨xs,x,l,y⟩:=r;obtain⟨its,A,p,N⟩:=I.tuple l;obtain⟨u,O,Q⟩:=A.get y;obtain⟨B,f1,f2,C,F,J⟩:=j it (by simp);refine wpAny_pyNext_tuple_item st (show s.heap.IsTuple a its.toArray from p) (x:=u) (by simpa using O) λh' g R=>?_;have T:dc X a_ σ H {s with heap:=h'}:=I.turned (t':=s.toks) (λb o f e=>(R.2 b f).trans e) B f1 C F J;obtain⟨o,e,c,d⟩:=id g;exact⟨u,rfl,rX (s:={s with heap:=h'}) e c d (by decide) ⟨x,H,T,Q,⟨rfl,λys U=>by rw[I.tuple_inj U l];exact y⟩,g,λb f=>(j b f).1⟩⟩
 done:=by
  intro X m n q L i a_ s σ H E I j st r;subst m n q;obtain⟨xs,l,y⟩:=r;obtain⟨its,A,p,N⟩:=I.tuple l;obtain⟨B,f1,f2,C,F,J⟩:=j it (by simp);have Y:=A.length;exact wpAny_pyNext_tuple_end (I.ok.hd L) st (show s.heap.IsTuple a its.toArray from p) (by simp;omega) λh' W=>⟨rfl,I.turned (t':=s.toks) (λb o f e=>W b o f e) B f1 C F J⟩
 self:=λ_ _ _ _ _ st h=>wpAny_pyIter_tupleiter st h
theorem wu{K:OX}(it:Ou)(lo:Int)(n:Nat):nw P w K tg (YW lo n) [it] it (λi h=>Ws h it (lo+(i:Nat)*1) ((n:Int)-(i:Nat)) 1) where
 mem:=by simp
 obj:=λi h st b c=>by
  have e:b=it:=by simpa using c
  subst e;exact⟨_,st,λv z=>by
   have C:Data.fields _=Data.cell v:=z;cases C⟩
 keep:=λi h h' st k=>k it (by simp) _ st
 item:=by
  intro X g j l m i a_ s σ H E I f st p;subst g j l;obtain⟨q,f1,f2,r,y,A⟩:=f it (by simp);have W:=Walks.range (prog:=X.prog) (w:=X.w) (I.ok.hd m) it lo 1 n;refine W.item i s _ _ p st λv h' B F d J=>?_;obtain⟨t,rfl⟩:=F;have L:dc X a_ σ H {s with heap:=h',toks:=B}:=I.turned (λb o c e=>J b o (by simpa using c) e) q f1 r y A;refine⟨_,rfl,rX (s:={s with heap:=h',toks:=B}) (n:="range_iterator") d rfl rfl (by decide) ⟨.int (lo+i),H,L,⟨t,?_⟩,⟨rfl,rfl⟩,d,λb c=>(f b c).1⟩⟩;rw[Int.mul_one]
 done:=by
  intro X g j l m i a_ s σ H E I f st p;subst g j l;obtain⟨q,f1,f2,r,y,A⟩:=f it (by simp);exact Yt (I.ok.hd m) st (by have:n<=i:=p;omega) λh' N=>⟨rfl,I.turned (t':=s.toks) (λb o c e=>N b o c e) q f1 r y A⟩
 self:=λ_ _ _ _ _ st h=>U3 st h
variable{tg:Expr}
def N8(K:OX)(c:TE):TI:=λσ H R=>c σ H λx b=>∃a,x= .ref a/\(∃xs,fx K b a xs)/\R (YX K a) b
theorem Jo(f:PE X l tl):PI X tg l (N8 X.K tl):=by
 intro a_ s σ H R I h;refine eo (f a_ s σ H _ I h) λv c ⟨x,g,d,r1,q1⟩=>?_;obtain⟨a,e,⟨xs,i⟩,q⟩:=q1;subst e;cases r1;obtain⟨its,k,p,m⟩:=d.list i;refine UG p.isList ?_;refine⟨c.heap.objs.size,[c.heap.objs.size],_,_,g,rfl,d.kept (t':=c.toks) λb o e=>Oo _ e,qE a _,⟨_,OL _ rfl,rfl,rfl⟩,λb j=>?_,q⟩;have e:b=c.heap.objs.size:=by simpa using j
 subst e;exact d.fpOk (OG _) (d.hok.fresh (OG _))
theorem tF{a_:List (Ou×Pa)}{σ:St}{H:Hp}{s:OD}{E:Oy->OD->Prop}{lo c:Int}{t u v:Tok}(I:dc X a_ σ H s)(f:-(2^62)<=lo)(g:lo<2^62)(h:-(2^62)<=c)(i:c<2^62)
  (q:R (YW lo (c-lo).toNat) H):OK (O7 X.prog X.w) X.A (UZ (.ref s.heap.objs.size)) (PIE X a_ σ tg R) E {s with heap:=s.heap.push {cls:= .type "range",data:= .fields #[.int lo t,.int c u,.int 1 v]},toks:=tk}:=by
 refine wpAny_pyIter_range (IsRange.new ..) (small_one f g h i) ?_;have d:dc X a_ σ H {s with heap:=s.heap.push {cls:= .type "range",data:= .fields #[.int lo t,.int c u,.int 1 v]},toks:=tk}:=I.kept λb o e=>Oo _ e;refine⟨(s.heap.push {cls:= .type "range",data:= .fields #[.int lo t,.int c u,.int 1 v]}).objs.size,[(s.heap.push {cls:= .type "range",data:= .fields #[.int lo t,.int c u,.int 1 v]}).objs.size],_,_,H,rfl,
  d.kept (t':=tk) λb o e=>Oo _ e,wu _ lo (c-lo).toNat,?_,λb j=>?_,q⟩
 .have k:lo+((0:Nat):Int)*1=lo:=by simp
  have l:(((c-lo).toNat:Nat):Int)-((0:Nat):Int)=Vq lo c 1:=by rw[rangeSize_one];split<;>omega
  show Ws _ _ (lo+((0:Nat):Int)*1) ((((c-lo).toNat:Nat):Int)-((0:Nat):Int)) 1;rw[k,l];exact OL _ rfl
 .have e:b=(s.heap.push {cls:= .type "range",data:= .fields #[.int lo t,.int c u,.int 1 v]}).objs.size:=by simpa using j
  subst e;exact d.fpOk (OG _) (d.hok.fresh (OG _))
def N6(b:TA):TI:=λσ H R=>b σ H λvs c=>∃j:Int,vs=[.int j]/\-(2^62)<=j/\j<2^62/\R (YW 0 j.toNat) c
def N5(b:TA):TI:=λσ H R=>b σ H λvs c=>∃i j:Int,vs=[.int i,.int j]/\(-(2^62)<=i/\i<2^62/\-(2^62)<=j/\j<2^62)/\R (YW i (j-i).toNat) c
theorem yR{a:Expr}{p pos:TK}(b:Gl X "range")(hm:X.mg "range"=Om)(ha:PA X [a] ta)(hs:OM [a] X.env=[(Ov,P0 a X.env)]:=by rfl):PI X tg (.Call (.Name "range" p) [a] [] pos) (N6 ta):=by
 intro a_ s σ H R I h;refine Call_ (fI I b hm boot_range (Qj (eo (ha pos a_ s σ H _ I h) λus f ⟨vs,g,c,r1,q1⟩=>?_) hs rfl));obtain⟨j,e,q1,q2,q⟩:=q1;subst e;cases r1 with
 |cons r d=>
  cases d;obtain⟨t,rfl⟩:=r;exact call_range_1 (tF c (by omega) (by omega) q1 q2 (by simpa using q))
theorem yQ{a b:Expr}{p pos:TK}(f:Gl X "range")(hm:X.mg "range"=Om)(ha:PA X [a,b] ta)(hs:OM [a,b] X.env=[(Ov,P0 a X.env),(Ov,P0 b X.env)]:=by rfl)(c:OM [b] X.env=[(Ov,P0 b X.env)]:=by rfl):
  PI X tg (.Call (.Name "range" p) [a,b] [] pos) (N5 ta):=by
 intro a_ s σ H R I h;refine Call_ (fI I f hm boot_range (Qj (eo (ha pos a_ s σ H _ I h) λus l ⟨vs,m,g,r1,q1⟩=>?_) (by rw[hs,c]) (by rw[c];rfl)));obtain⟨i,j,e,⟨q1,q2,q3,q4⟩,q⟩:=q1;subst e;cases r1 with
 |cons r d=>
  cases d with
  |cons k d=>
   cases d;obtain⟨t,rfl⟩:=r;obtain⟨t',rfl⟩:=k;exact call_range_2 (tF g q1 q2 q3 q4 q)
def wy(h:TI)(g:TG)(j:TS):TS:=λD σ H=>h σ H λJ k=>∃W:Nat->Nat->St->Hp->Prop,(∃m,W 0 m σ k)/\∀i m σ H,W i m σ H->
 (J.stop i H/\D.nx σ H)\/(J.go i H/\∃N:St->Hp->Prop,(∀b c,N b c->∃f,f<m/\W (i+1) f b c)/\∀x c,J.yld i H x c->g x σ c λd l=>j {D with nx:=N,ct:=N,bk:=D.nx} d l)
noncomputable def k4(c:List Ou)(h:P5):List (Ou×Pa):=c.filterMap λb=>(h.get? b).map λo=>(b,o)
theorem gQ{h:P5}(c:b∈fp)(e:h.get? b=on o):(b,o)∈k4 fp h:=TU.mpr ⟨b,c,by rw[e];rfl⟩
theorem yZ{h:P5}{p:Ou×Pa}(c:p∈k4 fp h):p.1∈fp/\h.get? p.1=on p.2:=by
 obtain⟨b,d,e⟩:=TU.mp c;cases q:h.get? b with
 |none=>rw[q]at e;cases e
 |some o=>
  rw[q]at e;have f:(b,o)=p:=Pb e;subst f;exact⟨d,q⟩
theorem dc.pinned{a_:List (Ou×Pa)}{σ:St}{H:Hp}{s:OD}(I:dc X a_ σ H s)(g:∀b∈fp,eL X a_ H b)(h:∀b∈fp,∃o,s.heap.get? b=on o/\∀v,o.data≠ .cell v):dc X (a_++k4 fp s.heap) σ H s:=
 I.pins_of λp i=>(Qd.mp i).elim (λz=>I.pin p (Pt _ z)) λz=>by
  obtain⟨c,e⟩:=yZ z;obtain⟨j,f1,f2,_⟩:=g p.1 c;obtain⟨o,f,d⟩:=h p.1 c;rw[e]at f;cases f;exact⟨e,j,f1,f2,d⟩
theorem dc.unpinned{a_ pl:List (Ou×Pa)}{σ:St}{H:Hp}{s:OD}(I:dc X (a_++pl) σ H s):dc X a_ σ H s:=I.pins_of λp b=>I.pin p (Pt _ (Rw _ b))
theorem bj{pos:TK}(L:PassesOwn (O7 X.prog X.w) X.A X.env X.xe)(hc:X.calm=Oq)(hi:PI X tg iter wi)(hg:PG X tg g)(j:PSs X body tb)
  (hs:∀x,PD iter X.env x=QU x:=by intro _;rfl):PS X (.For tg iter body [] pos) (wy wi g tb):=by
 intro a_ s σ H D I h;refine wpAny_For (eo (hi a_ s σ H _ I h) λv s1 h1=>eo h1 λitv s2 h2=>?_) hs;obtain⟨it,O,tn,J,H2,e,I2,T,Z,f2,W,⟨m0,w0⟩,P⟩:=h2;subst e
 --what stays Oq of the iterator's objects through the loop
 have k:∀{B:Hp},(∀b∈O,B b=Om)->∀b∈O,eL X a_ B b:=λhn b j=>⟨hn b j,(f2 b j).2⟩;refine codeAny_forLoop_any (λn s'=>∃i l B,dc X a_ l B s'/\tn i s'.heap/\(∀b∈O,B b=Om)/\W i n l B) ?_ m0 ⟨0,σ,H2,I2,Z,λb j=>(f2 b j).1,w0⟩;rintro n s3 ⟨i,p,Y,I3,Q,R,w3⟩;rcases P i n p Y w3 with⟨stop,qn⟩|⟨go,N,hN,step⟩
 .refine T5 L (eo (T.done X rfl rfl rfl hc i a_ s3 p Y X.xe I3 (k R) Q stop) λr s4 ⟨hr,I4⟩=>?_)
  subst hr;exact WG ⟨p,Y,I4,qn⟩
 .refine T5 L (eo (T.item X rfl rfl rfl hc i a_ s3 p Y X.xe I3 (k R) Q go) λr s4 ⟨u,hr,h4⟩=>?_)
  subst hr;refine T5 L (eo h4 λ_ s5 ⟨x,H5,I5,r5,y5,F,fr5⟩=>?_);have I5':=I5.pinned (k fr5) (T.obj _ _ F);refine T5 L (eo (hg _ s5 p H5 x u _ I5' r5 (step x H5 y5)) λ_ s6 ⟨σ6,H6,I6,q6⟩=>?_);refine T5 L (eo (j _ s6 σ6 H6 _ I6 q6) λf s7 C=>?_);have VC:∀{c:St} {q:Hp},dc X (a_++k4 O s5.heap) c q s7->N c q->∃m,m<n/\∃i l B,dc X a_ l B s7/\tn i s7.heap/\(∀b∈O,B b=Om)/\W i m l B:=λ{c q} y U=>by
   obtain⟨m',hm,w7⟩:=hN c q U;refine⟨m',hm,i+1,c,q,y.unpinned,T.keep _ _ _ F λb j o e=>(y.pin (b,o) (Pt _ (Pt _ (gQ j e)))).1,λb j=>?_,w7⟩;obtain⟨o,e,d⟩:=T.obj _ _ F b j;exact(y.pin (b,o) (Pt _ (Pt _ (gQ j e)))).2.1
  cases f with
  |next=>obtain⟨c,q,y,U⟩:=C;exact VC y U
  |cont=>obtain⟨c,q,y,U⟩:=C;exact VC y U
  |brk=>obtain⟨c,q,y,C⟩:=C;exact⟨c,q,y.unpinned,C⟩
  |ret v=>obtain⟨x7,c,q,y,r7,C⟩:=C;exact⟨x7,c,q,y.unpinned,r7,C⟩
abbrev R2:=V->V->Hp->VK->Prop
def gs(X:Cx)(f:Oy->Oy->Sem Oy)(r:R2):Prop:=
 ∀(a_:List (Ou×Pa)) (s:OD) (σ:St) (H:Hp) (x y:V) (v u:Oy) (Q:VK),dc X a_ σ H s->aI x v->aI y u->r x y H Q->
  OK (O7 X.prog X.w) X.A (f v u) (EP X a_ σ Q) X.xe s
def Zi(X:Cx)(f:Oy->Sem Oy)(r:V->Hp->VK->Prop):Prop:=
 ∀(a_:List (Ou×Pa)) (s:OD) (σ:St) (H:Hp) (x:V) (v:Oy) (Q:VK),dc X a_ σ H s->aI x v->r x H Q->
  OK (O7 X.prog X.w) X.A (f v) (EP X a_ σ Q) X.xe s
def cP(X:Cx)(f:Oy)(r:List V->Hp->VK->Prop):Prop:=
 ∀(a_:List (Ou×Pa)) (s:OD) (σ:St) (H:Hp) (xs:List V) (us:List Oy) (Q:VK),dc X a_ σ H s->au xs us->r xs H Q->
  OK (O7 X.prog X.w) X.A (VI f us) (EP X a_ σ Q) X.xe s
def TruR(X:Cx)(r:V->Hp->(Bool->Hp->Prop)->Prop):Prop:=
 ∀(a_:List (Ou×Pa)) (s:OD) (σ:St) (H:Hp) (x:V) (v:Oy) (Q:Bool->Hp->Prop),dc X a_ σ H s->aI x v->r x H Q->
  OK (O7 X.prog X.w) X.A (truthy v) (TP X a_ σ Q) X.xe s
def S_(r:R2)(b c:TE):TE:=λσ H Q=>b σ H λx d=>c σ d λy f=>r x y f Q
def tUn(r:V->Hp->VK->Prop)(b:TE):TE:=λσ H Q=>b σ H λx c=>r x c Q
def rI(C:Int->Int->Prop)(g:Int->Int->V):R2:=λx y H Q=>∃i j,x= .int i/\y= .int j/\C i j/\Q (g i j) H
def p3(g:Int->Int->V):R2:=λx y H Q=>∃i j,x= .int i/\y= .int j/\Q (g i j) H
def rU(g:Int->V):V->Hp->VK->Prop:=λx H Q=>∃i,x= .int i/\Q (g i) H
end
section
variable{X:Cx}{a b c:Expr}{ta tb tc:TE}{pos:TK}
theorem EB(ha:PE X a ta)(m:PE X b tb){d:List (Ou×Pa)}{s:OD}{e:St}{H:Hp}{R:V->V->Hp->Prop}(I:dc X d e H s)
  (h:ta e H λx l=>tb e l λy g=>R x y g) {Q:Oy->OD->Prop} {f:Oy->Oy->Sem Oy}
  (n:∀v u k x y g,dc X d e g k->aI x v->aI y u->R x y g->OK (O7 X.prog X.w) X.A (f v u) Q X.xe k):
  OK (O7 X.prog X.w) X.A (P0 a X.env) (λv i=>OK (O7 X.prog X.w) X.A (P0 b X.env) (λu j=>OK (O7 X.prog X.w) X.A (f v u) Q X.xe j) X.xe i) X.xe s:=by
 refine eo (ha d s e H _ I h) λv o ⟨x,l,p,r1,q1⟩=>?_;refine eo (m d o e l _ p q1) λu k ⟨y,g,q,r,q2⟩=>?_;exact n v u k x y g q r1 r q2
theorem dC(e:gs X (Ru op) r)(ha:PE X a ta)(f:PE X b tb):PE X (.BinOp a op b pos) (S_ r ta tb):=by
 intro d s g H Q I h;exact wpAny_BinOp (EB ha f I h λv u i x y j k l m q=>e d i g j x y v u Q k l m q)
theorem NB(f:Zi X (unaryOp op) r)(ha:PE X a ta):PE X (.UnaryOp op a pos) (tUn r ta):=by
 intro d s e H Q I h;exact UnaryOp_ (eo (ha d s e H _ I h) λv g ⟨x,i,j,r1,q1⟩=>f d g e i x v Q j r1 q1)
theorem n_{f:Oy->Oy->Sem Oy}{C:Int->Int->Prop}{g:Int->Int->Int}
  (d:∀(i j:Int) (t u:Tok) (s:OD) (Q:Oy->OD->Prop) (E:Oy->OD->Prop),C i j->Q (.int (g i j) s.toks) {s with toks:=s.toks+1}->OK (O7 X.prog X.w) X.A (f (.int i t) (.int j u)) Q E s):
  gs X f (rI C λi j=> .int (g i j)):=by
 intro e s n H x y v u Q I k l h;obtain⟨i,j,rfl,rfl,m,q⟩:=h;obtain⟨t,rfl⟩:=k;obtain⟨t',rfl⟩:=l;exact d i j t t' s _ _ m ⟨.int (g i j),H,I.tok _,⟨_,rfl⟩,q⟩
theorem Lh{f:Oy->Oy->Sem Oy}{g:Int->Int->Int}
  (d:∀(i j:Int) (t u:Tok) (s:OD) (Q:Oy->OD->Prop) (E:Oy->OD->Prop),Q (.int (g i j) s.toks) {s with toks:=s.toks+1}->OK (O7 X.prog X.w) X.A (f (.int i t) (.int j u)) Q E s):
  gs X f (p3 λi j=> .int (g i j)):=by
 intro e s m H x y v u Q I k l h;obtain⟨i,j,rfl,rfl,q⟩:=h;obtain⟨t,rfl⟩:=k;obtain⟨t',rfl⟩:=l;exact d i j t t' s _ _ ⟨.int (g i j),H,I.tok _,⟨_,rfl⟩,q⟩
theorem wQ{f:Oy->Oy->Sem Oy}{g:Int->Int->Bool}
  (d:∀(i j:Int) (t u:Tok) (s:OD) (Q:Oy->OD->Prop) (E:Oy->OD->Prop),Q (.bool (g i j)) s->OK (O7 X.prog X.w) X.A (f (.int i t) (.int j u)) Q E s):
  gs X f (p3 λi j=> .bl (g i j)):=by
 intro e s m H x y v u Q I k l h;obtain⟨i,j,rfl,rfl,q⟩:=h;obtain⟨t,rfl⟩:=k;obtain⟨t',rfl⟩:=l;exact d i j t t' s _ _ ⟨.bl (g i j),H,I,rfl,q⟩
def CDiv(i j:Int):Prop:=0<j/\j<1073741824
def CPow(i j:Int):Prop:=0<=j/\j<=1000000/\i.natAbs<2^64
def GH(i j:Int):Prop:=(-(2^64)<i/\i<2^64)\/(-(2^64)<j/\j<2^64)
theorem GH.ok(h:GH i j):IntMulOk i j:=by
 rcases h with⟨d,e⟩|⟨d,e⟩
 .exact .of_left (intBits_le_64 d e)
 .exact .of_right (intBits_le_64 d e)
theorem o4:gs X (Ru .Add) (p3 λi j=> .int (i+j)):=Lh λ_ _ _ _ _ _ _ q=>add_int q
theorem fF:gs X (Ru .Sub) (p3 λi j=> .int (i-j)):=Lh λ_ _ _ _ _ _ _ q=>sub_int q
theorem Le:gs X (Ru .Mult) (rI GH λi j=> .int (i*j)):=n_ λ_ _ _ _ _ _ _ d q=>mul_int q d.ok
theorem vD:gs X (Ru .FloorDiv) (rI CDiv λi j=> .int (i/j)):=n_ λi j _ _ _ _ _ d q=>by
 have e:(0:Int)<j:=d.1;have f:j<1073741824:=d.2;exact floordiv_int (by omega) (by rw[TY i (by omega)];exact q) (.inl (PyProof.noPylong_small (by omega)))
theorem k7:gs X (Ru .Mod) (rI (λ_ j=>0<j) λi j=> .int (i % j)):=n_ λi j _ _ _ _ _ d q=>by
 have e:(0:Int)<j:=d;exact mod_int' (by omega) (by rw[Int.fmod_eq_emod_of_nonneg i (by omega)];exact q)
theorem Lc:gs X (Ru .Pow) (rI CPow λi j=> .int (i^j.toNat)):=n_ λ_ _ _ _ _ _ _ d q=>pow_int_small d.1 d.2.1 d.2.2 q
theorem unI{f:Oy->Sem Oy}{g:Int->Int}
  (d:∀(i:Int) (t:Tok) (s:OD) (Q:Oy->OD->Prop) (E:Oy->OD->Prop),Q (.int (g i) s.toks) {s with toks:=s.toks+1}->OK (O7 X.prog X.w) X.A (f (.int i t)) Q E s):
  Zi X f (rU λi=> .int (g i)):=by
 intro e s k H x v Q I j h;obtain⟨i,rfl,q⟩:=h;obtain⟨t,rfl⟩:=j;exact d i t s _ _ ⟨.int (g i),H,I.tok _,⟨_,rfl⟩,q⟩
theorem sG:Zi X (unaryOp .USub) (rU λi=> .int (-i)):=unI λ_ _ _ _ _ q=>neg_int q
noncomputable def BJ:V->V->Bool
 | .non,.non=>Oq| .non,.int _=>Oq| .int _,.non=>Oq| .non,.bl _=>Oq| .bl _,.non=>Oq| .non,.str _=>Oq| .str _,.non=>Oq
 | .int _,.int _=>Oq| .bl _,.bl _=>Oq| .str _,.str _=>Oq
 | .int _,.str _=>Oq| .str _,.int _=>Oq| .bl _,.str _=>Oq| .str _,.bl _=>Oq
 |_,_=>Ov
noncomputable def ZJ:R2:=λx y H Q=>BJ x y=Oq/\Q (.bl (decide (x=y))) H
noncomputable def ZH:R2:=λx y H Q=>BJ x y=Oq/\Q (.bl (!decide (x=y))) H
theorem v8:decide (V.int i=V.int j)=(i==j):=by
 rw[Tl];simp
theorem B3{i j:Bool}:decide (V.bl i=V.bl j)=(i==j):=by
 rw[Tl];simp
theorem v7:decide (V.str i=V.str j)=(i==j):=by
 rw[Tl];simp
theorem dt{k d:Bool}(I:dc X a_ σ H s)(q:Q (.bl k) H)(e:k=d):EP X a_ σ Q (.bool d) s:=by
 subst e;exact⟨.bl k,H,I,rfl,q⟩
theorem NF:gs X (P7 .Eq) ZJ:=by
 intro f s g H x y v u Q I e d h;obtain⟨hs,q⟩:=h;cases x with
 |non=>
  cases e;cases y with
  |non=>cases d;exact PySem.EqNone.eq_none_none (dt I q (by simp))
  |bl j=>cases d;exact PySem.EqNone.eq_none_bool (dt I q (by simp))
  |int j=>obtain⟨t',rfl⟩:=d;exact PySem.EqNone.eq_none_int (dt I q (by simp))
  |str j=>obtain⟨t',rfl⟩:=d;exact PySem.EqNone.eq_none_str (dt I q (by simp))
  |_=>exact O4 (show Ov=Oq from hs) OH
 |bl i=>
  cases e;cases y with
  |non=>cases d;exact PySem.EqNone.eq_bool_none (dt I q (by simp))
  |bl j=>cases d;exact eq_bool (dt I q B3)
  |str j=>obtain⟨t',rfl⟩:=d;exact PySem.EqMixed.eq_bool_str (dt I q (by simp))
  |_=>exact O4 (show Ov=Oq from hs) OH
 |int i=>
  obtain⟨t,rfl⟩:=e;cases y with
  |non=>cases d;exact PySem.EqNone.eq_int_none (dt I q (by simp))
  |int j=>obtain⟨t',rfl⟩:=d;exact eq_int (dt I q v8)
  |str j=>obtain⟨t',rfl⟩:=d;exact PySem.EqMixed.eq_int_str (dt I q (by simp))
  |_=>exact O4 (show Ov=Oq from hs) OH
 |str i=>
  obtain⟨t,rfl⟩:=e;cases y with
  |non=>cases d;exact PySem.EqNone.eq_str_none (dt I q (by simp))
  |bl j=>cases d;exact PySem.EqMixed.eq_str_bool (dt I q (by simp))
  |int j=>obtain⟨t',rfl⟩:=d;exact PySem.EqMixed.eq_str_int (dt I q (by simp))
  |str j=>obtain⟨t',rfl⟩:=d;exact eq_str (dt I q v7)
  |_=>exact O4 (show Ov=Oq from hs) OH
 |_=>cases y<;>exact O4 (show Ov=Oq from hs) OH
theorem NE:gs X (P7 .NotEq) ZH:=by
 intro f s g H x y v u Q I e d h;obtain⟨hs,q⟩:=h;cases x with
 |non=>
  cases e;cases y with
  |non=>cases d;exact PySem.EqNone.ne_none_none (dt I q (by simp))
  |bl j=>cases d;exact PySem.EqNone.ne_none_bool (dt I q (by simp))
  |int j=>obtain⟨t',rfl⟩:=d;exact PySem.EqNone.ne_none_int (dt I q (by simp))
  |str j=>obtain⟨t',rfl⟩:=d;exact PySem.EqNone.ne_none_str (dt I q (by simp))
  |_=>exact O4 (show Ov=Oq from hs) OH
 |bl i=>
  cases e;cases y with
  |non=>cases d;exact PySem.EqNone.ne_bool_none (dt I q (by simp))
  |bl j=>cases d;exact ne_bool (dt I q (Py not B3))
  |str j=>obtain⟨t',rfl⟩:=d;exact PySem.EqMixed.ne_bool_str (dt I q (by simp))
  |_=>exact O4 (show Ov=Oq from hs) OH
 |int i=>
  obtain⟨t,rfl⟩:=e;cases y with
  |non=>cases d;exact PySem.EqNone.ne_int_none (dt I q (by simp))
  |int j=>obtain⟨t',rfl⟩:=d;exact ne_int (dt I q (Py not v8))
  |str j=>obtain⟨t',rfl⟩:=d;exact PySem.EqMixed.ne_int_str (dt I q (by simp))
  |_=>exact O4 (show Ov=Oq from hs) OH
 |str i=>
  obtain⟨t,rfl⟩:=e;cases y with
  |non=>cases d;exact PySem.EqNone.ne_str_none (dt I q (by simp))
  |bl j=>cases d;exact PySem.EqMixed.ne_str_bool (dt I q (by simp))
  |int j=>obtain⟨t',rfl⟩:=d;exact PySem.EqMixed.ne_str_int (dt I q (by simp))
  |str j=>obtain⟨t',rfl⟩:=d;exact ne_str (dt I q (Py not v7))
  |_=>exact O4 (show Ov=Oq from hs) OH
 |_=>cases y<;>exact O4 (show Ov=Oq from hs) OH
theorem my:gs X (P7 .Lt) (p3 λi j=> .bl (decide (i<j))):=wQ λ_ _ _ _ _ _ _ q=>lt_int q
theorem jW:gs X (P7 .LtE) (p3 λi j=> .bl (decide (i<=j))):=wQ λ_ _ _ _ _ _ _ q=>le_int q
theorem rO:gs X (P7 .Gt) (p3 λi j=> .bl (decide (j<i))):=wQ λ_ _ _ _ _ _ _ q=>gt_int q
theorem HN:gs X (P7 .GtE) (p3 λi j=> .bl (decide (j<=i))):=wQ λ_ _ _ _ _ _ _ q=>ge_int q
theorem tR:gs X (P7 .Is) (λx y H Q=>y= .non/\Q (.bl (decide (x= .non))) H):=by
 intro d s g H x y v u Q I e f h;obtain⟨rfl,q⟩:=h;cases f;refine is_none_gen (dt I q ?_);cases x<;>first
  |(cases e;rfl)
  |(obtain⟨t,rfl⟩:=e;rfl)
theorem gs.or(h:gs X f r)(h':gs X f r'):gs X f (λx y H Q=>r x y H Q\/r' x y H Q):=by
 intro d s e H x y v u Q I g i q;rcases q with q|q
 .exact h d s e H x y v u Q I g i q
 .exact h' d s e H x y v u Q I g i q
theorem tU(b:Expr)(h:op≠ .In:=by decide)(d:op≠ .NotIn:=by decide):TD op b=Ov:=by
 have e:(op==CmpOp.In)=Ov:=by cases op<;>first|rfl|exact O4 rfl h
 have f:(op==CmpOp.NotIn)=Ov:=by cases op<;>first|rfl|exact O4 rfl d
 cases b<;>simp[TD,e,f]
theorem Js(e:gs X (P7 op) r)(ha:PE X a ta)(f:PE X b tb)(hm:TD op b=Ov):PE X (.Compare a [op] [b] pos) (S_ r ta tb):=by
 intro d s g H Q I h;exact wpAny_Compare1 (EB ha f I h λv u i x y j k l m q=>e d i g j x y v u Q k l m q) hm
def ww(t:TE):TT:=λd H Q=>t d H λx e=>∃k,x= .bl k/\Q k e
theorem vn(g:gs X (P7 op) r)(ha:PE X a ta)(i:PE X b tb)(hm:TD op b=Ov):PT X (.Compare a [op] [b] pos) (ww (S_ r ta tb)):=by
 intro d s f H Q I h;refine wpAny_isTrue_Compare1 (eo (ha d s f H _ I h) λv j ⟨x,l,m,r1,q1⟩=>eo (i d j f l _ m q1) λu n ⟨y,o,p,q,q2⟩=>
  eo (g d n f o x y v u _ p r1 q q2) λc B ⟨z,t,w,A,k,e,q3⟩=>?_) hm
 subst e;cases A;exact P8 ⟨t,w,q3⟩
def yc(r f:R2)(ta tb tc:TE):TE:=λd H Q=>ta d H λx g=>tb d g λy h=>r x y h λz e=>∃k,z= .bl k/\
 (if k=Oq then tc d e λi j=>f y i j Q else Q (.bl Ov) e)
theorem BQ(n:gs X (P7 op) r)(i:gs X (P7 op') r')(ha:PE X a ta)(o:PE X b tb)(p:PE X c tc)
  (hm:X8 [op,op'] [b,c]=Ov:=by with_unfolding_all rfl):PT X (.Compare a [op,op'] [b,c] pos) (ww (yc r r' ta tb tc)):=by
 intro f s g H Q I h;refine isTrue_chain (eo (ha f s g H _ I h) λv q ⟨x,t,w,r1,q1⟩=>test_link (eo (o f q g t _ w q1) λu A ⟨y,B,C,j,q2⟩=>
  eo (n f A g B x y v u _ C r1 j q2) λd F ⟨z,l,m,J,k,e,q3⟩=>?_)) hm
 subst e;cases J;refine P8 ?_;cases k with
 |false=>
  obtain⟨k',L,N⟩:=q3;cases L;exact ite_ff ⟨l,m,N⟩
 |true=>
  refine ite_tt (test_last (eo (p f F g l _ m q3) λO P ⟨R,T,U,W,q4⟩=>eo (i f P g T y R u O _ U j W q4) λd' s5 ⟨z2,Y,Z,r5,k2,e2,q5⟩=>?_));subst e2;cases r5;exact P8 ⟨Y,Z,q5⟩
def GD(K:OX)(x:V)(H:Hp)(k:Bool):Prop:=
 match x with
 | .non=>k=Ov
 | .bl b=>k=b
 | .int i=>k=(i !=0)
 | .str y=>y.length<=OV/\k=((y.length:Int) !=0)
 | .ref p=>(∃xs,fx K H p xs/\k=!xs.isEmpty)\/∃xs,i_ K H p xs/\k=!xs.isEmpty
 |_=>False
theorem pA(r:au xs its):(!its.toArray.isEmpty)=!xs.isEmpty:=by
 cases r<;>simp
theorem lx:(OV:Nat)<2^63:=by rw[Qr];decide
theorem Kg:TruR X (λx H Q=>∃k,GD X.K x H k/\Q k H):=by
 intro l s n H x v Q I f h;obtain⟨k,e,q⟩:=h;have o:=lx;have hs:OV=16777216:=Qr;cases x with
 |non=>
  cases f;have d:k=Ov:=e;subst d;exact truthy_none ⟨H,I,q⟩
 |bl b=>
  cases f;have d:k=b:=e;subst d;exact P8 ⟨H,I,q⟩
 |int i=>
  obtain⟨t,rfl⟩:=f;have d:k=(i !=0):=e;subst d;exact PySem.P.truthy_int ⟨H,I,q⟩
 |str y=>
  obtain⟨t,rfl⟩:=f;obtain⟨u,d⟩:y.length<=OV/\k=((y.length:Int) !=0):=e;subst d;exact PySem.P.truthy_str (by omega) ⟨H,I.tok _,q⟩
 |ref p=>
  cases f;have d:(∃xs,fx X.K H p xs/\k=!xs.isEmpty)\/∃xs,i_ X.K H p xs/\k=!xs.isEmpty:=e;rcases d with⟨xs,j,d⟩|⟨xs,j,d⟩
  .subst d
   obtain⟨its,r,pl,m⟩:=I.list j;have g:=r.length;exact wpAny_truthy_list pl.isList (by simp only[OU];omega) ⟨H,I.tok _,by rw[pA r];exact q⟩
  .subst d
   obtain⟨its,r,pl,m⟩:=I.tuple j;have g:=r.length;exact truthy_tuple pl (by simp only[OU];omega) ⟨H,I.tok _,by rw[pA r];exact q⟩
 |_=>exact(show False from e).elim
theorem BP(ha:PE X a ta)(i:∀d,isTrue a X.env d=(do let v <-d;Sm a.pos;SR [v] (truthy v))):
  PT X a (λf H Q=>ta f H λx g=>∃k,GD X.K x g k/\Q k g):=by
 intro e s f H Q I h;exact isTrue_plain (eo (ha e s f H _ I h) λv j ⟨x,l,m,r1,q1⟩=>Kg e j f l x v Q m r1 q1) (i _)
theorem iF(r:au [x] us):∃u,us=[u]/\aI x u:=by
 cases r with
 |cons r1 d=>cases d;exact⟨_,rfl,r1⟩
theorem rF(r:au [x,y] us):∃u d,us=[u,d]/\aI x u/\aI y d:=by
 cases r with
 |cons r1 e=>
  cases e with
  |cons f g=>cases g;exact⟨_,_,rfl,r1,f⟩
theorem DX:cP X (.builtin "abs") (λxs H Q=>∃i,xs=[.int i]/\Q (.int (if i<0 then -i else i)) H):=by
 intro d s e H xs us Q I r h;obtain⟨i,rfl,q⟩:=h;obtain⟨u,rfl,t,rfl⟩:=iF r;exact call_abs_int λu f=>⟨.int (if i<0 then -i else i),H,I.tok _,⟨_,rfl⟩,q⟩
theorem lN(f:X.calm=Oq):cP X (.builtin "max") (λxs H Q=>∃i j,xs=[.int i,.int j]/\Q (.int (if j>i then j else i)) H):=by
 intro e s g H xs us Q I r h;obtain⟨i,j,rfl,q⟩:=h;obtain⟨u,l,rfl,⟨t,rfl⟩,⟨t',rfl⟩⟩:=rF r;refine max_two_ints (I.ok.hd f) λh' m k=>⟨_,H,I.kept k,?_,q⟩;by_cases d:j>i
 .rw[OE d,OE d];exact⟨_,rfl⟩
 .rw[OC d,OC d];exact⟨_,rfl⟩
theorem gv(f:X.calm=Oq):cP X (.builtin "min") (λxs H Q=>∃i j,xs=[.int i,.int j]/\Q (.int (if j<i then j else i)) H):=by
 intro e s g H xs us Q I r h;obtain⟨i,j,rfl,q⟩:=h;obtain⟨u,l,rfl,⟨t,rfl⟩,⟨t',rfl⟩⟩:=rF r;refine min_two_ints (I.ok.hd f) λh' m k=>⟨_,H,I.kept k,?_,q⟩;by_cases d:j<i
 .rw[OE d,OE d];exact⟨_,rfl⟩
 .rw[OC d,OC d];exact⟨_,rfl⟩
structure s9 (h:P5) (x dx C:Ou) (mA:Pn->Option Oy):Prop where
 obj:h.get? x=on (Vu C dx)
 ns:h.Ns1 dx mA
 ne:dx≠x
theorem zj{h:P5}(n:h.Ns1 dx mA):∃f,h.get? dx=on f/\∀name,lookIn name f=on (mA name):=by
 obtain⟨o,es,ep,g,hd,i,_,hm⟩:=n;refine⟨o,g,λname=>?_⟩;have e:=hm name;unfold nsFind findBy at e;rw[<-Array.find?_toList]at e;unfold lookIn;rw[hd]
 dsimp only
 split
 .rename_i y q
  rw[q]at e;exact Py on e
 .rename_i q
  rw[q]at e;have a:es.toList.any (·.refKey)=Ov:=by
   rw[Ye];intro y j;obtain⟨z,t,d⟩:=i y (Array.mem_toList_iff.mp j);simp[DictEntry.refKey,d]
  have k:¬es.toList.any (·.refKey)=Oq:=by rw[a];exact OH
  rw[OC k];exact Py on e
theorem s9.look(I:s9 h x dx C mA):∃d,PySem.W.InstAt h x (Vu C dx) C (on d)/\∀name,lookIn name d=on (mA name):=
 let ⟨d,ho,hl⟩:=zj I.ns
 ⟨d,⟨I.obj,rfl,rfl,ho⟩,hl⟩
variable{prog:Pf}{w:Po}{A:PV}{E:Oy->OD->Prop}{s:OD}{K:OX}{x dx C f:Ou}{mA:Pn->Option Oy}{name:Pn}{v:Oy}
theorem JQ{d:Bool}(X:K.In s.heap)(I:s9 s.heap x dx C mA)(g:plainGet K C name=Oq)(i:hasDictIn K C=Oq)
  (ha:SX K (.ref C) name=on Om) (j:mA name=on v) (e:XA v=Oq) (h:Q v {s with toks:=s.toks+1}):
  OK (O7 prog w) A (getAttr (.ref x) name d) Q E s:=by
 obtain⟨l,J,k⟩:=I.look;exact PySem.W.get_value X J (plainGet_of g).1 (PySem.W.findObj_own i ha rfl (by rw[k,j])) e h
theorem DK(X:K.In s.heap)(I:s9 s.heap x dx C mA)(d:plainGet K C name=Oq)
  (e:SX K (.ref C) name=on (on (.ref f))) (g:isFn K (.ref f)=Oq) (i:mA name=Om) (h:Q (.ref f,[.ref x]) s):
  OK (O7 prog w) A (UO (.ref x) name pl) Q E s:=by
 obtain⟨j,J,k⟩:=I.look;exact PySem.W.method_fn X J (plainGet_of d).1 (plainGet_of d).2 e (beq_iff_eq.mp g) (by show(lookIn name j).map (·.isSome)=on Ov;rw[k,i];rfl) h
theorem Jb{ns:List Pn}(X:K.In s.heap)(I:s9 s.heap x dx C mA)
  (hs:SX K (.ref C) "__setattr__"=on (on (.builtin "object.__setattr__"))) (l:Xo K C=Oq) (m:takerIn K C name=on Om) (n:hasDictIn K C=Oq)
  (o:Vj mA ns) (p:ns.length<=OV)
  (h:∀h',s9 h' x dx C (λy=>if y=name then on v else mA y)->Pd dx s.heap h'->Q () {s with heap:=h',toks:=s.toks+2}):
  OK (O7 prog w) A (setAttr (.ref x) name v) Q E s:=by
 obtain⟨F,J,H⟩:=I.look;refine PySem.W.set_plain X J hs (PySem.W.osa_open (s:={s with toks:=s.toks+1}) (r:=Om) X J l m λb=>?_);obtain⟨cd,q,g⟩:=PySem.W.any_some n;have t:s.heap.get? x=on ⟨.ref C,on dx,.plain,#[]⟩:=I.obj;refine My (On (My (My (wpAny_loadPart t (My (PySem.W.Looks.here (s:={s with toks:=s.toks+1}) (PySem.W.looks_clsIn X q) ?_))))));rw[g];refine On (a:=on dx) (My (On (My ?_)));refine wpAny_nsSet1 (s:={s with toks:=s.toks+1}) I.ns λh' d e=>?_;obtain⟨L,u,B,i,j,k⟩:=d.count (Vj.cons name v o);refine My (wpAny_lookBehind i (by rw[j];exact pastItsLine_dict (OS k (by rw[OR];omega))) ?_);exact On (h _ ⟨(e.2 _ (Ne.symm I.ne)).trans I.obj,d,I.ne⟩ e)
theorem CL(X:K.In s.heap)(hm:XZ K C=Oq)
  (e:SX K (.ref C) "__init__"=on (on (.ref f))) (i:PySem.W.typeIn K (.ref f)=on (.type "function"))
  (h:SQ (O7 prog w) (A.under (.builtin "type.__call__" ⟨.ref C::vs,kw⟩)) (.call (.ref f) ⟨.ref (s.heap.objs.size+1)::vs,kw⟩) (PySem.W.InitBack (s.heap.objs.size+1) R)
   {s with heap:=(s.heap.push Tu).push (Vu C s.heap.objs.size)}):
  SQ (O7 prog w) A (.call (.ref C) ⟨vs,kw⟩) R s:=by
 obtain⟨j,g,d,t,os⟩:=s;exact PySem.W.make_core (PySem.W.makes_of X hm) (PySem.W.looks_findIn X e) (λself=>PySem.W.bind_fn X self i) (.inl rfl) h
noncomputable def dg(f:Pn)(v:V):List (Pn×V)->List (Pn×V)
 |[]=>[(f,v)]
 |(g,x)::r=>if g=f then(g,v)::r else(g,x)::dg f v r
theorem m6(f g:Pn)(v:V):∀fs:List (Pn×V),(dg f v fs).lookup g=if g=f then on v else fs.lookup g
 |[]=>by
  show Tg g [(f,v)]=_;by_cases h:g=f
  .have d:(g==f)=Oq:=beq_iff_eq.mpr h
   simp only[Tg,d,OE h]
  .have d:(g==f)=Ov:=beq_eq_false_iff_ne.mpr h
   simp only[Tg,d,OC h]
 |(k,x)::r=>by
  have ih:=m6 f g v r;rw[show dg f v ((k,x)::r)=(if k=f then(k,v)::r else(k,x)::dg f v r)from rfl];by_cases i:k=f
  .rw[OE i]
   by_cases h:g=k
   .have d:(g==k)=Oq:=beq_iff_eq.mpr h
    simp only[Tg,d,OE (h.trans i)]
   .have d:(g==k)=Ov:=beq_eq_false_iff_ne.mpr h
    simp only[Tg,d,OC (λe:g=f=>h (e.trans i.symm))]
  .rw[OC i]
   by_cases h:g=k
   .have d:(g==k)=Oq:=beq_iff_eq.mpr h
    simp only[Tg,d,OC (λe:g=f=>i (h.symm.trans e))]
   .have d:(g==k)=Ov:=beq_eq_false_iff_ne.mpr h
    simp only[Tg,d];exact ih
theorem lz(f:Pn)(v:V):∀fs:List (Pn×V),f∈(dg f v fs).map (·.1)/\∀g,g∈fs.map (·.1)->g∈(dg f v fs).map (·.1)
 |[]=>⟨by simp[dg],λg h=>by simp at h⟩
 |(k,x)::r=>by
  obtain⟨i,j⟩:=lz f v r;rw[show dg f v ((k,x)::r)=(if k=f then(k,v)::r else(k,x)::dg f v r)from rfl];by_cases d:k=f
  .rw[OE d]
   subst d;exact⟨by simp,λg h=>by simpa using h⟩
  .rw[OC d]
   refine⟨?_,λg h=>?_⟩
   .rw[OJ]
    exact Ot _ i
   .rw[OJ]at h⊢
    rcases ON.mp h with e|e
    .exact ON.mpr (.inl e)
    .exact Ot _ (j g e)
theorem m7(f:Pn)(v:V):∀fs:List (Pn×V),(dg f v fs).length<=fs.length+1
 |[]=>by simp[dg]
 |(k,x)::r=>by
  have ih:=m7 f v r;rw[show dg f v ((k,x)::r)=(if k=f then(k,v)::r else(k,x)::dg f v r)from rfl];by_cases d:k=f
  .rw[OE d,OR,OR];omega
  .rw[OC d,OR,OR];omega
theorem gG.some_of{v:V}(r:gG (on v) o):∃u,o=on u/\aI v u:=by
 cases o with
 |none=>exact(show False from r).elim
 |some u=>exact⟨u,rfl,r⟩
theorem gG.none_of(r:gG Om o):o=Om:=by
 cases o with
 |none=>rfl
 |some u=>exact(show False from r).elim
theorem zO{v:V}(r:aI v u):XA u=Oq:=by
 cases v with
 |non=>cases(show u=Pj from r);rfl
 |bl b=>cases(show u=Vc b from r);rfl
 |int i=>obtain⟨t,e⟩:=(show ∃t,u=Sc i t from r);cases e;rfl
 |str x=>obtain⟨t,e⟩:=(show ∃t,u=Yl x t from r);cases e;rfl
 |ref a=>cases(show u=OP a from r);rfl
 |ty n=>cases(show u=Ry n from r);rfl
end
section
variable{P:Pf}{w:Po}{H H':Hp}{h h':P5}{a C dx:Ou}{fs fs':List (Pn×V)}
theorem jw(hok:lp P w H h)(e:H a=on (.ins C dx fs)):∃b,s9 h a dx C b/\(∀f,gG (fs.lookup f) (b f))/\Vj b (fs.map (·.1))/\fs.length<=1000/\H dx=on (.own a):=by
 obtain⟨d,z,ne,c,b,n,r,q⟩:=(show bF P w H h a (.ins C dx fs)from hok a _ e);exact⟨b,⟨c,n,ne⟩,r,q,z,d⟩
structure q9 (K:OX) (C:Ou):Prop where
 pg:plainGet K C Sw=Oq
 hd:hasDictIn K C=Oq
 po:Xo K C=Oq
 sa:SX K (.ref C) "__setattr__"=on (on (.builtin "object.__setattr__"))
theorem q9.get{K:OX}{C:Ou}(c:q9 K C)(f:Pn):plainGet K C f=Oq:=c.pg
def dJ(K:OX)(C:Ou)(f:Pn):Prop:=SX K (.ref C) f=on Om
theorem dJ.taker{K:OX}{C:Ou}(n:dJ K C f):takerIn K C f=on Om:=by
 unfold takerIn;rw[show SX K (.ref C) f=on Om from n];rfl
structure o_ (K:OX) (C:Ou) (m:Pn) (f:Ou):Prop where
 at_:SX K (.ref C) m=on (on (.ref f))
 fn:isFn K (.ref f)=Oq
 kp:Us K (.ref f)=Oq
variable{X:Cx}{a_:List (Ou×Pa)}{σ:St}{s:OD}{f:Pn}{v:V}{A:PV}{E:Oy->OD->Prop}
theorem xq{b:Bool}(I:dc X a_ σ H s)(e:H a=on (.ins C dx fs))(c:q9 X.K C)(n:dJ X.K C f)(l:fs.lookup f=on v)
  (h:∀u s',dc X a_ σ H s'->aI v u->Q u s'):OK (O7 X.prog X.w) A (getAttr (.ref a) f b) Q E s:=by
 obtain⟨g,O,r,_,_,_⟩:=jw I.hok e;obtain⟨u,i,d⟩:=gG.some_of (v:=v) (o:=g f) (by rw[<-l];exact r f);exact JQ I.kIn O (c.get f) c.hd n i (zO d) (h u _ (I.tok _) d)
theorem pG(I:dc X a_ σ H s)(e:H a=on (.ins C dx fs))(c:q9 X.K C)(k:o_ X.K C m g)(l:fs.lookup m=Om)
  (h:Q (.ref g,[.ref a]) s):OK (O7 X.prog X.w) A (UO (.ref a) m pl) Q E s:=by
 obtain⟨b,O,r,_,_,_⟩:=jw I.hok e;have hn:b m=Om:=gG.none_of (by rw[<-l];exact r m);exact DK I.kIn O (c.get m) k.at_ k.fn hn h
theorem wF(I:dc X a_ σ H s)(e:H a=on (.ins C dx fs))(c:q9 X.K C)(n:dJ X.K C f)(F:fs.length<1000)(l:aI y u)
  (h:∀s',dc X a_ σ (upd H a (.ins C dx (dg f y fs))) s'->Q () s'):OK (O7 X.prog X.w) A (setAttr (.ref a) f u) Q E s:=by
 obtain⟨i,O,r,j,_,k⟩:=jw I.hok e;have m:(fs.map (·.1)).length<=OV:=by rw[Ol,Qr];omega
 refine Jb I.kIn O c.sa c.po n.taker c.hd j m λh' d p=>h _ ?_;have hd:∃o,h'.get? dx=on o:=let ⟨o,_,_,e',_⟩:=d.ns;⟨o,e'⟩
 refine I.write (x:=a) (e:=dx) (by rw[e];exact Sa) (.inr k) (λb q t z=>(p.2 b t).trans z) hd ?_;refine⟨by rw[bt O.ne];exact k,?_,O.ne,d.obj,_,d.ns,λg=>?_,λg B=>?_⟩
 .have:=m7 f y fs;omega
 .show gG ((dg f y fs).lookup g) (if g=f then on u else i g)
  rw[m6];by_cases q:g=f
  .rw[OE q,OE q];exact l
  .rw[OC q,OC q];exact r g
 .by_cases q:g=f
  .rw[q];exact(lz f y fs).1
  .refine(lz f y fs).2 g (j g λz=>B ?_)
   show(if g=f then on u else i g)=Om;rw[OC q];exact z
theorem dc.made(I:dc X a_ σ H s):dc X a_ σ (upd (upd H s.heap.objs.size (.own (s.heap.objs.size+1))) (s.heap.objs.size+1) (.ins C s.heap.objs.size []))
  {s with heap:=(s.heap.push Tu).push (Vu C s.heap.objs.size)}:=by
 have c:(s.heap.push Tu).get? s.heap.objs.size=on Tu:=OL s.heap rfl;have d:((s.heap.push Tu).push (Vu C s.heap.objs.size)).get? (s.heap.objs.size+1)=on (Vu C s.heap.objs.size):=by
  have:=OL (s.heap.push Tu) (o:=Vu C s.heap.objs.size) rfl;rwa[Qn]at this
 have g:(s.heap.push Tu).Ns s.heap.objs.size (λ_=>Om):=⟨Tu,#[],_,c,rfl,(λe i=>O4 i (by simp)),λ_=>rfl⟩;have j:=I.laid (a:=s.heap.objs.size) (o:= .own (s.heap.objs.size+1)) (h':=s.heap.push Tu) (t':=s.toks) (λb u q=>Oo _ q) (OG _) ⟨_,c⟩;refine j.laid (a:=s.heap.objs.size+1) (o:= .ins C s.heap.objs.size []) (t':=s.toks) (λb u q=>Oo _ q) (Nat.le_of_eq (Qn _ _)) ?_;have ne:s.heap.objs.size≠s.heap.objs.size+1:=Ps (VG _);refine⟨by rw[bt ne,aj],PX _,ne,d,λ_=>Om,(Heap.Ns1.of_empty g).at λo q=>Oo _ q,λ_=>Sa,λy k=>O4 rfl k⟩
theorem J4{w:Po}{f:Pn}{s:OD}(c:SM e f env (P0 e env)=P0 e env)
  (h:OK (O7 prog w) A (P0 e env) (λo b=>OK (O7 prog w) A (getAttr o f Oq) Q E b) E s):OK (O7 prog w) A (P0 (.Attribute e f pos) env) Q E s:=
 Attribute_any_ h (by rw[arm_eval_Attribute,c])
def Zz(K:OX)(c:TE)(f:Pn):TE:=λσ H Q=>c σ H λx b=>∃a C dx fs v,x= .ref a/\b a=on (.ins C dx fs)/\q9 K C/\dJ K C f/\fs.lookup f=on v/\Q v b
def KG(K:OX)(c d:TE)(f:Pn):TS:=λD σ H=>d σ H λy e=>c σ e λx b=>∃a C dx fs,x= .ref a/\b a=on (.ins C dx fs)/\q9 K C/\dJ K C f/\fs.length<1000/\
 D.nx σ (upd b a (.ins C dx (dg f y fs)))
variable{o e value:Expr}{pos pos' tpos:TK}{ta tv:TE}
theorem K8(b:PE X e ta)(d:SM e f X.env (P0 e X.env)=P0 e X.env):PE X (.Attribute e f pos) (Zz X.K ta f):=by
 intro a_ s σ H Q I h;refine J4 d (eo (b a_ s σ H _ I h) λu r ⟨x,g,i,j,a,C,dx,fs,v,ex,k,c,n,l,q⟩=>?_);subst ex;obtain rfl:u=OP a:=j;exact xq i k c n l λt y m p=>⟨v,g,m,p,q⟩
theorem o3(ha:PE X o ta)(b:PE X value tv)(hs:Tv value (on (.Attribute o f pos')) pos.line X.env=QU Ov):PS X (.Assign [.Attribute o f pos'] value pos) (KG X.K ta tv f):=by
 intro a_ s σ H D I h;refine plainObj_wpAny_Assign_Attribute (eo (b a_ s σ H _ I h) λu d ⟨y,g,i,j,q⟩=>eo (ha a_ d σ g _ i q) λk B ⟨x,F,m,p,a,C,dx,fs,ex,r,c,n,l,q2⟩=>?_) hs;subst ex;obtain rfl:k=OP a:=p;exact wF m r c n l j λJ t=>⟨σ,_,t,q2⟩
variable{Q:Oy->OD->Prop}{c:Oy}{b:Bool}
inductive nq (K:OX) (H:Hp):V->Oy->Prop where
 |non:nq K H .non (.type "NoneType")
 |bl (x:Bool):nq K H (.bl x) (.type "bool")
 |int (i:Int):nq K H (.int i) (.type "int")
 |str (x:Pn):nq K H (.str x) (.type "str")
 |lst {a:Ou} {xs:List V} (e:H a=on (.lst xs)):nq K H (.ref a) (.type "list")
 |frz {a:Ou} {o:Pa} {xs:List V} (e:H a=on (.frz o (.lst xs))):nq K H (.ref a) (.type "list")
 |tup {a:Ou} {xs:List V} (e:H a=on (.tup xs)):nq K H (.ref a) (.type "tuple")
 |ins {a C dx:Ou} {fs:List (Pn×V)} (e:H a=on (.ins C dx fs)) (cl:q9 K C) (ha:SX K (.ref C) "__class__"=on (on (.builtin "object.__class__")))
  (hn:specialIn K (.builtin "object.__class__") "__get__"=on (on (.builtin "getset_descriptor.__get__"))) (htk:X0 K (.builtin "object.__class__")=on Oq)
  (hm:PySem.W.mroIn K C (.type "object")=on Oq):nq K H (.ref a) (.ref C)
theorem zH(I:dc X a_ σ H s)(d:aI x u)(ty:nq X.K H x t)(e:kitOne X.K t c=on b)(h:∀j,Q (.bool b) {s with toks:=j}):
  OK (O7 X.prog X.w) A (VI (.builtin "isinstance") [u,c]) Q E s:=by
 cases ty with
 |non=>cases(show u=Pj from d);exact UE Xn I.kIn Sa e (λz=>nomatch z) h
 |bl y=>cases(show u=Vc y from d);exact UE Xm I.kIn Sa e (λz=>nomatch z) h
 |int i=>obtain⟨t,q⟩:=(show ∃t,u=Sc i t from d);cases q;exact UE XB I.kIn Sa e (λz=>nomatch z) h
 |str y=>obtain⟨t,q⟩:=(show ∃t,u=Yl y t from d);cases q;exact UE XE I.kIn Sa e (λz=>nomatch z) h
 |@lst a xs ea=>
  cases(show u=OP a from d);obtain⟨_,_,n,_,g⟩:=(show bF X.prog X.w H s.heap a (.lst xs)from I.hok a _ ea);exact UE Vv I.kIn ⟨_,g,rfl⟩ e (λz=>nomatch z) h
 |@frz a ob xs ea=>
  cases(show u=OP a from d);obtain⟨_,_,_,n,_,g⟩:=(show bF X.prog X.w H s.heap a (.frz ob (.lst xs))from I.hok a _ ea);exact UE Vv I.kIn ⟨_,g,rfl⟩ e (λz=>nomatch z) h
 |@tup a xs ea=>
  cases(show u=OP a from d);obtain⟨_,_,_,p⟩:=(show bF X.prog X.w H s.heap a (.tup xs)from I.hok a _ ea);obtain⟨o,g,k,_⟩:=p;exact UE Xa I.kIn ⟨o,g,k⟩ e (λz=>nomatch z) h
 |@ins a C dx fs ea cl ha hn htk hm=>
  cases(show u=OP a from d);obtain⟨l,O,_⟩:=jw I.hok ea;obtain⟨m,J,_⟩:=O.look;exact UE (XD (cl.get _) cl.hd ha hn htk hm) I.kIn J e (λz=>nomatch z) h
structure eg (k:Nat) (A:PV):Prop where
 hd:A.handled=Om
 dp:A.depth+3*k+5<recursionLimit
 un:A.units+16*k+200<T7
 gd:A.guards=on []
theorem eg.mono{A:PV}(r:eg k A)(h:j<=k):eg j A:=⟨r.hd,by have:=r.dp;omega,by have:=r.un;omega,r.gd⟩
theorem eg.deeper{A:PV}(r:eg (k+1) A)(env:VN):eg k (A.deeper env):=
 ⟨r.hd,by have:=r.dp;show A.depth+1+3*k+5<_;omega,by have:=r.un;show A.units+3+16*k+200<_;omega,r.gd⟩
theorem w4{A:PV}{C:Ou}:(A.under (.builtin "type.__call__" ⟨.ref C::us,kw⟩)).depth=A.depth+1:=by
 first|rfl|simp[Vf,Code.weight,Code.isCreation,Code.isGuard,Code.isCaller,Code.frames,WI,guardIds]
theorem wZ{A:PV}{C:Ou}:(A.under (.builtin "type.__call__" ⟨.ref C::us,kw⟩)).units=A.units+1:=by
 first|rfl|simp[Vf,Code.cUnits,Code.frames,WI]
theorem eg.make{A:PV}(r:eg (k+1) A)(C:Ou)(us:List Oy)(d:List (Pn×Oy)):eg k (A.under (.builtin "type.__call__" ⟨.ref C::us,d⟩)):=
 ⟨r.hd,by have:=r.dp;rw[w4];omega,by have:=r.un;rw[wZ];omega,by first|exact r.gd|simp[Vf,Code.guards,Code.isGuard,guardIds,pushGuards,r.gd]⟩
theorem eg.depth{A:PV}(r:eg k A):A.depth<recursionLimit:=by have:=r.dp;omega
theorem eg.units{A:PV}(r:eg k A):A.units+64<T7:=by have:=r.un;omega
noncomputable def BA:TA:=λ_ H Q=>Q [] H
def GY(ta:TE)(tr:TA):TA:=λσ H Q=>ta σ H λx d=>tr σ d λxs g=>Q (x::xs) g
variable{es:List Expr}{te:TE}{t:TA}
theorem ik:PA X [] BA:=λ_ _ _ _ H Q I h=>XO ⟨[],H,I,.nil,h⟩
theorem eA(ha:PE X e te)(d:PA X es t)(hs:OM (e::es) X.env=(Ov,P0 e X.env)::OM es X.env:=by rfl):PA X (e::es) (GY te t):=by
 intro pos a_ s σ H Q I h;rw[hs];show OK _ _ (spliced ((Ov,P0 e X.env)::Q0 pos (OM es X.env))) _ _ s;refine Xr (eo (ha a_ s σ H _ I h) λu g ⟨x,i,j,r1,q1⟩=>?_);exact eo (d pos a_ g σ i _ j q1) λus n ⟨xs,k,l,m,q2⟩=>⟨x::xs,k,l,.cons r1 m,q2⟩
def Zu(t:TA):TE:=λσ H Q=>t σ H λxs d=>xs.length<=OV/\∀p,d p=Om->Q (.ref p) (upd d p (.tup xs))
def Kk(t:TA):TE:=λσ H Q=>t σ H λxs d=>xs.length<=OV/\∀p,d p=Om->Q (.ref p) (upd d p (.lst xs))
theorem K4{x1}(h:PA X es t):PE X (.Tuple es x1 pos) (Zu t):=by
 intro a_ s σ H Q I j;refine wpAny_Tuple_spliced (eo (h pos a_ s σ H _ I j) λus d ⟨xs,g,i,r,z,q⟩=>⟨by rw[<-r.length];exact z,?_⟩);have k:g d.heap.objs.size=Om:=i.hok.fresh (OG _);refine⟨.ref d.heap.objs.size,upd g d.heap.objs.size (.tup xs),i.laid (t':=d.toks) (λb u e=>Oo _ e) (OG _) ?_,rfl,q _ k⟩;exact⟨z,us,r,⟨_,OL _ rfl,rfl,_,rfl⟩⟩
theorem dT(h:PA X es t):PE X (.List es pos) (Kk t):=by
 intro a_ s σ H Q I j;refine wpAny_List_spliced (eo (h pos a_ s σ H _ I j) λus d ⟨xs,g,i,r,z,q⟩=>⟨by rw[<-r.length];exact z,?_⟩);have k:g d.heap.objs.size=Om:=i.hok.fresh (OG _);refine⟨.ref d.heap.objs.size,upd g d.heap.objs.size (.lst xs),i.laid (t':=d.toks) (λb u e=>Oo _ e) (OG _) ?_,rfl,q _ k⟩;exact⟨z,us,0,r,OL _ rfl⟩
abbrev Sp:=List V->Hp->VK->XK->Prop
abbrev J_:=List VN->Hp->OD->XK->Oy->OD->Prop
structure tx (P:Pf) (w:Po) (K:OX) (mg:Pn->Option Oy) (base:P5) (A:PV) (outer:List VN) (s:OD) (H:Hp):Prop where
 frames:A.frames=on outer
 mod:Mod K mg base
 bs:∀b o,base.get? b=on o->s.heap.get? b=on o/\H b=Om
 bsz:base.objs.size<=s.heap.objs.size
 funs:s.heap.FunFrames base outer
 frf:∀b∈hO outer,H b=Om
 hok:lp P w H s.heap
 bare:T8 s.gens
def CE(outer:List VN)(P:Pf)(w:Po)(H:Hp)(s:OD)(Q:VK)(u:Oy)(s':OD):Prop:=
 ∃v H',s'.os=s.os/\T8 s'.gens/\Un (hO outer) [] H H' s.heap s'.heap/\lp P w H' s'.heap/\aI v u/\Q v H'
def CR(CX:J_)(outer:List VN)(P:Pf)(w:Po)(H:Hp)(s:OD)(Q:VK)(E:XK)(r:Result)(s':OD):Prop:=
 match r with
 | .ok (.ret u)=>CE outer P w H s Q u s'
 | .ok _=>False
 | .error e=>CX outer H s E e s'
structure e_ (P:Pf) (w:Po) (K:OX) (mg:Pn->Option Oy) (base:P5) (CX:J_) (k:Nat) (f:Ou) (fd:O8) (ps:List Pn) (sp:Sp):Prop where
 len:∀vs H Q E,sp vs H Q E->vs.length=ps.length
 run:∀(A:PV) (outer:List VN) (s:OD) (H:Hp) (args:Args) (us:List Oy) (vs:List V) (Q:VK) (E:XK),eg k A->tx P w K mg base A outer s H->Vp s fd args (ps.zip us)->au vs us->sp vs H Q E->
  SQ (O7 P w) A (.call (.ref f) args) (CR CX outer P w H s Q E) s
theorem e_.mono{P:Pf}{w:Po}{K:OX}{f:Ou}(F:e_ P w K mg base CX j f fd ps sp)(h:j<=k):
  e_ P w K mg base CX k f fd ps sp:=⟨F.len,λA outer s H args us vs Q E d=>F.run A outer s H args us vs Q E (d.mono h)⟩
theorem tx.make{P:Pf}{w:Po}{K:OX}{A:PV}{s:OD}{H:Hp}(e:tx P w K mg base A outer s H)(C:Ou)(us:List Oy)(d:List (Pn×Oy)):
  tx P w K mg base (A.under (.builtin "type.__call__" ⟨.ref C::us,d⟩)) outer s H:=⟨by first|exact e.frames|(simpa[Vf,Code.envs,WI,pushEnvs]using e.frames),e.mod,e.bs,e.bsz,e.funs,e.frf,e.hok,e.bare⟩
variable{s':OD}
theorem dc.env0(I:dc X a_ σ H s):tx X.prog X.w X.K X.mg X.base X.A X.stack s H:=
 ⟨I.ok.frames,I.ok.mod,I.bs,OS I.ok.bsz I.sz,I.stack,I.stkFree,I.hok,I.bare⟩
theorem dc.after{Q:VK}(I:dc X a_ σ H s)(h:CE X.stack X.prog X.w H s Q u s'):EP X a_ σ Q u s':=by
 obtain⟨v,H',os,bare,un,hok,r,q⟩:=h;obtain⟨j,g,d,t,i⟩:=s';obtain rfl:i=s.os:=os;exact⟨v,H',I.call (h':=j) (g':=g) (d':=d) (t':=t) (ch:=[]) un hok bare (λb z=>O4 z (by simp)),r,q⟩
def Nm(sp:Sp)(d:List V)(E:St->XK)(t:TA):TE:=λσ H Q=>t σ H λvs g=>sp (vs++d) g Q (E σ)
def wx(C:Ou)(m:Pn)(sp:Sp)(d:List V)(E:St->XK)(ta:TE)(t:TA):TE:=λσ H Q=>ta σ H λx g=>∃a dx fs,x= .ref a/\g a=on (.ins C dx fs)/\fs.lookup m=Om/\
 t σ g λvs i=>sp (x::(vs++d)) i Q (E σ)
def aC(K:OX)(d:O8)(ps:List Pn)(ds:List Oy):Prop:=
 ∀(s:OD) (us:List Oy),K.In s.heap->(us++ds).length=ps.length->Vp s d ⟨us,[]⟩ (ps.zip (us++ds))
theorem aC.all{K:OX}{ps:List Pn}(h:∀us:List Oy,us.length=ps.length->bindArgs fd ⟨us,[]⟩=QU (ps.zip us)):aC K fd ps []:=λs us _ d=>by
 rw[Pi]at d⊢;exact .of_eq (h us d)
def cM(CX:J_)(X:Cx)(E:St->XK):Prop:=∀(a_:List (Ou×Pa)) (σ:St) (H:Hp) (s:OD) (e:Oy) (s':OD),dc X a_ σ H s->CX X.stack H s (E σ) e s'->X.xe e s'
end
section
variable{X:Cx}{CX:J_}{k:Nat}{f C:Ou}{fd:O8}{ps:List Pn}{sp:Sp}{dvs:List V}{ds:List Oy}{E:St->XK}{x m:Pn}{p pos apos:TK}{e o:Expr}{es:List Expr}{ta:TE}{t:TA}
theorem tw(F:e_ X.prog X.w X.K X.mg X.base CX k f fd ps sp)(c:eg k X.A)(d:aC X.K fd ps ds)(hd:au dvs ds)(g:cM CX X E)
  (I:dc X a_ σ H s) (r:au vs us) (h:sp (vs++dvs) H Q (E σ)):OK (O7 X.prog X.w) X.A (VI (.ref f) us) (EP X a_ σ Q) X.xe s:=by
 have b:au (vs++dvs) (us++ds):=r.append hd;have i:(us++ds).length=ps.length:=by rw[<-b.length];exact F.len _ _ _ _ h
 refine wpAny_call (Ug (F.run X.A X.stack s H ⟨us,[]⟩ (us++ds) (vs++dvs) Q (E σ) c I.env0 (d s us I.kIn i) b h) λr s' a=>?_);cases r with
 |error e=>exact g a_ σ H s e s' I a
 |ok fl=>
  cases fl with
  |ret u=>exact I.after a
  |next=>exact Rj a
  |brk=>exact Rj a
  |cont=>exact Rj a
theorem mv(F:e_ X.prog X.w X.K X.mg X.base CX k f fd ps sp)(g:eg k X.A)(i:Gl X x)(hm:X.mg x=on (.ref f))(j:Us X.K (.ref f)=Oq)(l:aC X.K fd ps ds)(hd:au dvs ds)(n:cM CX X E)
  (ha:PA X (e::es) t) (b:(x==("__debug__":Pn))=Ov:=by decide) (u:OM (e::es) X.env=(Ov,P0 e X.env)::OM es X.env:=by rfl) (c:(Q0 pos (OM es X.env)).any (·.1)=Ov:=by rfl):
  PE X (.Call (.Name x p) (e::es) [] pos) (Nm sp dvs E t):=by
 intro a s v H Q I h;refine Ut (qo I i hm ?_ b);refine W0 (h₀:=X.base) I.ok.mod.kin j (eo (ha pos a s v H _ I h) λus y ⟨vs,B,d,r,q⟩=>⟨d.kIn,?_⟩) u c;exact tw F g l hd n d r q
theorem vy(v:PE X o ta)(c:q9 X.K C)(hm:o_ X.K C m f)(F:e_ X.prog X.w X.K X.mg X.base CX k f fd ps sp)(y:eg k X.A)(B:aC X.K fd ps ds)(hd:au dvs ds)(J:cM CX X E)(ha:PA X (e::es) t)
  (d:OM (e::es) X.env=(Ov,P0 e X.env)::OM es X.env:=by rfl) (g:(Q0 pos (OM es X.env)).any (·.1)=Ov:=by rfl)
  (L:P0 (.Call (.Attribute o m apos) (e::es) [] pos) X.env=(do
   let ov <-P0 o X.env
   Sm apos.atName
   let (f,first) <-SR [ov] (UO ov m pl)
   W4 pos f first (Q0 pos (OM (e::es) X.env)) (RN pos (QH [] X.env))):=by rfl):
  PE X (.Call (.Attribute o m apos) (e::es) [] pos) (wx C m sp dvs E ta t):=by
 intro b s i H Q I h;refine Ww (pl:=pl) (eo (v b s i H _ I h) λu N ⟨x,O,j,P,a,T,fs,ex,R,l,q⟩=>?_) L;subst ex;obtain rfl:u=OP a:=P;refine pG j R c hm l ?_;refine W0 (first:=[.ref a]) (h₀:=X.base) I.ok.mod.kin hm.kp (eo (ha pos b N i O _ j q) λus U ⟨vs,W,n,r,q2⟩=>⟨n.kIn,?_⟩) d g
 exact tw (us:= .ref a::us) (vs:= .ref a::vs) F y B hd J n (.cons rfl r) q2
theorem BW(g:PE X o ta)(c:q9 X.K C)(hm:o_ X.K C m f)(F:e_ X.prog X.w X.K X.mg X.base CX k f fd ps sp)(i:eg k X.A)(j:aC X.K fd ps ds)(hd:au dvs ds)(n:cM CX X E)
  (r:P0 (.Call (.Attribute o m apos) [] [] pos) X.env=(do
   let ov <-P0 o X.env
   Sm apos.atName
   let (f,first) <-SR [ov] (UO ov m pl)
   W4 pos f first (Q0 pos (OM [] X.env)) (RN pos (QH [] X.env))):=by rfl):
  PE X (.Call (.Attribute o m apos) [] [] pos) (wx C m sp dvs E ta BA):=by
 intro b s v H Q I h;refine Ww (pl:=pl) (eo (g b s v H _ I h) λu J ⟨x,L,d,y,a,N,fs,ex,B,l,q⟩=>?_) r;subst ex;obtain rfl:u=OP a:=y;refine pG d B c hm l ?_;exact PySem.W.callWith_K0 (first:=[.ref a]) d.kIn hm.kp (tw (us:=[.ref a]) (vs:=[.ref a]) F i j hd n d (.cons rfl .nil) q)
structure Mk (K:OX) (C f:Ou):Prop where
 makes:XZ K C=Oq
 init:SX K (.ref C) "__init__"=on (on (.ref f))
 fn:isFn K (.ref f)=Oq
 kp:Us K (.ref C)=Oq
def PK(X:Cx)(b:List Vr)(t:TA):Prop:=
 ∀(pos:TK) (a:List (Ou×Pa)) (s:OD) (c:St) (H:Hp) (Q:List V->Hp->Prop),dc X a c H s->t c H Q->OK (O7 X.prog X.w) X.A (evalAll ((RN pos (QH b X.env)).map (·.2))) (AP X a c Q) X.xe s
variable{ks:List Pn}{kpos:TK}{kws:List Vr}{te:TE}{tk:TA}{nm:Option Pn}
theorem K1:PK X [] BA:=λ_ _ _ _ H Q I h=>wpAny_evalAll_nil ⟨[],H,I,.nil,h⟩
theorem Jn(ha:PE X e te)(c:PK X kws t):PK X (⟨nm,e,kpos⟩::kws) (GY te t):=by
 intro pos a s b H Q I h;show OK _ _ (evalAll ((do let v <-P0 e X.env;Sm pos;QU v)::(RN pos (QH kws X.env)).map (·.2))) _ _ s
 refine wpAny_evalAll_cons (My (eo (ha a s b H _ I h) λu d ⟨x,g,i,r1,q1⟩=>My (Q5 (On ?_))));exact eo (c pos a d b g _ i q1) λus q ⟨xs,j,l,n,q2⟩=>⟨x::xs,j,l,.cons r1 n,q2⟩
structure D1 (K:OX) (fd:O8) (ps ks:List Pn) (g:List Oy->List Oy->List Oy) (gV:List V->List V->List V):Prop where
 to:∀(s:OD) (us ws:List Oy),K.In s.heap->(g us ws).length=ps.length->Vp s fd ⟨us,ks.zip ws⟩ (ps.zip (g us ws))
 rel:∀{vs:List V} {us:List Oy} {zs:List V} {ws:List Oy},au vs us->au zs ws->au (gV vs zs) (g us ws)
variable{g:List Oy->List Oy->List Oy}{gV:List V->List V->List V}
structure cp (N P:List Pn) (sc:Scope):Prop where
 kind:sc.kind= .function
 co:sc.isCoroutine=Ov
 gen:sc.isGenerator=Ov
 nd:N.Nodup
 pre:N.take P.length=P
 par:∀x∈P,sc.names.lookup x=on .local\/sc.names.lookup x=on .cell
 nofree:∀y∈sc.names,y.2≠ .free
theorem rm{b:Pn->Option Sx}{x:Pn}:∀{a:List (Pn×Oy)} {m:Pn->Option Oy},(∀v,(x,v)∉a)->X5 b a m x=m x
 |[],_,_=>rfl
 |(n,v)::r,m,h=>by
  unfold X5;rw[rm λw c=>h w (Ot _ c)];split
  .have:x≠n:=by rintro rfl;exact h v Oz
   simp[this]
  .rfl
theorem rp{b:Pn->Option Sx}{x:Pn}:∀{a:List (Pn×Oy)} {m:Pn->Option Oy},(∀v,(x,v)∉a)->X4 b a m x=m x
 |[],_,_=>rfl
 |(n,v)::r,m,h=>by
  unfold X4;rw[rp λw c=>h w (Ot _ c)];split
  .rfl
  .have:x≠n:=by rintro rfl;exact h v Oz
   simp[this]
theorem rn{a:Pn->Option Sx}{x:Pn}{v:Oy}:∀{P:List Pn} {vs:List Oy} {i:Nat} {m:Pn->Option Oy},P.Nodup->P[i]?=on x->vs[i]?=on v->a x=on .local->
  X5 a (P.zip vs) m x=on v
 |[],_,_,_,_,h,_,_=>by simp at h
 |_::_,[],_,_,_,_,h,_=>by simp at h
 |p::P,w::vs,0,m,nd,h1,h2,hk=>by
  simp at h1 h2;subst h1;subst h2;show X5 a ((p,w)::P.zip vs) m p=_;unfold X5;rw[rm λv b=>(Pw.mp nd).1 (UI b).1,OE hk];simp
 |p::P,w::vs,i+1,m,nd,h1,h2,hk=>by
  show X5 a ((p,w)::P.zip vs) m x=_;unfold X5;exact rn (i:=i) (Pw.mp nd).2 (by simpa using h1) (by simpa using h2) hk
theorem rq{a:Pn->Option Sx}{x:Pn}{v:Oy}:∀{P:List Pn} {vs:List Oy} {i:Nat} {m:Pn->Option Oy},P.Nodup->P[i]?=on x->vs[i]?=on v->a x≠on .local->
  X4 a (P.zip vs) m x=on v
 |[],_,_,_,_,h,_,_=>by simp at h
 |_::_,[],_,_,_,_,h,_=>by simp at h
 |p::P,w::vs,0,m,nd,h1,h2,hk=>by
  simp at h1 h2;subst h1;subst h2;show X4 a ((p,w)::P.zip vs) m p=_;unfold X4;rw[rp λv b=>(Pw.mp nd).1 (UI b).1,OC hk];simp
 |p::P,w::vs,i+1,m,nd,h1,h2,hk=>by
  show X4 a ((p,w)::P.zip vs) m x=_;unfold X4;exact rq (i:=i) (Pw.mp nd).2 (by simpa using h1) (by simpa using h2) hk
noncomputable def eV(N:List Pn)(vs:List V):St:=vs.map on++O0 (N.length-vs.length) Om
noncomputable def eJ(CX:J_)(P:Pf)(w:Po)(K:OX)(mg:Pn->Option Oy)(base:P5)(N:List Pn)(a:Pn)(scope:Scope)(f:Ou)(cd:Oy)(A:PV)(outer:List VN)(s:OD)(H:Hp)(E:XK):Cx where
 prog:=P
 w:=w
 K:=K
 mg:=mg
 base:=base
 A:=A.deeper (SW a scope s.heap.objs.size f cd)
 N:=N
 s₀:=s
 H₀:=H
 env:=SW a scope s.heap.objs.size f cd
 outer:=outer
 stack:=SW a scope s.heap.objs.size f cd::outer
 ex:=[]
 calm:=Oq
 fn:=λ_=>Oq
 pn:=[]
 xe:=λe s'=>OK (O7 P w) (A.deeper (SW a scope s.heap.objs.size f cd)) (leaving (SW a scope s.heap.objs.size f cd) e) (λ_ b=>CX outer H s E e b) (λc b=>CX outer H s E c b) s'
theorem uK{a:Scope}{x:Pn}(h:a.names.lookup x=on .cell):∃c,(Qy n a.names []).lookup x=on c:=by
 have q:=W6 a.names n [] (.inl h);exact Wc.mp q
theorem zK{CX:J_}{K:OX}{N ps:List Pn}{scope:Scope}{f:Ou}{A:PV}{s L:OD}{E:XK}{vs:List V}
  (S:cp N ps scope) (hd:A.handled=Om) (j:tx P w K mg base A outer s H) (U:vs.length=ps.length) (r:au vs us)
  (x:InCallC s s.heap.objs.size (X5 (SW qual scope s.heap.objs.size f cd).kindOf (ps.zip us) λ_=>Om) (Qy (s.heap.objs.size+1) scope.names []) (X4 (SW qual scope s.heap.objs.size f cd).kindOf (ps.zip us) λ_=>Om) L):
  dc (eJ CX P w K mg base N qual scope f cd A outer s H E) [] (eV N vs) H L:=by
 have R:ps.length<=N.length:=by have:=Py Ua S.pre;rw[Qi]at this;omega
 obtain⟨I,tk,rfl,O⟩:=x.done;have l:∀b:Ou,b∉(eJ CX P w K mg base N qual scope f cd A outer s H E).ex:=λb z=>O4 (show b∈([]:List Ou)from z) (by simp);refine⟨⟨j.mod,S.kind,rfl,rfl,OG _,λy z c I d=>?_,λy hy=>?_,λy c _ h=>?_,λ_=>hd,Around.frames_deeper j.frames,.inr ⟨rfl,rfl⟩,λb z=>O4 z (l b),j.bs,j.bsz,λb _ _=>l b,λb z=>O4 z (l b),j.funs,j.frf⟩,
  rfl,j.bare,Un.kept O,⟨_,x.toInCall.ns,λi y v I d W=>?_⟩,λy c h=>⟨_,x.cell y c h⟩,j.hok.fresh (OG _),λy c h=>?_,λp B=>O4 (show p∈([]:List (Ou×Pa))from B) (by simp),j.hok.kept O,?_⟩
 .exact name_of_addr x.apart (Qh I) (Qh d)
 .have hy:scope.names.lookup y=on .cell\/scope.names.lookup y=on .free:=hy
  rcases hy with hy|hy
  .exact uK hy
  .exact O4 rfl (S.nofree _ (Qh hy))
 .exact TF (x.above y c (Qh h))
 .have J:i<vs.length:=by
   unfold eV at d;by_cases J:i<vs.length
   .exact J
   .rw[QJ (by simpa using J)]at d
    rw[Q4]at d;split at d<;>cases d
  have ha:vs[i]?=on v:=by
   unfold eV at d;rw[Sv (by simpa using J),Ox]at d;cases e:vs[i]? with
   |none=>rw[e]at d;cases d
   |some a=>rw[e]at d;cases d;rfl
  obtain⟨u,Q,T⟩:=r.get ha;have B:ps[i]?=on y:=by
   rw[<-S.pre,Wt (by omega)];exact I
  have F:ps.Nodup:=by rw[<-S.pre];exact S.nd.sublist (List.take_sublist _ _)
  refine⟨u,T,?_⟩;rcases S.par y (OT B)with k|k
  .exact .inl ⟨k,rn F B Q k⟩
  .obtain⟨c,e⟩:=uK (n:=s.heap.objs.size+1) k
   refine .inr ⟨.inl k,c,e,?_⟩;have q:=x.cell y c e;rw[rq F B Q (by show scope.names.lookup y≠_;rw[k];decide)]at q;exact q
 .exact j.hok.fresh (TF (x.above y c (Qh h)))
 .unfold eV
  show _=N.length;rw[OQ,Ol,Qz];omega
theorem Iw{CX:J_}{K:OX}{k:Nat}{f:Ou}
  {N ps:List Pn} {sp:Sp} (U:K.lookup f=on ⟨oc,od,.func (SL name qual params body scope dV kV doc pm an cdv ct),osl⟩) (B:Ts K cdv qual=Oq) (S:cp N ps scope)
  (len:∀vs H Q E,sp vs H Q E->vs.length=ps.length)
  (d:∀(A:PV) (outer:List VN) (s:OD) (H:Hp) (vs:List V) (Q:VK) (E:XK),eg k (A.deeper (SW qual scope s.heap.objs.size f cdv))->sp vs H Q E->
   ∃t,PSs (eJ CX P w K mg base N qual scope f cdv A outer s H E) body t/\t {nx:=λ_ c=>Q .non c,rt:=Q} (eV N vs) H):
  e_ P w K mg base CX (k+1) f (SL name qual params body scope dV kV doc pm an cdv ct) ps sp:=by
 refine⟨len,λA outer s H args us vs Q E F i Y r j=>?_⟩;have Z:=len _ _ _ _ j;have R:K.In s.heap:=i.mod.kin.keeps λb o e=>(i.bs b o e).1;have L:s.heap.NoLimit:=i.mod.nolimit.keeps λb o e=>(i.bs b o e).1;have h:∀y∈ps.zip us,scope.names.lookup y.1=on .local\/(scope.names.lookup y.1=on .cell/\((Qy (s.heap.objs.size+1) scope.names []).lookup y.1).isSome=Oq):=λ⟨n,v⟩ hy=>by
  rcases S.par n (UI hy).1 with q|q
  .exact .inl q
  .exact .inr ⟨q,W6 _ _ _ (.inl q)⟩
 refine codeAny_call_function F.depth (R _ _ U) rfl S.co S.gen rfl (PySem.W.codeRec_of R B) (Y _ _ _ _ ?_);refine wpAny_newFunctionEnv_cells S.kind h λenv he T x=>?_;subst he;refine⟨L.keeps x.toInCall.keep,codeAny_func ?_⟩;obtain⟨t,ht,hq⟩:=d A outer s H vs Q E (F.deeper _) j;have I:dc (eJ CX P w K mg base N qual scope f cdv A outer s H E) [] (eV N vs) H T:=zK S F.hd i Z r x;refine PP (ht [] T (eV N vs) H _ I hq) (λfl s' hs=>?_) λe s' hs=>hs;have l:∀{a:St} {c:Hp} {v:V} {u:Oy},dc (eJ CX P w K mg base N qual scope f cdv A outer s H E) [] a c s'->aI v u->Q v c->CE outer P w H s Q u s':=
  λ{a c v u} J O q=>⟨v,c,J.os,J.bare,J.base,J.hok,O,q⟩
 cases fl with
 |ret u=>
  obtain⟨v,a,c,J,O,q⟩:=hs;exact l J O q
 |next=>
  obtain⟨a,c,J,q⟩:=hs;exact l (v:=V.non) (u:=Pj) J rfl q
 |brk=>
  obtain⟨_,_,_,q⟩:=hs;exact Rj q
 |cont=>
  obtain⟨_,_,_,q⟩:=hs;exact Rj q
variable{id T:String}{r:List V->Hp->VK->Prop}
def ZA(r:List V->Hp->VK->Prop)(t:TA):TE:=λa H Q=>t a H λvs b=>r vs b Q
theorem jR(i:cP X (.builtin id) r)(j:Gl X x)(hm:X.mg x=Om)(l:SF x=on (.builtin id))(ha:PA X (e::es) t)(hn:x≠"__name__":=by decide)(b:(x==("__debug__":Pn))=Ov:=by decide)
  (n:OM (e::es) X.env=(Ov,P0 e X.env)::OM es X.env:=by rfl) (c:(Q0 pos (OM es X.env)).any (·.1)=Ov:=by rfl):PE X (.Call (.Name x p) (e::es) [] pos) (ZA r t):=by
 intro a s d H Q I h;refine Ut (fI I j hm l ?_ hn b);exact PyProof.Rows.callWith_builtin1 (eo (ha pos a s d H _ I h) λus q ⟨vs,u,v,r1,q1⟩=>i a q d u vs us Q v r1 q1) n c
theorem yS(i:cP X (.type T) r)(j:Gl X x)(hm:X.mg x=Om)(l:SF x=on (.type T))(ha:PA X (e::es) t)(hn:x≠"__name__":=by decide)(b:(x==("__debug__":Pn))=Ov:=by decide)
  (n:OM (e::es) X.env=(Ov,P0 e X.env)::OM es X.env:=by rfl) (c:(Q0 pos (OM es X.env)).any (·.1)=Ov:=by rfl):PE X (.Call (.Name x p) (e::es) [] pos) (ZA r t):=by
 intro a s d H Q I h;refine Ut (fI I j hm l ?_ hn b);exact Qj (eo (ha pos a s d H _ I h) λus q ⟨vs,u,v,r1,q1⟩=>i a q d u vs us Q v r1 q1) n c
end
end L2
namespace HT
open PySem PyProof.Rows
section
open PySem.SeqAt
open PySem.AutoSeq1 (wpAny_loadPart')
open PySem.MeetsSeq PySem.MeetsSeq2 PySem.MeetsSeq3
end
section
variable{prog:Pf}{w:Po}{A:PV}{E:Oy->OD->Prop}{s:OD}
theorem cat_tup{vs a:List Oy}(u:IsTup s.heap t vs.toArray)(v:IsTup s.heap b a.toArray)(m:vs≠[])
  (y:a=[]->Q (.ref t) s) (B:a≠[]->Q (.ref s.heap.objs.size) {s with heap:=s.heap.push {cls:= .type "tuple",data:= .seq (vs++a).toArray}})
  (k:vs.length+a.length<=OV):OK (O7 prog w) A (Ru .Add (.ref t) (.ref b)) Q E s:=by
 obtain⟨⟨cls,o,data,sl⟩,i,p,n,hd⟩:=id u;obtain⟨⟨q,d,l,f⟩,c,g,r,h⟩:=id v;simp only at p hd g h;subst p hd g h;have e:vs.toArray++a.toArray=(vs++a).toArray:=by simp
 by_cases j:a=[]
 .exact concat_meets ⟨_,i,rfl⟩ ⟨_,c,rfl⟩ Wo XH Uq Ue (T0 _ _)
   (tuple_addW1 t b vs.toArray a.toArray n r o d sl f (by simpa using m) (by simp[j])) ⟨i,c,y j⟩
 .refine concat_meets ⟨_,i,rfl⟩ ⟨_,c,rfl⟩ Wo XH Uq Ue (T0 _ _)
   (tuple_addW2 t b vs.toArray a.toArray n r o d sl f (by simpa using m) (by simpa using j) (by rw[OU,OU];exact k)) ⟨i,c,?_⟩
  rw[e];exact B j
noncomputable def sIx(n d:Nat):Option Int->Nat
 |none=>d
 |some v=>if v<0 then(v+(n:Int)).toNat else RP v.toNat n
theorem sIx_none(n d:Nat):sIx n d Om=d:=rfl
theorem sIx_nat(n d k:Nat):sIx n d (on (k:Int))=RP k n:=by
 show(if(k:Int)<0 then((k:Int)+(n:Int)).toNat else RP (k:Int).toNat n)=RP k n;rw[OC (by omega),P3]
theorem KF(n d:Nat)(hd:d<=n)(o:Option Int):sIx n d o<=n:=by
 cases o with
 |none=>exact hd
 |some v=>
  show(if v<0 then(v+(n:Int)).toNat else RP v.toNat n)<=n;by_cases a:v<0
  .rw[OE a];omega
  .rw[OC a];exact VH _ _
theorem wa(v:Int)(n d:Nat):(if v<0 then WQ (v+(n:Int)) 0 else RP v (n:Int))=((sIx n d (on v):Nat):Int):=by
 show(if v<0 then WQ (v+(n:Int)) 0 else RP v (n:Int))=(((if v<0 then(v+(n:Int)).toNat else RP v.toNat n):Nat):Int);by_cases a:v<0
 .simp only[OE a];omega
 .simp only[OC a];omega
theorem xM(lo a:Option Int)(n:Nat):S9 lo a 1 (n:Int)=(((sIx n 0 lo:Nat):Int),((sIx n n a:Nat):Int)):=by
 have b:¬((1:Int)<0):=by omega
 unfold S9;simp only[b,PF];refine RW ?_ ?_
 .cases lo with
  |none=>rfl
  |some v=>exact wa v n 0
 .cases a with
  |none=>rfl
  |some v=>exact wa v n n
theorem wP(i j:Nat):RU (i:Int) (j:Int) 1=j-i:=by
 unfold RU;have a:(1:Int)>0:=by omega
 simp only[a,PN,Int.ediv_one];split<;>omega
theorem oI(p:Wg v o)(h:Q o s):OK (O7 prog w) A (Builtin.Slice.slicePartIndex v) Q E s:=by
 cases p with
 |none=>exact slicePart_none h
 |int i t=>exact slicePart_int h
theorem nB{sl:Ou}{d e:Oy}{lo a:Option Int}{n:Nat}{Q:Int×Int×Nat->OD->Prop}(hs:s.heap.IsSliceOf sl d e .none)(pl:Wg d lo)(f:Wg e a)
  (h:Q (((sIx n 0 lo:Nat):Int),1,sIx n n a-sIx n 0 lo) s):OK (O7 prog w) A (U9 (.ref sl) (QU (n:Int))) Q E s:=by
 obtain⟨os,b,g,c⟩:=id hs;unfold U9 Builtin.Slice.sliceFields;refine My (My (Qb b c (x:=d) rfl (My (Qb b c (x:=e) rfl (My (Qb b c (x:= .none) rfl (On ?_)))))));refine My (slicePart_none ?_);show OK _ _ (if((1:Int)==0)=Oq then _ else _) _ _ s;rw[OC (by decide)];refine My (oI pl (My (oI f (My (On ?_)))));show OK _ _ (match S9 lo a 1 (n:Int)with|(lo,a)=>QU (lo,(1:Int),RU lo a 1)) _ _ s
 rw[xM lo a n];show OK _ _ (QU (((sIx n 0 lo:Nat):Int),(1:Int),RU ((sIx n 0 lo:Nat):Int) ((sIx n n a:Nat):Int) 1)) _ _ s;rw[wP];exact On h
theorem BT(xs:Array Oy)(i k:Nat):((OB k).filterMap λ(m:Nat)=>xs[((i:Int)+(m:Int)*1).toNat]?).toArray=((xs.toList.drop i).take k).toArray:=by
 have e:(λ(m:Nat)=>xs[((i:Int)+(m:Int)*1).toNat]?)=λm=>xs[i+m]?:=by
  funext m;have:((i:Int)+(m:Int)*1).toNat=i+m:=by omega
  rw[this]
 rw[e];have:=pick_run xs i k;rw[XS]at this;have a:((λx=>xs[x]?)∘λx=>i+x)=λm=>xs[i+m]?:=rfl;rw[a]at this;rw[this]
theorem getItem_tuple_cut{a:Array Oy}{lo c:Option Int}(d:IsTup s.heap t a)(hs:s.heap.IsSliceOf sl vl vu .none)(pl:Wg vl lo)(j:Wg vu c)
  (k:¬(sIx a.size 0 lo=0/\sIx a.size a.size c=a.size))
  (h:Q (.ref s.heap.objs.size) {s with heap:=s.heap.push {cls:= .type "tuple",data:= .seq ((a.toList.drop (sIx a.size 0 lo)).take (sIx a.size a.size c-sIx a.size 0 lo)).toArray}})
  (l:a.size<=OV):OK (O7 prog w) A (Yn (.ref t) (.ref sl)) Q E s:=by
 have b:sizeOk (.seq ((a.toList.drop (sIx a.size 0 lo)).take (sIx a.size a.size c-sIx a.size 0 lo)).toArray):=by
  show((a.toList.drop (sIx a.size 0 lo)).take (sIx a.size a.size c-sIx a.size 0 lo)).toArray.size<=OV;rw[OU,Qi,Si,Pe];omega
 have o:sIx a.size a.size c<=a.size:=KF _ _ (OG _) c;obtain⟨os,e,f,n⟩:=id hs;have g:s.TypeIs (.ref sl) "slice":=⟨os,e,f⟩;unfold Yn
 try with_reducible refine P4 ?_
 first|refine My (On ?_)|skip
 refine My (wpAny_sequenceKey d.typeIs (by decide) ?_);refine My (wpAny_callSpecial?_slot (name:=Qq "__getitem__") d.typeIs SA
  (Ph SA d.typeIs entry_tuple_getitem ?_ (args_tuple_getitem _ _)))
 show OK _ _ (Va (.ref t)>>=_) _ _ s;refine My (tupleItemsOf_ d ?_);refine My (U4 g ?_);rw[OE (by decide)];refine My (nB hs pl j ?_);have i:¬((((sIx a.size 0 lo:Nat):Int)==0&&(1:Int)==1&&(sIx a.size a.size c-sIx a.size 0 lo)==a.size)=Oq):=by
  intro q;rw[Pc,Pc]at q;have q1:((sIx a.size 0 lo:Nat):Int)=0:=eq_of_beq q.1.1;have q2:sIx a.size a.size c-sIx a.size 0 lo=a.size:=eq_of_beq q.2;exact k ⟨by omega,by omega⟩
 show OK _ _ (if(((sIx a.size 0 lo:Nat):Int)==0&&(1:Int)==1&&(sIx a.size a.size c-sIx a.size 0 lo)==a.size)=Oq then _ else _) _ _ s;rw[OC i,BT]
 first
  |exact My (m:=R3 _) (Pk (On ⟨_,rfl,On h⟩) b)
  |exact My (m:=R3 _) (Pk (My (On (On ⟨_,rfl,On h⟩))) b)
  |exact My (My (m:=R3 _) (Pk (On (On ⟨_,rfl,On h⟩)) b))
  |exact My (My (m:=R3 _) (Pk (On ⟨_,rfl,On h⟩) b))
end
end HT
namespace L2
open PySem PySem.Spec PyProof.Rows
abbrev TO:=St->Hp->(Option Int->Hp->Prop)->Prop
def PO(X:Cx)(e:Option Expr)(t:TO):Prop:=
 ∀(a:List (Ou×Pa)) (s:OD) (b:St) (H:Hp) (Q:Option Int->Hp->Prop),dc X a b H s->t b H Q->
  OK (O7 X.prog X.w) X.A (evalPart e X.env) (λu s'=>∃o c,dc X a b c s'/\Wg u o/\Q o c) X.xe s
noncomputable def IV:TO:=λ_ H Q=>Q Om H
def Nk(t:TE):TO:=λa H Q=>t a H λx b=>∃i,x= .int i/\Q (on i) b
theorem pE{ns:List Int}:∀{us:List Oy},au (ns.map V.int) us->WK us ns:=by
 induction ns with
 |nil=>intro us r;rw[RI]at r;cases r;exact .nil
 |cons n ns ih=>
  intro us r;rw[OJ]at r;cases r with
  |cons r1 a=>
   obtain⟨t,e⟩:=r1;subst e;exact .cons n t (ih a)
section
variable{X:Cx}{e:Expr}{te:TE}{lo hi:Option Expr}{tl th:TO}{pos p2:TK}
theorem vq:PO X Om IV:=by
 intro a s b H Q I h;rw[XG];exact On ⟨Om,H,I,.none,h⟩
theorem vp(h:PE X e te):PO X (on e) (Nk te):=by
 intro a s b H Q I c;rw[evalPart_some];refine eo (h a s b H _ I c) λu g ⟨x,d,f,r1,q1⟩=>?_;obtain⟨i,rfl,q⟩:=q1;obtain⟨t,rfl⟩:=r1;exact⟨on i,d,f,.int i t,q⟩
def SlR(X:Cx)(r:V->Option Int->Option Int->Hp->VK->Prop):Prop:=
 ∀(a:List (Ou×Pa)) (s:OD) (b:St) (H:Hp) (x:V) (v c d:Oy) (lo hi:Option Int) (sl:Ou) (Q:VK),dc X a b H s->aI x v->s.heap.IsSliceOf sl c d .none->Wg c lo->Wg d hi->r x lo hi H Q->
  ∃T f,typeLookup (.type T) "__getitem__"=QU (on (.builtin f))/\s.TypeIs v T/\OK (O7 X.prog X.w) X.A (Yn v (.ref sl)) (EP X a b Q) X.xe s
def tSl(r:V->Option Int->Option Int->Hp->VK->Prop)(te:TE)(tl th:TO):TE:=λa H Q=>te a H λx b=>tl a b λl c=>th a c λu d=>r x l u d Q
theorem nM(j:SlR X r)(k:PE X e te)(m:PO X lo tl)(n:PO X hi th):PE X (.Subscript e (.Slice lo hi Om p2) pos) (tSl r te tl th):=by
 intro a s d H Q I h;refine Subscript_ (eo (k a s d H _ I h) λv o ⟨x,p,t,r1,q1⟩=>?_);refine wpAny_Slice (eo (m a o d p _ t q1) λf y ⟨l,B,C,pl,q2⟩=>eo (n a y d B _ C q2) λg c ⟨u,i,F,J,q3⟩=>?_);rw[XG];refine On ?_;have L:dc X a d i {c with heap:=c.heap.push {cls:= .type "slice",data:= .fields #[f,g,.none]}}:=F.kept (t':=c.toks) λb R q=>Oo _ q;obtain⟨T,U,N,O,P⟩:=j a {c with heap:=c.heap.push {cls:= .type "slice",data:= .fields #[f,g,.none]}} d i x v f g l u c.heap.objs.size Q L r1 (VP ..) pl J q3;show OK (O7 X.prog X.w) X.A (XI e (.Slice lo hi Om p2) v (.ref c.heap.objs.size)) (EP X a d Q) X.xe {c with heap:=c.heap.push {cls:= .type "slice",data:= .fields #[f,g,.none]}};exact tail_any (ops:=[.ref c.heap.objs.size,v]) O N P (by with_unfolding_all rfl)
noncomputable def je(xs:List V)(lo hi:Option Int):List V:=(xs.drop (HT.sIx xs.length 0 lo)).take (HT.sIx xs.length xs.length hi-HT.sIx xs.length 0 lo)
theorem m9(xs:List V)(lo hi:Option Int):(je xs lo hi).length<=xs.length:=by
 unfold je;rw[Qi,Si];omega
def ZE(K:OX):V->Option Int->Option Int->Hp->VK->Prop:=λx lo hi H Q=>∃a xs,x= .ref a/\i_ K H a xs/\
 ¬(HT.sIx xs.length 0 lo=0/\HT.sIx xs.length xs.length hi=xs.length)/\∀p,H p=Om->Q (.ref p) (upd H p (.tup (je xs lo hi)))
theorem Kv:SlR X (ZE X.K):=by
 intro d s m H x v n p lo hi sl Q I i hs pl j h;obtain⟨a,xs,rfl,k,l,q⟩:=h;cases i;obtain⟨its,r,f,g⟩:=I.tuple k;have c:its.toArray.size=xs.length:=by rw[OU];exact r.length.symm
 refine⟨"tuple",_,SA.lookup,f.typeIs,?_⟩;refine HT.getItem_tuple_cut f hs pl j (by rw[c];exact l) ?_ (by rw[c];exact g);rw[c];refine⟨.ref s.heap.objs.size,_,I.laid (t':=s.toks) (o:= .tup (je xs lo hi)) (λb t q=>Oo _ q) (OG _) ?_,rfl,q _ (I.hok.fresh (OG _))⟩;exact⟨OS (m9 xs lo hi) g,_,(r.drop (HT.sIx xs.length 0 lo)).take (HT.sIx xs.length xs.length hi-HT.sIx xs.length 0 lo),Yd _ _⟩
def wL(K:OX):R2:=λx y H Q=>∃a b xs ys,x= .ref a/\y= .ref b/\i_ K H a xs/\i_ K H b ys/\xs≠[]/\xs.length+ys.length<=OV/\
 (ys=[]->Q (.ref a) H)/\(ys≠[]->∀p,H p=Om->Q (.ref p) (upd H p (.tup (xs++ys))))
theorem au.nil_iff(r:au xs us):us=[]↔xs=[]:=by
 cases r with
 |nil=>simp
 |cons _ _=>simp
theorem Jv:gs X (Ru .Add) (wL X.K):=by
 intro d s n H x y v u Q I i j h;obtain⟨a,b,xs,ys,rfl,rfl,ha,k,l,f,q1,q2⟩:=h;cases i;cases j;obtain⟨its,r1,m,_⟩:=I.tuple ha;obtain⟨g,c,p2,_⟩:=I.tuple k;refine HT.cat_tup m p2 (λz=>l (r1.nil_iff.mp z)) (λz=>⟨.ref a,H,I,rfl,q1 (c.nil_iff.mp z)⟩) (λz=>?_) (by rw[<-r1.length,<-c.length];exact f);refine⟨.ref s.heap.objs.size,_,I.laid (t':=s.toks) (o:= .tup (xs++ys)) (λb p q=>Oo _ q) (OG _) ?_,rfl,q2 (λw=>z (c.nil_iff.mpr w)) _ (I.hok.fresh (OG _))⟩;exact⟨by rw[OQ];exact f,_,r1.append c,Yd _ _⟩
noncomputable def qk(n:Nat)(i:Int):Option Nat:=if 0<=i then(if i<n then on i.toNat else Om)else if -(n:Int)<=i then on (i+n).toNat else Om
def ot{α:Type}(xs:List α)(i:Int):Option α:=(qk xs.length i).bind λj=>xs[j]?
theorem vN(h:qk n i=on j):seqIndex? i n=on j/\j<n/\-(n:Int)<=i/\i<n:=by
 unfold qk at h;by_cases b:0<=i
 .rw[OE b]at h
  by_cases a:i<n
  .rw[OE a]at h
   have e:i.toNat=j:=Pb h;exact⟨by rw[seqIndex_of b a,e],by omega,by omega,a⟩
  .rw[OC a]at h;cases h
 .rw[OC b]at h
  by_cases a:-(n:Int)<=i
  .rw[OE a]at h
   have e:(i+n).toNat=j:=Pb h;exact⟨by rw[Yr (by omega) a,e],by omega,a,by omega⟩
  .rw[OC a]at h;cases h
theorem we{α:Type}{xs:List α}{i:Int}{v:α}(h:ot xs i=on v):∃j,seqIndex? i xs.length=on j/\xs[j]?=on v/\j<xs.length/\-(xs.length:Int)<=i/\i<xs.length:=by
 unfold ot at h;cases e:qk xs.length i with
 |none=>rw[e]at h;cases h
 |some j=>
  rw[e]at h;obtain⟨a,b,c,d⟩:=vN e;exact⟨j,a,h,b,c,d⟩
theorem J5{α:Type}{xs:List α}{j:Nat}{v:α}(h:xs[j]?=on v):ot xs (j:Int)=on v:=by
 have a:j<xs.length:=(OI.mp h).1;have e:qk xs.length (j:Int)=on j:=by
  unfold qk;rw[OE (by omega),OE (by omega)];simp
 unfold ot;rw[e];exact h
def wj(b:Expr):Prop:=∀o i,subscripted b Ov o i=operate [o,i] (Yn o i)
def Iv(X:Cx)(r:R2):Prop:=
 ∀(c a:Expr) (b:List (Ou×Pa)) (s:OD) (d:St) (H:Hp) (x y:V) (v u:Oy) (Q:VK),dc X b d H s->aI x v->aI y u->r x y H Q->
  subscripted a Ov v u=operate [v,u] (Yn v u)->OK (O7 X.prog X.w) X.A (XI c a v u) (EP X b d Q) X.xe s
def MtR(X:Cx)(c:String)(r:V->List V->Hp->VK->Prop):Prop:=
 ∀(a:List (Ou×Pa)) (s:OD) (b:St) (H:Hp) (x:V) (xs:List V) (v:Oy) (us:List Oy) (Q:VK),dc X a b H s->aI x v->au xs us->r x xs H Q->
  OK (O7 X.prog X.w) X.A (VI (.builtin c) (v::us)) (EP X a b Q) X.xe s
variable{a b:Expr}{ta tb:TE}
theorem Iv.or(h:Iv X r)(h':Iv X r'):Iv X (λx y H Q=>r x y H Q\/r' x y H Q):=by
 intro c d f s g H x y v u Q I i j q hs;rcases q with q|q
 .exact h c d f s g H x y v u Q I i j q hs
 .exact h' c d f s g H x y v u Q I i j q hs
theorem fE(d:Iv X r)(ha:PE X a ta)(f:PE X b tb)(hs:wj b):PE X (.Subscript a b pos) (S_ r ta tb):=by
 intro c s g H Q I h;exact Subscript_ (EB ha f I h λv u i x y j k l m q=>d a b c i g j x y v u Q k l m q (hs _ _))
def tJ(K:OX):R2:=λx y H Q=>∃p xs i v,x= .ref p/\y= .int i/\fx K H p xs/\ot xs i=on v/\Q v H
def BO(K:OX):R2:=λx y H Q=>∃p xs i v,x= .ref p/\y= .int i/\i_ K H p xs/\ot xs i=on v/\Q v H
theorem dj:Iv X (tJ X.K):=by
 intro g k c s n H x y v u Q I B C h hs;obtain⟨p,xs,i,z,rfl,rfl,F,J,q⟩:=h;cases B;obtain⟨t,rfl⟩:=C;obtain⟨its,r,pl,R⟩:=I.list F;obtain⟨j,f,L,T,N,O⟩:=we J;obtain⟨w,o,l⟩:=r.get L;have P:=r.length;have hn:=lx;have d:EP X c n Q w s:=⟨z,H,I,l,q⟩;by_cases A:0<=i
 .have m:i.toNat=j:=by
   rw[seqIndex_of A O]at f;exact Pb f
  exact item_listR pl.isList A (by omega) (by rw[m];simpa using o) d hs
 .have m:(i+(its.toArray.size:Int)).toNat=j:=by
   rw[Yr (by omega) N]at f;rw[OU,<-P];exact Pb f
  exact U1 (x:=w) pl.isList.typeIs slot_list_getitem.lookup
   (wpAny_getItem_list_neg (Q:=λr s'=>r=w/\EP X c n Q r s') pl.isList (by omega) (by rw[OU]<;>omega) (by omega) (by rw[m];simpa using o) ⟨rfl,d⟩) hs
theorem LB:Iv X (BO X.K):=by
 intro d f c s l H x y v u Q I m n h hs;obtain⟨p,xs,i,z,rfl,rfl,o,A,q⟩:=h;cases m;obtain⟨t,rfl⟩:=n;obtain⟨its,r,pl,L⟩:=I.tuple o;obtain⟨j,B,C,N,O,P⟩:=we A;obtain⟨w,F,g⟩:=r.get C;have J:=r.length;have hn:=lx;have k:EP X c l Q w s:=⟨z,H,I,g,q⟩;exact U1 (x:=w) pl.typeIs slot_tuple_getitem.lookup
  (getItem_tuple (j:=j) (Q:=λr s'=>r=w/\EP X c l Q r s') pl (by omega) (by omega) (by rw[OU,<-J];exact B) (by simpa using F) ⟨rfl,k⟩) hs
theorem wY(its:List Oy)(n j:Nat)(u:Oy):P6 (·.setIfInBounds j u) {cls:= .type "list",data:= .seq its.toArray n}={cls:= .type "list",data:= .seq (its.set j u).toArray n}:=by
 simp[P6]
theorem dc.lst{s:OD}{xs:List V}(I:dc X a_ σ H s)(h:H p=on (.lst xs)):
  ∃(its:List Oy) (n:Nat),au xs its/\s.heap.get? p=on {cls:= .type "list",data:= .seq its.toArray n}/\xs.length<=OV:=by
 obtain⟨z,its,n,r,e⟩:=I.hok p _ h;exact⟨its,n,r,e,z⟩
theorem dc.lstUpd{s:OD}{xs ys:List V}{its its':List Oy}(I:dc X a_ σ H s)(h:H p=on (.lst xs))
  (d:s.heap.get? p=on {cls:= .type "list",data:= .seq its.toArray n}) (c:f {cls:= .type "list",data:= .seq its.toArray n}={cls:= .type "list",data:= .seq its'.toArray n'}) (r:au ys its') (g:ys.length<=OV) (t:Nat):
  dc X a_ σ (upd H p (.lst ys)) {s with heap:=s.heap.update p f,toks:=t}:=by
 have e:(s.heap.update p f).get? p=on {cls:= .type "list",data:= .seq its'.toArray n'}:=by
  rw[Rl f d (by rw[c]<;>rfl),c]
 refine I.write (x:=p) (e:=p) (by rw[h];trivial) (.inl rfl) (λb u i q=>(WJ _ _ (Ne.symm i)).trans q) ⟨_,e⟩ ?_;exact⟨g,its',n',r,e⟩
def HI:V->V->V->Hp->(Hp->Prop)->Prop:=λo i v H Q=>∃p xs k j,o= .ref p/\i= .int k/\H p=on (.lst xs)/\qk xs.length k=on j/\Q (upd H p (.lst (xs.set j v)))
theorem fS:GF X HI:=by
 intro c s C H o i v P R u Q I F J L h;obtain⟨p,xs,k,j,rfl,rfl,m,N,q⟩:=h;cases F;obtain⟨t,rfl⟩:=J;obtain⟨its,n,r,f,O⟩:=I.lst m;obtain⟨d,T,w,y⟩:=vN N;have g:=r.length;have hn:=lx;have A:dc X c C (upd H p (.lst (xs.set j v))) {s with heap:=s.heap.update p (P6 (·.setIfInBounds j u))}:=
  I.lstUpd m f (wY its n j u) (r.set L j) (by rw[Qc];exact O) s.toks
 by_cases B:0<=k
 .have l:k.toNat=j:=by
   rw[seqIndex_of B y]at d;exact Pb d
  exact PySem.W.ki_setAt f B (by omega) (by rw[OU,<-g];exact y) (by rw[l];exact⟨_,A,q⟩)
 .have l:(k+(its.toArray.size:Int)).toNat=j:=by
   rw[Yr (by omega) w]at d;rw[OU,<-g];exact Pb d
  exact PySem.W.ki_setBack f (by omega) (by rw[OU,<-g];exact w) (by omega) (by rw[l];exact⟨_,A,q⟩)
theorem sQ(lo hi:Option Int)(n:Nat):(Sz lo hi Om n).1=((HT.sIx n 0 lo:Nat):Int)/\(Sz lo hi Om n).2.1=((HT.sIx n n hi:Nat):Int)/\(Sz lo hi Om n).2.2=1:=by
 refine⟨?_,?_,rfl⟩
 .cases lo with
  |none=>simp[Sz,HT.sIx]
  |some i=>
   simp only[Sz,HT.sIx,XX,show(1:Int)>0 by decide,PN];by_cases h:i<0
   .simp only[h,PN]<;>omega
   .simp only[h,PF]<;>omega
 .cases hi with
  |none=>simp[Sz,HT.sIx]
  |some i=>
   simp only[Sz,HT.sIx,XX,show(1:Int)>0 by decide,PN];by_cases h:i<0
   .simp only[h,PN]<;>omega
   .simp only[h,PF]<;>omega
theorem rB(its:List Oy)(lo hi:Option Int):X9 its.toArray lo hi Om=((its.drop (HT.sIx its.length 0 lo)).take (HT.sIx its.length its.length hi-HT.sIx its.length 0 lo)).toArray:=by
 obtain⟨c,d,f⟩:=sQ lo hi its.toArray.size;unfold X9;rw[c,d,f];simp only[sliceRange_one,pick_run,OU]<;>rfl
def ZF(K:OX):V->Option Int->Option Int->Hp->VK->Prop:=λx lo hi H Q=>∃a xs,x= .ref a/\fx K H a xs/\∀p,H p=Om->Q (.ref p) (upd H p (.lst (je xs lo hi)))
theorem u9:SlR X (ZF X.K):=by
 intro d s l H x v m n lo hi sl Q I g hs pl i h;obtain⟨a,xs,rfl,j,q⟩:=h;cases g;obtain⟨its,r,f,k⟩:=I.list j;have c:=r.length;refine⟨"list",_,slot_list_getitem.lookup,f.isList.typeIs,?_⟩;refine XJ f.isList hs pl i .none (by simp) ?_ (by rw[OU]<;>omega)
 rw[rB,<-c];refine⟨.ref s.heap.objs.size,_,I.laid (t':=s.toks) (o:= .lst (je xs lo hi)) (λb p q=>Oo _ q) (OG _) ?_,rfl,q _ (I.hok.fresh (OG _))⟩;exact⟨OS (m9 xs lo hi) k,_,0,(r.drop (HT.sIx xs.length 0 lo)).take (HT.sIx xs.length xs.length hi-HT.sIx xs.length 0 lo),OL _ rfl⟩
noncomputable def gb:V->Bool
 | .non=>Oq
 | .bl _=>Oq
 | .int _=>Oq
 | .str _=>Oq
 |_=>Ov
noncomputable def L_:V->V->Bool
 | .non,.non=>Oq
 | .bl a,.bl b=>a==b
 | .bl a,.int b=>(if a then 1 else 0)==b
 | .int a,.bl b=>a==(if b then 1 else 0)
 | .int a,.int b=>a==b
 | .str a,.str b=>a==b
 |_,_=>Ov
theorem LV(d:aI y u)(c:aI x v)(g:gb y=Oq)(f:gb x=Oq):SeqAt.EqAt A s u v (L_ y x):=by
 cases y with
 |non=>
  cases d;cases x with
  |non=>cases c;exact SeqAt.EqAt.same _
  |bl b=>cases c;exact SeqAt.EqAt.none_bool b
  |int b=>obtain⟨t,rfl⟩:=c;exact SeqAt.EqAt.none_int b t
  |str b=>obtain⟨t,rfl⟩:=c;exact SeqAt.EqAt.none_str b t
  |_=>exact O4 (show Ov=Oq from f) OH
 |bl a=>
  cases d;cases x with
  |non=>cases c;exact SeqAt.EqAt.bool_none a
  |bl b=>cases c;exact SeqAt.EqAt.bool_bool a b
  |int b=>obtain⟨t,rfl⟩:=c;exact SeqAt.EqAt.bool_int a b t
  |str b=>obtain⟨t,rfl⟩:=c;exact SeqAt.EqAt.bool_str a b t
  |_=>exact O4 (show Ov=Oq from f) OH
 |int a=>
  obtain⟨t',rfl⟩:=d;cases x with
  |non=>cases c;exact SeqAt.EqAt.int_none a t'
  |bl b=>cases c;exact SeqAt.EqAt.int_bool a t' b
  |int b=>obtain⟨t,rfl⟩:=c;exact SeqAt.EqAt.int_int a t' b t
  |str b=>obtain⟨t,rfl⟩:=c;exact SeqAt.EqAt.int_str a t' b t
  |_=>exact O4 (show Ov=Oq from f) OH
 |str a=>
  obtain⟨t',rfl⟩:=d;cases x with
  |non=>cases c;exact SeqAt.EqAt.str_none a t'
  |bl b=>cases c;exact SeqAt.EqAt.str_bool a t' b
  |int b=>obtain⟨t,rfl⟩:=c;exact SeqAt.EqAt.str_int a t' b t
  |str b=>obtain⟨t,rfl⟩:=c;exact SeqAt.EqAt.str_str a t' b t
  |_=>exact O4 (show Ov=Oq from f) OH
 |_=>exact O4 (show Ov=Oq from g) OH
def ry(x:V)(u:Oy):Bool:=match u with
 | .none=>L_ .non x
 | .bool b=>L_ (.bl b) x
 | .int i _=>L_ (.int i) x
 | .str z _=>L_ (.str z) x
 |_=>Ov
theorem zV(r:aI y u)(f:gb y=Oq):ry x u=L_ y x:=by
 cases y with
 |non=>cases r;rfl
 |bl b=>cases r;rfl
 |int i=>obtain⟨t,rfl⟩:=r;rfl
 |str z=>obtain⟨t,rfl⟩:=r;rfl
 |_=>exact O4 (show Ov=Oq from f) OH
theorem jB:∀{xs:List V} {us:List Oy},au xs us->xs.all gb=Oq->us.any (ry x)=xs.any λy=>L_ y x
 |_,_,.nil,_=>rfl
 |y::xs,u::us,.cons r t,f=>by
  rw[Uk,Pc]at f;rw[Tc,Tc,zV r f.1,jB t f.2]
theorem iq(c:aI x v)(d:gb x=Oq):∀{xs:List V} {us:List Oy},au xs us->xs.all gb=Oq->∀u∈us,SeqAt.EqAt A s u v (ry x u)
 |_,_,.nil,_=>λu hu=>by cases hu
 |y::xs,u::us,.cons r t,f=>λg hu=>by
  rw[Uk,Pc]at f;rcases ON.mp hu with rfl|hu
  .rw[zV r f.1];exact LV r c f.1 d
  .exact iq c d t f.2 g hu
def Zb(x:V)(xs:List V):Bool:=xs.any λy=>L_ y x
def ZI(K:OX)(neg:Bool):R2:=λx y H Q=>∃p xs,y= .ref p/\(fx K H p xs\/i_ K H p xs)/\gb x=Oq/\xs.all gb=Oq/\Q (.bl (if neg then !Zb x xs else Zb x xs)) H
theorem yU:gs X (P7 .In) (ZI X.K Ov):=by
 intro d s k H x y v u Q I f i h;obtain⟨p,xs,rfl,hq,g,fs,q⟩:=h;cases i;rcases hq with hq|hq
 .obtain⟨its,r,pl,j⟩:=I.list hq
  refine SeqAt.in_listAt (ry x) pl.isList (λw c=>iq f g r fs w (by simpa using c)) ⟨.bl _,H,I,rfl,?_⟩;rw[show its.toArray.any (ry x)=its.any (ry x) by simp,jB r fs];exact q
 .obtain⟨its,r,pl,j⟩:=I.tuple hq
  refine SeqAt.in_tupleAt (ry x) pl (λw c=>iq f g r fs w (by simpa using c)) ⟨.bl _,H,I,rfl,?_⟩;rw[show its.toArray.any (ry x)=its.any (ry x) by simp,jB r fs];exact q
theorem k6:gs X (P7 .NotIn) (ZI X.K Oq):=by
 intro d s k H x y v u Q I f i h;obtain⟨p,xs,rfl,hq,g,fs,q⟩:=h;cases i;rcases hq with hq|hq
 .obtain⟨its,r,pl,j⟩:=I.list hq
  refine SeqAt.notIn_listAt (ry x) pl.isList (λw c=>iq f g r fs w (by simpa using c)) ⟨.bl _,H,I,rfl,?_⟩;rw[show its.toArray.any (ry x)=its.any (ry x) by simp,jB r fs];exact q
 .obtain⟨its,r,pl,j⟩:=I.tuple hq
  refine SeqAt.notIn_tupleAt (ry x) pl (λw c=>iq f g r fs w (by simpa using c)) ⟨.bl _,H,I,rfl,?_⟩;rw[show its.toArray.any (ry x)=its.any (ry x) by simp,jB r fs];exact q
theorem lO:cP X (.builtin "len") (λxs H Q=>∃p ys,xs=[.ref p]/\(fx X.K H p ys\/i_ X.K H p ys)/\Q (.int ys.length) H):=by
 intro f s j H xs us Q I r h;obtain⟨p,ys,rfl,hq,q⟩:=h;obtain⟨u,rfl,g⟩:=iF r;cases g;have hn:=lx;rcases hq with hq|hq
 .obtain⟨its,d,pl,i⟩:=I.list hq
  have c:=d.length;exact Calls.call_len_list pl.isList (by simp only[OU]<;>omega) ⟨.int ys.length,H,I.tok _,⟨s.toks+1,by rw[OU,c]⟩,q⟩
 .obtain⟨its,d,pl,i⟩:=I.tuple hq
  have c:=d.length;exact len_tuple pl (by simp only[OU]<;>omega) ⟨.int ys.length,H,I.tok _,⟨s.toks+1,by rw[OU,c]⟩,q⟩
theorem dZ:cP X (.type "list") (λxs H Q=>∃p ys,xs=[.ref p]/\(fx X.K H p ys\/i_ X.K H p ys)/\∀l,H l=Om->Q (.ref l) (upd H l (.lst ys))):=by
 intro f s v H xs us Q I r h;obtain⟨p,ys,rfl,hq,q⟩:=h;obtain⟨u,rfl,y⟩:=iF r;cases y
 have g:∀(its:List Oy),au ys its->ys.length<=OV->∀(h':P5) (c:Nat),(∀b t,s.heap.get? b=on t->h'.get? b=on t)->
   h'.get? s.heap.objs.size=on {cls:= .type "list",dict:=Om,data:= .seq its.toArray c,slots:=#[]}->EP X f v Q (.ref s.heap.objs.size) {s with heap:=h'}:=λits d i h' c kp e=>
  ⟨.ref s.heap.objs.size,_,I.laid (t':=s.toks) kp (OG _) (show bF X.prog X.w _ h' _ (.lst ys)from⟨i,its,c,d,e⟩),rfl,q _ (I.hok.fresh (OG _))⟩
 rcases hq with hq|hq
 .obtain⟨its,d,pl,i⟩:=I.list hq
  have j:=d.length;obtain⟨o,k,m,n,hd⟩:=pl.isList;exact call_list_seq p (.inl rfl) k m hd (λh' c kp e=>g its d i h' c kp e) (by simp only[OU]<;>omega)
 .obtain⟨its,d,pl,i⟩:=I.tuple hq
  have j:=d.length;obtain⟨o,k,m,n,hd⟩:=pl;exact call_list_seq p (.inr rfl) k m hd (λh' c kp e=>g its d i h' c kp e) (by simp only[OU]<;>omega)
theorem cx:cP X (.type "tuple") (λxs H Q=>∃p ys,xs=[.ref p]/\((fx X.K H p ys/\∀l,H l=Om->Q (.ref l) (upd H l (.tup ys)))\/(i_ X.K H p ys/\Q (.ref p) H))):=by
 intro c s g H xs us Q I r h;obtain⟨p,ys,rfl,h⟩:=h;obtain⟨u,rfl,m⟩:=iF r;cases m;rcases h with⟨d,q⟩|⟨d,q⟩
 .obtain⟨its,f,pl,i⟩:=I.list d
  have j:=f.length;refine call_tuple_list pl.isList (λh' kp=>?_) (by simp only[OU]<;>omega)
  have k:dc X c g H {s with heap:=h'}:=I.kept (t':=s.toks) kp;have n:dc X c g (upd H h'.objs.size (.tup ys)) {s with heap:=h'.push {cls:= .type "tuple",data:= .seq its.toArray}}:=
   k.laid (t':=s.toks) (λb o e=>Oo _ e) (OG _) (show bF X.prog X.w _ _ _ (.tup ys)from⟨i,its,f,Yd _ _⟩)
  exact⟨.ref h'.objs.size,_,n,rfl,q _ (k.hok.fresh (OG _))⟩
 .obtain⟨its,f,pl,i⟩:=I.tuple d
  exact call_tuple_same pl ⟨.ref p,H,I,rfl,q⟩
def tyV(K:OX)(T:String)(x:V)(H:Hp):Prop:=match x with
 | .str _=>T="str"
 | .int _=>T="int"
 | .ref p=>(T="list"/\∃xs,fx K H p xs)\/(T="tuple"/\∃o,K.lookup p=on o/\o.cls= .type "tuple"/\o.dict=Om)
 |_=>False
theorem Kf{s:OD}(I:dc X a_ σ H s)(r:aI x v)(ty:tyV X.K T x H):
  s.TypeIs v T/\∀a,v= .ref a->∃d,s.heap.get? a=on d/\d.dict=Om:=by
 cases x with
 |str z=>
  obtain⟨t,rfl⟩:=r;cases(show T="str"from ty);exact⟨typeIs_str s z t,λ_ e=>nomatch e⟩
 |int i=>
  obtain⟨t,rfl⟩:=r;cases(show T="int"from ty);exact⟨typeIs_int s i t,λ_ e=>nomatch e⟩
 |ref p=>
  cases r;rcases ty with⟨rfl,xs,g⟩|⟨rfl,o,f,h,hd⟩
  .obtain⟨its,_,pl,_⟩:=I.list g
   refine⟨pl.isList.typeIs,λa e=>?_⟩;cases e;obtain⟨o,n,e,c,hd,_⟩:=pl;exact⟨o,e,hd⟩
  .refine⟨⟨o,I.kIn p o f,h⟩,λa e=>?_⟩
   cases e;exact⟨o,I.kIn _ o f,hd⟩
 |_=>exact Rj ty
def tBM(K:OX)(T:String)(r:V->List V->Hp->VK->Prop)(to:TE)(t:TA):TE:=λc H Q=>to c H λx d=>tyV K T x d/\t c d λxs f=>r x xs f Q
variable{o:Expr}{es:List Expr}{to:TE}{t:TA}{name:Pn}{apos cpos:TK}{T id:String}{r:V->List V->Hp->VK->Prop}
theorem jS(n:PlainAttrs T)(slot:Slot T name id)(j:typeOf (.builtin id)=QU (.type "method_descriptor"))(hm:MtR X id r)(p:PE X o to)(ha:PA X (e::es) t)
  (f:SM o name X.env (P0 o X.env)=P0 o X.env:=by rfl)
  (i:((Q0 cpos (OM (e::es) X.env)).all (λx=>!x.1)&&(RN cpos (QH [] X.env)).all (λx=>x.1.isSome)
   &&decide ((e::es).length+([]:List Vr).length+(if([]:List Vr).isEmpty then 0 else 1)<30))=Oq:=by rfl)
  (g:(apos.endLine==cpos.line)=Oq:=by rfl) (hs:OM (e::es) X.env=(Ov,P0 e X.env)::OM es X.env:=by rfl) (d:(Q0 cpos (OM es X.env)).any (·.1)=Ov:=by rfl):
  PE X (.Call (.Attribute o name apos) (e::es) [] cpos) (tBM X.K T r to t):=by
 intro c s k H Q I h;refine Ys f i g rfl (eo (p c s k H _ I h) λv q ⟨x,u,l,r1,ty,q1⟩=>?_);obtain⟨w,y⟩:=Kf l r1 ty;refine⟨T,id,n,slot,j,w,y,?_⟩;have m:=ha cpos c q k u _ l q1;rw[hs]at m⊢;refine Uz (by show(Ov||(Q0 cpos (OM es X.env)).any (·.1))=Ov;rw[d]<;>rfl) (WR ?_)
 exact eo m λus A ⟨vs,B,C,F,q2⟩=>hm c A k B x vs v us Q C r1 F q2
def MtM(X:Cx)(id:String)(r:V->List V->Hp->VK->Prop):Prop:=
 ∀(c:List (Ou×Pa)) (s:OD) (d:St) (H:Hp) (x:V) (xs:List V) (v:Oy) (us:List Oy) (Q:VK),dc X c d H s->aI x v->au xs us->r x xs H Q->
  OK (O7 X.prog X.w) X.A (VI (.builtin id) (v::us)) (EP X c d Q) X.xe s
theorem au.one:∀{x:V} {us:List Oy},au [x] us->∃u,us=[u]/\aI x u
 |_,_,.cons r .nil=>⟨_,rfl,r⟩
theorem au.reverse{xs:List V}{us:List Oy}(h:au xs us):au xs.reverse us.reverse:=by
 induction h with
 |nil=>exact .nil
 |cons r t ih=>rw[Ud,Ud];exact au.append ih (.cons r .nil)
theorem au.rep(h:au xs us):∀k:Nat,au (O0 k xs).flatten (O0 k us).flatten
 |0=> .nil
 |k+1=>by
  rw[Qv,Qv,Rv,Rv];exact au.append h (au.rep h k)
theorem q8(its:List Oy):∀(k:Nat) (acc:List Oy),
  XU (λc d=>c++d) acc.toArray (O0 k its.toArray)=(acc++(O0 k its).flatten).toArray
 |0,acc=>by simp
 |k+1,acc=>by
  have e:acc.toArray++its.toArray=(acc++its).toArray:=by simp
  have f:(acc++its)++(O0 k its).flatten=acc++(O0 (k+1) its).flatten:=by
   rw[Qv,Rv,PZ]
  rw[<-f,<-q8 its k (acc++its),<-e,Qv,List.foldl_cons]
end
section
variable{X:Cx}{a_:List (Ou×Pa)}{σ:St}{H:Hp}{s:OD}{l b:Ou}{xs ys zs:List V}
theorem dc.lset{its its':List Oy}(I:dc X a_ σ H s)(a:H l=on (.lst xs))
  (e:s.heap.get? l=on {cls:= .type "list",data:= .seq its.toArray n}) (c:f its.toArray=its'.toArray) (d:au ys its') (g:ys.length<=OV):
  dc X a_ σ (upd H l (.lst ys)) {s with heap:=s.heap.update l (P6 f),toks:=t'}:=by
 have q:=PySem.IsL.update e f;rw[c]at q;refine I.write (x:=l) (e:=l) (by rw[a];exact trivial) (.inl rfl) (λj u h i=>(WJ s.heap (P6 f) (Ne.symm h)).trans i) ⟨_,q⟩ ?_;exact⟨g,its',_,d,q⟩
theorem dc.lnew{its:List Oy}(I:dc X a_ σ H s)(a:au ys its)(c:ys.length<=OV):
  dc X a_ σ (upd H s.heap.objs.size (.lst ys)) {s with heap:=s.heap.push {cls:= .type "list",data:= .seq its.toArray},toks:=t'}:=
 I.laid (λ_ _ q=>Oo _ q) (OG _) ⟨c,its,0,a,OL _ rfl⟩
theorem dc.fresh(I:dc X a_ σ H s):H s.heap.objs.size=Om:=I.hok.fresh (OG _)
theorem dc.lstM(I:dc X a_ σ H s)(a:H l=on (.lst xs)):xs.length<=OV/\∃(its:List Oy) (n:Nat),au xs its/\xs.length=its.length/\s.heap.get? l=on {cls:= .type "list",data:= .seq its.toArray n}:=by
 obtain⟨z,its,n,r,e⟩:=I.hok l _ a;exact⟨z,its,n,r,r.length,e⟩
theorem CD(h:n<=OV):Tp n=Ov:=by
 unfold Tp;exact Pp (by omega)
def vi:V->List V->Hp->VK->Prop:=λx vs H Q=>∃l xs y,x= .ref l/\vs=[y]/\H l=on (.lst xs)/\xs.length<OV/\Q .non (upd H l (.lst (xs++[y])))
theorem dW:MtM X "list.append" vi:=by
 intro a_ s σ H x vs v us Q I c d h;obtain⟨l,xs,y,rfl,rfl,a,g,q⟩:=h;cases c;obtain⟨u,rfl,f⟩:=d.one;obtain⟨z,its,n,r,i,e⟩:=I.lstM a;refine W5 F.slot_list_append ⟨_,e,rfl⟩ F.entry_list_append (Yb _ _) (X2 l its.toArray n u (by rw[OU];omega)) ⟨e,?_⟩;refine⟨.non,_,I.lset (its':=its++[u]) a e (by simp) (r.append (.cons f .nil)) ?_,rfl,q⟩;rw[OQ,PL];omega
noncomputable def ZK:R2:=λx y H Q=>∃l b xs zs,x= .ref l/\y= .ref b/\H l=on (.lst xs)/\H b=on (.lst zs)/\xs.length+zs.length<=OV/\∀p,H p=Om->Q (.ref p) (upd H p (.lst (xs++zs)))
theorem Lg:gs X (Ru .Add) ZK:=by
 intro a_ s σ H x y v u Q I c d h;obtain⟨l,b,xs,zs,rfl,rfl,f,hB,m,q⟩:=h;cases c;cases d;obtain⟨z,its,n,r,o,e⟩:=I.lstM f;obtain⟨p,a,t,g,i,j⟩:=I.lstM hB;refine Xz e j ?_ (by rw[OU,OU];omega);have k:its.toArray++a.toArray=(its++a).toArray:=by simp
 rw[k];exact⟨.ref _,_,I.lnew (t':=s.toks) (r.append g) (by rw[OQ];omega),rfl,q _ I.fresh⟩
noncomputable def ZG:R2:=λx y H Q=>∃l k xs,x= .ref l/\y= .int k/\H l=on (.lst xs)/\-(2^63)<=k/\k<2^63/\xs.length*k.toNat<=OV/\
 ∀p,H p=Om->Q (.ref p) (upd H p (.lst (O0 k.toNat xs).flatten))
theorem JH{α:Type}(xs:List α)(k:Nat):(O0 k xs).flatten.length=k*xs.length:=by
 induction k with
 |zero=>simp
 |succ k ih=>rw[Qv,Rv,OQ,ih,Nat.succ_mul,Vw]
theorem Lb:gs X (Ru .Mult) ZG:=by
 intro a_ s σ H x y v u Q I w A h;obtain⟨l,k,xs,rfl,rfl,B,C,J,p,q⟩:=h;cases w;obtain⟨t,rfl⟩:=A;obtain⟨z,its,n,r,L,e⟩:=I.lstM B;have d:its.toArray.size*k.toNat<=OV:=by rw[OU,<-L];exact p
 have f:¬its.toArray.size*k.toNat>(2^63-1)/8:=by
  have:(OV:Nat)<=(2^63-1)/8:=by decide
  omega
 have g:¬(!Builtin.List.listFitsIndex k)=Oq:=by
  rw[fitsIndex_both C J];exact OH
 have c:¬Tp (its.toArray.size*k.toNat)=Oq:=by
  rw[CD d];exact OH
 have i:XU (λj o=>j++o) #[] (O0 (if its.toArray.isEmpty=Oq then 0 else k.toNat) its.toArray)=(O0 k.toNat its).flatten.toArray:=by
  have N:∀m:Nat,XU (λj o=>j++o) #[] (O0 m its.toArray)=(O0 m its).flatten.toArray:=λm=>by
   have:=q8 its m [];rw[Q6]at this;exact this
  rw[N];cases its with
  |nil=>simp
  |cons a O=>rw[OC (by simp)]
 refine wpAny_binaryOp_repeat_ref (T:="list") (U:="int") (by decide) ⟨_,e,rfl⟩ (λs'=>typeIs_int s' k t) noFill_list_mul F.fills_int_mul F.slot_int_rmul repeat_list F.slot_int_index.lookup
  (W5 F.slot_int_rmul (typeIs_int s k t) F.entry_int_rmul (F.args_int_rmul_2 _ _) (int___rmul___int_list k t l its.toArray n)
   ⟨e,rfl,⟨_,e,rfl⟩,W5 F.slot_list_mul ⟨_,e,rfl⟩ F.entry_list_mul (F.args_list_mul_2 _ _) (AutoListH.list___mul___list_int_3 l its.toArray n k t g f c) ⟨e,?_⟩⟩)
 rw[i];exact⟨.ref _,_,I.lnew (t':=s.toks) (r.rep k.toNat) (by rw[JH,RM];exact p),rfl,q _ I.fresh⟩
variable{prog:Pf}{w:Po}{A:PV}{E:Oy->OD->Prop}
end
end L2
namespace Att
open PySem PySem.W PySem.Calls PyProof.Rows
theorem pC:∀(ns:List Int) (vs:List Oy),WellAll P h vs (ns.map WData.int)->WK vs ns:=by
 intro ns
 induction ns with
 |nil=>
  intro vs w;rw[RI]at w;cases w;exact .nil
 |cons n ns ih=>
  intro vs w;rw[OJ]at w;cases w with
  |cons a b=>
   cases a;exact .cons _ _ (ih _ b)
theorem yo{l:OpenLaw}(hn:l.most=on n){h:P5}
  (b:l.row.toRowW.claim.pre args=Oq) (g:WellAll P h vals args):
  ∃a vs ns,vals=[OP a]/\args=[WData.list (ns.map WData.int)]/\h.get? a=on {cls:= .type "list",data:= .seq vs.toArray}/\WK vs ns/\ns.length<=n:=by
 have hsh:WShape.hasAll [] args [.list .int]=Oq:=(pre_splitW b).1;have i:l.pre.holds [] {args:=args}=Oq:=(pre_splitW b).2;obtain⟨d,r,rfl,j,k⟩:=hasAllW_cons hsh;obtain rfl:=hasAllW_nil k;obtain⟨xs,rfl,m⟩:=hasW_list j;obtain⟨ns,rfl⟩:=items_int m;have c:ns.length<=n:=by
  unfold OpenLaw.pre at i;have e:(WTm.not (.lt (.lit (.int (n:Int))) (.len (.arg 0)))).holds [] {args:=[.list (ns.map .int)]}=Oq:=by
   have e:=(holds_andW i).1;rw[hn]at e;exact e
  have f:=condW_of e (w_not (w_lt w_lit (w_len_list (w_arg rfl))));rw[Ol]at f;refine Nat.le_of_not_lt λq=>?_;have o:(n:Int)<((ns.length:Nat):Int):=by omega
  first
   |(rw[OO o]at f;exact O4 f (by decide))
   |(simp at f;omega)
 cases g with
 |cons p t=>
  cases t;cases p with
  |list ho hall=>exact⟨_,_,ns,rfl,rfl,ho,pC ns _ hall,c⟩
theorem yM(l:OpenLaw)(args:List WData):l.row.toRowW.claim.post args (.bool Oq) args=Oq:=
 postW_of (r:=l.row.toRowW) (X:=(Oq==Oq))
  (show WShape.has [] (.bool Oq) .bool=Oq by first|rfl|decide|simp[WShape.has,WShape.arms,WShape.armsAll])
  (show(WTm.eq .res (.lit (.bool Oq))).value [] {args:=args,res:=on (.bool Oq),after:=args}=on (.bool (Oq==Oq))from w_eq_bool (w_res rfl) w_lit) rfl
theorem attach_call{l:OpenLaw}{d:DefRec}
  (hn:l.most=on n) (k:d.params.defaults=[])
  (VI:∀(w:Po) (s₀ b:OD) (mg m:Pn->Option Oy) (g:Ou) (o:Pa) (p cd c:Oy) (a:Ou) (vs:List Oy) (ns:List Int),
   Ground q loose [] XP w s₀ mg m b.heap->YP w b.heap->
   b.heap.get? g=on o->o.data= .func (docDef d.name d.params d.body d.scope p cd c)->b.heap.CodeRec cd d.name->mg d.name=on (.ref g)->
   b.heap.get? a=on {cls:= .type "list",data:= .seq vs.toArray}->WK vs ns->ns.length<=n->b.gens=#[]->
   SQ (O7 l.prog w) V1 (.call (.ref g) ⟨[.ref a],[]⟩) (λr s'=>r= .ok (.ret (.bool Oq))/\OldK b.heap s'.heap/\s'.os=b.os/\T8 s'.gens) b):
  WalkO q loose XP YP l.row.toRowW d [] (λf vs=>XF f vs):=by
 intro w s₀ b mg m G Y g o p cd c B C F hd t y u H args vals as h A I v J;obtain rfl:B= .none:=Dflts.none y k;obtain rfl:C= .none:=Dflts.noKw y;obtain⟨a,vs,ns,rfl,rfl,i,e,j⟩:=yo hn h v;refine enter_call (Ug (VI w s₀ b mg m g o p cd c a vs ns G Y F (fd_plain hd) t u i e j H) λr s' L=>?_);obtain⟨rfl,N,O,P⟩:=L;exact⟨.inl ⟨.bool Oq,.bool Oq,[],rfl,λ_=>rfl,.bool Oq,yM l _,λ_=>⟨UH,λ_ hm=>(nomatch hm)⟩⟩,N,O,P⟩
section
variable{prog:Pf}{w:Po}{A:PV}{E:Oy->OD->Prop}{s:OD}{K:OX}
end
end Att
namespace L2
open PySem PySem.Spec PyProof.Rows
theorem qD:∀{vs:List Oy} {ns:List Int},WK vs ns->au (ns.map V.int) vs
 |_,_,.nil=> .nil
 |_,_,.cons n t h=> .cons ⟨t,rfl⟩ (qD h)
def GG(H:Hp):Prop:=∀b,H b=Om\/∃o xs,H b=on (.frz o (.lst xs))
theorem CY{K:OX}{c:OD}{vs:List Oy}{ns:List Int}
  (R:K.In c.heap) (p:c.heap.Ns QY mg) (g:c.heap.Ns W3 mb) (I:∀x:Pn,x≠"__name__"->mb x=SF x) (t:c.heap.NoLimit) (hg:c.gens=#[])
  (ha:c.heap.get? a=on {cls:= .type "list",data:= .seq vs.toArray}) (T:WK vs ns) (U:ns.length<=OV) (hr:eg k V1)
  (F:∀base:P5,K.In base->base.Ns QY mg->e_ P w K mg base CX k fa fd [x] sp) (l:∀(s:OD) (u:Oy),Vp s fd ⟨[u],[]⟩ [(x,u)])
  (J:∀H:Hp,GG H->fx K H a (ns.map V.int)->sp [.ref a] H (λv _=>v= .bl Oq) λ_ _ _=>False)
  (L:∀H e s',CX [] H c (λ_ _ _=>False) e s'->False):
  SQ (O7 P w) V1 (.call (.ref fa) ⟨[.ref a],[]⟩) (λr s'=>r= .ok (.ret (.bool Oq))/\OldK c.heap s'.heap/\s'.os=c.os/\T8 s'.gens) c:=by
 have W:=qD T;have y:=T.length
 --from an abstract heap in which nothing but the script may be tracked
 have j:∀H:Hp,GG H->fx K H a (ns.map V.int)->lp P w H c.heap->(∀b,H b≠Om->b=a)->(H a≠Om->K.lookup a=Om)->
   SQ (O7 P w) V1 (.call (.ref fa) ⟨[.ref a],[]⟩) (λr s'=>r= .ok (.ret (.bool Oq))/\OldK c.heap s'.heap/\s'.os=c.os/\T8 s'.gens) c:=by
  intro H X hS hok Y hK;have f:∀{b:Ou} {o:Pa},c.heap.get? b=on o->H b=Om->(j8 c.heap H).get? b=on o:=λe n=>DI e n;have N:∀{b:Ou} {o:Pa} {es:Array Q2} {ep:Nat},c.heap.get? b=on o->o.data= .dict es ep->H b=Om:=λ{b o es ep} e d=>by
   cases q:H b with
   |none=>rfl
   |some u=>
    have O:b=a:=Y b (by rw[q];simp);subst O;rw[ha]at e;cases e;have d':Data.seq vs.toArray _=Data.dict es ep:=d;cases d'
  have i:∀{b:Ou} {m:Pn->Option Oy},c.heap.Ns b m->(j8 c.heap H).Ns b m:=λ{b m} ⟨o,es,ep,e,d,r⟩=>⟨o,es,ep,f e (N e d),d,r⟩;have A:K.In (j8 c.heap H):=λb o e=>f (R b o e) (by
   cases q:H b with
   |none=>rfl
   |some u=>
    have O:b=a:=Y b (by rw[q];simp);subst O;rw[hK (by rw[q];simp)]at e;cases e)
  have hM:Mod K mg (j8 c.heap H):=⟨A,i p,⟨mb,i g,I⟩,let ⟨mc,h1,h2⟩:=t;⟨mc,i h1,h2⟩⟩
  have e0:tx P w K mg (j8 c.heap H) V1 [] c H:=⟨rfl,hM,λb o e=>Jz e,Nat.le_of_eq (zN _ _),trivial,λb g=>O4 (show b∈([]:List Ou)from g) (by simp),hok,.of_eq hg⟩;refine Ug ((F _ A (i p)).run V1 [] c H ⟨[.ref a],[]⟩ [.ref a] [.ref a] _ _ hr e0 (l c (.ref a)) (.cons rfl .nil) (J H X hS)) λr s' h=>?_;cases r with
  |error e=>exact(L H e s' h).elim
  |ok fl=>
   cases fl with
   |next=>exact Rj h
   |brk=>exact Rj h
   |cont=>exact Rj h
   |ret u=>
    obtain⟨v,H',os,bare,un,B,r',q⟩:=h;have q':v= .bl Oq:=q;subst q';obtain rfl:u=Vc Oq:=r';refine⟨rfl,OldK.of_keep λb o e=>?_,os,bare⟩;cases q:H b with
    |none=>exact un.keep b o e q (by intro z;exact O4 (show b∈([]:List Ou)from z) (by simp)) (by simp)
    |some u=>
     rcases X b with z|⟨ob,xs,z⟩
     .rw[q]at z;cases z
     .have z2:=un.frzs b ob _ z
      obtain⟨Z,_⟩:=hok b _ z;obtain⟨e2,_⟩:=B b _ z2;rw[e]at Z;cases Z;exact e2
 cases Q:K.lookup a with
 |some o=>
  --the script is one of the module's own objects
  have e:=R a o Q;rw[ha]at e;cases e;refine j (λ_=>Om) (λ_=> .inl rfl) (.inr ⟨_,vs.toArray,_,Q,rfl,rfl,rfl,by rw[OU,y];exact U,by simpa using W⟩) (λb u z=>by have C:(Om:Option HO)=on u:=z;cases C) (λb z=>O4 rfl z) λz=>O4 rfl z
 |none=>
  refine j (λb=>if b=a then on (.frz {cls:= .type "list",data:= .seq vs.toArray} (.lst (ns.map V.int)))else Om) (λb=>?_) (.inl (.inr ⟨{cls:= .type "list",data:= .seq vs.toArray},OE rfl⟩)) (λb u z=>?_) (λb z=>?_) λ_=>Q
  .by_cases g:b=a
   .exact .inr ⟨_,_,OE g⟩
   .exact .inl (OC g)
  .by_cases g:b=a
   .have C:=(OE g).symm.trans z
    cases C;subst g;exact⟨ha,by rw[Ol];exact U,vs,_,W,ha⟩
   .have C:=(OC g).symm.trans z
    cases C
  .by_cases g:b=a
   .exact g
   .exact O4 (OC g) z
theorem walk_of{l:PySem.W.OpenLaw}{n k:Nat}{q:Pf}{loose:List Pn}{XP:(Pn->Option Oy)->P5->Prop}{YP:Po->P5->Prop}{d:DefRec}{K:Wl->OX}{CX:Po->J_}{sp:Po->Sp}{x:Pn}
  (hn:l.most=on n) (r:n<=OV) (t:d.params.defaults=[]) (J:eg k V1)
  (L:∀(w:Po) (h:P5),YP w h->(K w.params).In h)
  (F:∀(w:Po) (mg:Pn->Option Oy) (p:Ou) (h:P5),(K w.params).In h->h.Ns QY mg->mg d.name=on (.ref p)->
   ∃B:O8,(∀(s:OD) (u:Oy),Vp s B ⟨[u],[]⟩ [(x,u)])/\
    ∀base:P5,(K w.params).In base->base.Ns QY mg->e_ l.prog w (K w.params) mg base (CX w) k p B [x] (sp w))
  (y:∀(w:Po) (H:Hp) (a:Ou) (ns:List Int),ns.length<=n->GG H->fx (K w.params) H a (ns.map V.int)->sp w [.ref a] H (λv _=>v= .bl Oq) λ_ _ _=>False)
  (A:∀(w:Po) (H:Hp) (s:OD) (e:Oy) (s':OD),CX w [] H s (λ_ _ _=>False) e s'->False):
  PySem.W.WalkO q loose XP YP l.row.toRowW d [] (λf vs=>XF f vs):=by
 refine Att.attach_call hn t λw s₀ j mg X p o Z cd N a vs ns G Y ho hd O C m i c P=>?_;have I:=L w _ Y;obtain⟨B,Q,hF⟩:=F w mg p _ I G.T.g C;exact CY I G.T.g G.T.b G.T.builtins G.T.nolimit P m i (OS c r) J hF Q (λH R U=>y w H a ns c R U) λH e s'=>A w H j e s'
noncomputable def aA(s:Qg)(j:Nat):Qg:=match s with
 | .ClassDef _ _ _ body _ _ _ _ _ _ _=>body.getD j (.Pass ⟨0,0,0,0⟩)
 |_=> .Pass ⟨0,0,0,0⟩
noncomputable def g9(s:Qg):Arguments:=match s with
 | .FunctionDef _ a _ _ _ _ _ _ _ _=>a
 |_=>{posonlyargs:=[],args:=[],vararg:=Om,kwonlyargs:=[],kw_defaults:=[],kwarg:=Om,defaults:=[]}
noncomputable def bZ(s:Qg):List Qg:=match s with
 | .FunctionDef _ _ b _ _ _ _ _ _ _=>b
 |_=>[]
noncomputable def af(s:Qg):Scope:=match s with
 | .FunctionDef _ _ _ _ _ _ sc _ _ _=>sc
 |_=>{kind:= .function,names:=[],isGenerator:=Ov,isCoroutine:=Ov}
abbrev E0:St->XK:=λ_ _ _ _=>False
structure Fun (K:OX) (x qual:Pn) (st:Qg) (f:Ou) (fd:O8):Prop where
 ex:∃(oc:Oy) (od:Option Ou) (kV doc pm:Oy) (an:Option Ou) (cdv ct:Oy) (osl:Array (Option Oy)),
  fd=SL x qual (g9 st) (bZ st) (af st) .none kV doc pm an cdv ct/\K.lookup f=on ⟨oc,od,.func fd,osl⟩/\Ts K cdv qual=Oq
 kp:Us K (.ref f)=Oq
section
variable{P:Pf}{w:Po}{K:OX}{mg:Pn->Option Oy}{base:P5}
theorem rW{A:PV}(a:eg k A):A.units+1<T7:=Qo (XW (by decide:1<=64) _) a.units
theorem qL(h:n<=1000):n<OV:=Qo h (by decide)
variable{X:Cx}
theorem pv(i:Nat)(b:X.N[i]?=on x:=by rfl)(c:YU X.env.scope x:=by first|exact Q1 rfl|exact Sj (Q1 rfl)|exact Sj (Sj rfl))(hd:(x==("__debug__":Pn))=Ov:=by decide)
  (a:(x==("__classdict__":Pn))=Ov:=by decide):PE X (.Name x pos) (jK i):=K3 b c hd a
theorem ZX{A B:Prop}(h:A):if Oq=Oq then A else B:=by
 rw[OE rfl];exact h
theorem ZY{c A B:Prop} [Decidable c](a:c->A)(b:¬c->B):if c then A else B:=by
 by_cases h:c
 .rw[OE h]
  exact a h
 .rw[OC h]
  exact b h
def bJ(H a:Hp):Prop:=∀b o,H b=on o->a b=on o
theorem bJ.refl(H:Hp):bJ H H:=λ_ _ h=>h
theorem bJ.trans(a:bJ H H1)(b:bJ H1 H2):bJ H H2:=λc o h=>b c o (a c o h)
theorem bJ.free(e:bJ H H')(h:H' l=Option.none):H l=Option.none:=by
 cases q:H l with
 |none=>rfl
 |some o=>
  rw[e l o q]at h;cases h
theorem cX:∀(names:List (Pn×Sx)) (n:Nat) (acc:List (Pn×Ou)),Qy n names acc=Qy n names []++acc
 |[],_,_=>rfl
 |(x,k)::r,n,acc=>by
  unfold Qy;split
  .rw[cX r (n+1) ((x,n)::acc),cX r (n+1) [(x,n)],PZ]
   rfl
  .exact cX r n acc
theorem gF:∀{names:List (Pn×Sx)} {n:Nat} {x:Pn} {c:Ou},(x,c)∈Qy n names []->(x,VT)∈names
 |[],_,_,_,h=>by cases h
 |(y,k)::r,n,x,c,h=>by
  unfold Qy at h;split at h
  .rename_i a
   rw[cX]at h;rcases Qd.mp h with h|h
   .exact Ot _ (gF h)
   .obtain⟨rfl,_⟩:x=y/\c=n:=by simpa using h
    obtain rfl:k= .cell:=by simpa using a
    exact Oz
  .exact Ot _ (gF h)
noncomputable def cQ(cells:List (Pn×Ou)):List (Pn×Sx)->List (Pn×Ou)->List (Pn×Ou)
 |[],acc=>acc
 |(x,k)::r,acc=>if k== .free then cQ cells r ((x,(cells.lookup x).getD 0)::acc)else cQ cells r acc
theorem l4{cells:List (Pn×Ou)}:∀{names:List (Pn×Sx)} {acc:List (Pn×Ou)} {x:Pn} {c:Ou},(x,c)∈cQ cells names acc->(x,c)∈acc\/((x,Rp)∈names/\c=(cells.lookup x).getD 0)
 |[],_,_,_,h=> .inl h
 |(y,k)::r,acc,x,c,h=>by
  unfold cQ at h;split at h
  .rename_i a
   obtain rfl:k= .free:=by simpa using a
   rcases l4 h with h|⟨h,e⟩
   .rcases ON.mp h with h|h
    .cases h
     exact .inr ⟨Oz,rfl⟩
    .exact .inl h
   .exact .inr ⟨Ot _ h,e⟩
  .rcases l4 h with h|⟨h,e⟩
   .exact .inl h
   .exact .inr ⟨Ot _ h,e⟩
theorem n5:∀{names:List (Pn×Sx)} {acc:List (Pn×Ou)} {p:Pn×Ou},p∈acc->p∈cQ cells names acc
 |[],_,_,h=>h
 |(y,k)::r,acc,p,h=>by
  unfold cQ;split
  .exact n5 (Ot _ h)
  .exact n5 h
theorem nZ{cells:List (Pn×Ou)}:∀{names:List (Pn×Sx)} {acc:List (Pn×Ou)} {x:Pn},(x,Rp)∈names->(x,(cells.lookup x).getD 0)∈cQ cells names acc
 |[],_,_,h=>by cases h
 |(y,k)::r,acc,x,h=>by
  unfold cQ;rcases ON.mp h with h|h
  .cases h
   rw[OE (by decide)];exact n5 Oz
  .split
   .exact nZ h
   .exact nZ h
theorem kB{α:Type}:∀{l:List (Pn×α)} {x:Pn} {c:α},(x,c)∈l->∃d,l.lookup x=on d
 |[],_,_,h=>by cases h
 |(y,d)::r,x,c,h=>by
  rw[Ux];cases a:x==y with
  |true=>exact⟨d,rfl⟩
  |false=>
   rcases ON.mp h with h|h
   .cases h
    simp at a
   .exact kB h
theorem cK{α:Type}:∀{l:List (Pn×α)} {x:Pn} {c:α},(l.map (·.1)).Nodup->(x,c)∈l->l.lookup x=on c
 |[],_,_,_,h=>by cases h
 |(y,d)::r,x,c,nd,h=>by
  rw[OJ]at nd;obtain⟨a,b⟩:=Pw.mp nd;rw[Ux];rcases ON.mp h with h|h
  .cases h
   simp
  .have:x≠y:=λe=>a (e▸List.mem_map_of_mem (f:=(·.1)) h)
   rw[beq_eq_false_iff_ne.mpr this];exact cK b h
theorem qy{env:VN}(f:Pn×Sx->List (Pn×Ou)->Sem (ForInStep (List (Pn×Ou))))
  (g:∀name kind cs,f (name,kind) cs=if kind== .free then(do let a <-cellOf env name;QU (.yield ((name,a)::cs)))else QU (.yield cs)):
  ∀(names:List (Pn×Sx)) (acc:List (Pn×Ou)),(∀y∈names,y.2= .free->∃c,env.cells.lookup y.1=on c)->forIn names acc f=QU (cQ env.cells names acc)
 |[],_,_=>by rw[R9];rfl
 |(x,k)::r,acc,h=>by
  rw[RV,g];unfold cQ;have i:∀y∈r,y.2= .free->∃c,env.cells.lookup y.1=on c:=λy j=>h y (Ot _ j);by_cases b:(k==Rp)=Oq
  .rw[OE b,OE b]
   obtain⟨c,l⟩:=h (x,k) Oz (by simpa using b);have d:env.cells.lookup x=on c:=l;have e:cellOf env x=QU c:=by unfold cellOf;rw[d]
   rw[e,d];simp only[pure_bind];exact qy f g r _ i
  .rw[OC b,OC b]
   simp only[pure_bind];exact qy f g r _ i
theorem xF{scope:Scope}{env:VN}(h:∀y∈scope.names,y.2= .free->∃c,env.cells.lookup y.1=on c):closureFor scope env=QU (cQ env.cells scope.names []):=by
 simp only[closureFor];rw[qy (env:=env) _ (λname kind cs=>by cases a:kind==Rp<;>simp[a]) scope.names [] h]
 rfl
theorem DR{M:Model}{E:Oy->OD->Prop}{s:OD}{scope:Scope}
  (f:∀h':P5,h'.Ns s.heap.objs.size (λ_=>Om)->(∀b o,s.heap.get? b=on o->h'.get? b=on o)->
   (∀n c,(n,c)∈Qy (s.heap.objs.size+1) scope.names []->h'.IsCell c Om/\s.heap.objs.size+1<=c)->
   ((Qy (s.heap.objs.size+1) scope.names []).Pairwise λx y=>x.2≠y.2)->
   Q (newEnv scope s.heap.objs.size globals (Qy (s.heap.objs.size+1) scope.names cl) qual Om .none (on env) W3) {s with heap:=h'}):
  OK M A (Xb scope globals cl [] qual Om .none (on env)) Q E s:=by
 simp only[Xb,Option.isSome_some,PN];refine My (wpAny_alloc ?_);refine My (wpAny_layCells _ (λname kind cells=>by cases a:kind==VT<;>simp[a]) _ _ _ _ ?_)
 have ok:=cellsFrom_ok scope.names (s.heap.push {cls:= .type "dict",data:= .dict #[]}) (s.heap.objs.size+1) [] ⟨λ_ _ hm=>(nomatch hm),UH⟩ (by rw[Qn];exact OG _);rw[Qn]at ok;rw[show({s with heap:=s.heap.push {cls:= .type "dict",data:= .dict #[]}}:OD).heap.objs.size=s.heap.objs.size+1 from Qn ..];have d:=f (pushCells (s.heap.push {cls:= .type "dict",data:= .dict #[]}) scope.names) ((Heap.Ns.new s.heap (.type "dict")).keeps (pushCells_keeps _ _)) (λb o e=>pushCells_keeps _ _ b o (Oo _ e)) ok.empty ok.apart;exact My (On (On d))
noncomputable abbrev az(X:Cx)(a:List Pn)(scope:Scope)(cl:List (Pn×Ou))(C:Ou)(b:List Ou)(s:OD)(H:Hp):Cx:=
 {X with N:=a,s₀:=s,H₀:=H,env:=compEnvC scope cl C X.env,outer:=X.stack,stack:=X.stack,ex:=b,fn:=λx=>scope.names.lookup x !=on .free,pn:=[],xe:=λ_ _=>False}
theorem j1{scope:Scope}{y:Pn×Sx}(h:y∈(relabel scope env).names):y∈scope.names\/(y.2= .cell/\(y.1,Rp)∈scope.names):=by
 obtain⟨⟨n,k⟩,hm,e⟩:=OF.mp h
 dsimp only at e
 split at e
 .rename_i a
  cases e;simp only[Pc,Sy]at a;obtain⟨⟨a,_⟩,_⟩:=a;subst a;exact .inr ⟨rfl,hm⟩
 .cases e
  exact .inl hm
theorem DF{X:Cx}{R:St}{s:OD}{Nc dq:List Pn}{c4:List Nat}{scope:Scope}{h':P5}(I:dc X a_ R H s)
  (hk:scope.kind= .function) (g:(scope.names.map (·.1)).Nodup) (f:∀y∈scope.names,y.2= .free->X.env.kindOf y.1=on .cell\/X.env.kindOf y.1=on .free)
  (T:Nc=dq++c4.map (λj=>X.N.getD j Sw)) (U:∀j∈c4,j<X.N.length/\scope.names.lookup (X.N.getD j Sw)=on .free)
  (F:∀b∈fp,eL X a_ H b) (W:∀b∈fp,∃o,s.heap.get? b=on o) (ns:h'.Ns s.heap.objs.size λ_=>Om) (keep:∀b o,s.heap.get? b=on o->h'.get? b=on o)
  (O:∀n c,(n,c)∈Qy (s.heap.objs.size+1) scope.names []->h'.IsCell c Om/\s.heap.objs.size+1<=c) (ca:(Qy (s.heap.objs.size+1) scope.names []).Pairwise λx y=>x.2≠y.2):
  dc (az X Nc scope (Qy (s.heap.objs.size+1) scope.names (cQ X.env.cells scope.names [])) s.heap.objs.size fp s H) [] (O0 dq.length Om++c4.map (λj=>R.getD j Om)) H {s with heap:=h'}:=by
 --the cells
 have old:∀{x:Pn} {c:Ou},(x,c)∈cQ X.env.cells scope.names []->X.env.cells.lookup x=on c/\(x,Rp)∈scope.names:=λ{x c} h=>by
  rcases l4 h with h|⟨hm,e⟩
  .cases h
  .obtain⟨d,hd⟩:=I.ok.has x (f _ hm rfl)
   rw[hd]at e;exact⟨by rw[hd,e];rfl,hm⟩
 have a:∀{x:Pn} {c:Ou},(Qy (s.heap.objs.size+1) scope.names (cQ X.env.cells scope.names [])).lookup x=on c->
   (x,c)∈Qy (s.heap.objs.size+1) scope.names []\/(X.env.cells.lookup x=on c/\(x,Rp)∈scope.names):=λ{x c} h=>by
  have h:=Qh h;rw[cX]at h;rcases Qd.mp h with h|h
  .exact .inl h
  .exact .inr (old h)
 have freeC:∀{x:Pn},(x,Rp)∈scope.names->∃c,X.env.cells.lookup x=on c/\(Qy (s.heap.objs.size+1) scope.names (cQ X.env.cells scope.names [])).lookup x=on c:=λ{x} hm=>by
  obtain⟨d,hd⟩:=I.ok.has x (f _ hm rfl);have e:=nZ (cells:=X.env.cells) (acc:=[]) hm;obtain⟨c,Q⟩:=kB (l:=Qy (s.heap.objs.size+1) scope.names (cQ X.env.cells scope.names [])) (x:=x) (c:=(X.env.cells.lookup x).getD 0) (by rw[cX];exact Pt _ e);rcases a Q with z|⟨z,_⟩
  .have B:=cK g (gF z)
   rw[cK g hm]at B;cases B
  .exact⟨c,z,Q⟩
 have k:∀{x:Pn} {c:Ou},X.env.cells.lookup x=on c->c<s.heap.objs.size:=λ{x c} h=>let ⟨v,q⟩:=I.cell x c h;q.lt
 have nofr:H s.heap.objs.size=Om:=I.hok.fresh (OG _);have Y:∀b∈hO X.stack,b∈X.env.locals::X.fs:=I.stkSub;refine⟨⟨I.ok.mod,hk,I.ok.glob,I.ok.blt,OG _,λx y c h1 h2=>?_,λx hx=>?_,λx c hf h=>?_,I.ok.hd,I.ok.frames,.inl rfl,λb J=>⟨?_,λx c h e=>?_⟩,I.bs,OS I.ok.bsz I.sz,λb o e J=>?_,λb J hf=>?_,I.stack,I.stkFree⟩,
  rfl,I.bare,Un.kept keep,⟨_,ns,λi x v e1 A e3=>?_⟩,λx c h=>?_,nofr,λx c h=>?_,λp hp=>O4 hp (by simp),I.hok.kept keep,?_⟩
 .rcases a h1 with B|⟨B,_⟩<;>rcases a h2 with Z|⟨Z,_⟩
  .exact name_of_addr ca B Z
  .exact O4 (O3 (k Z) (OS (Ul _) (O _ _ B).2)) (PH _)
  .exact O4 (O3 (k B) (OS (Ul _) (O _ _ Z).2)) (PH _)
  .exact I.ok.inj _ _ _ B Z
 .--has
  have hx:(relabel scope X.env).names.lookup x=on .cell\/(relabel scope X.env).names.lookup x=on .free:=hx;have hm:(x,VT)∈scope.names\/(x,Rp)∈scope.names:=by
   rcases hx with hx|hx
   .rcases j1 (Qh hx)with z|⟨_,z⟩
    .exact .inl z
    .exact .inr z
   .rcases j1 (Qh hx)with z|⟨_,z⟩
    .exact .inr z
    .exact .inr z
  rcases hm with hm|hm
  .have q:=W6 scope.names (s.heap.objs.size+1) (cQ X.env.cells scope.names []) (x:=x) (.inl (cK g hm))
   exact Wc.mp q
  .obtain⟨c,_,Q⟩:=freeC hm
   exact⟨c,Q⟩
 .--cab
  rcases a h with z|⟨_,z⟩
  .exact OS (Ul _) (O _ _ z).2
  .have z':(scope.names.lookup x !=on .free)=Oq:=hf
   rw[cK g z]at z';exact O4 z' (by decide)
 .obtain⟨o,e⟩:=W b J
  exact Ps (O1 e)
 .rcases a h with z|⟨z,_⟩
  .obtain⟨o,e'⟩:=W b J
   subst e;exact O4 (O3 (O1 e') (OS (Ul _) (O _ _ z).2)) (PH _)
  .exact(F b J).2.2.2.2.1 x c z e
 .obtain⟨_,_,_,h4,_⟩:=F b J
  rcases h4 with z|z
  .exact I.ok.noex b o e z
  .exact O4 (O3 (O1 (I.ok.bs b o e).1) z) (PH _)
 .obtain⟨_,h2,h3,_⟩:=F b J
  rcases ON.mp (Y b hf)with z|z
  .exact h2 z
  .exact h3 z
 .--the names' values
  have hi:¬i<dq.length:=λhi=>by
   rw[Sv (by simpa using hi),Q4]at A;split at A<;>cases A
  have L:(dq++c4.map (λj=>X.N.getD j Sw))[i]?=on x:=by rw[<-T];exact e1
  rw[QJ (by omega)]at L;rw[QJ (by simpa using hi)]at A;rw[Qz]at A;cases q:c4[i-dq.length]? with
  |none=>rw[Ox,q]at A;cases A
  |some j=>
   rw[Ox,q]at L A;have C:X.N.getD j Sw=x:=Pb L;have e2':R.getD j Om=on v:=Pb A;obtain⟨hj,t⟩:=U j (OT q);rw[C]at t;obtain⟨c,Q,hc'⟩:=freeC (Qh t);have hNj:X.N[j]?=on x:=by
    rw[<-C,Op,Os hj];rfl
   have hσj:R[j]?=on (on v):=by
    have hl:j<R.length:=by rw[I.len];exact hj
    rw[Op,Os hl]at e2';rw[Os hl];exact Py on e2'
   have hkx:=f _ (Qh t) rfl;obtain⟨m,hn,hl⟩:=I.loc;obtain⟨u,r,l⟩:=hl j x v hNj hσj (hkx.elim (λz=> .inr (.inl z)) λz=> .inr (.inr z));refine⟨u,r,.inr ⟨?_,c,hc',?_⟩⟩
   .rcases e3 with z|z|z
    .exfalso
     rcases j1 (Qh z)with y|⟨y,_⟩
     .rw[cK g y]at t;cases t
     .cases y
    .exact .inl z
    .exact .inr z
   .rcases l with⟨l,_⟩|⟨_,c',e,z⟩
    .exfalso
     rcases hkx with y|y
     .have y':X.env.kindOf x=on .cell:=y
      rw[l]at y';cases y'
     .have y':X.env.kindOf x=on .free:=y
      rw[l]at y';cases y'
    .rw[Q]at e
     cases e;exact z.keeps keep
 .rcases a h with z|⟨z,_⟩
  .exact⟨Om,(O _ _ z).1⟩
  .obtain⟨v,q⟩:=I.cell x c z
   exact⟨v,q.keeps keep⟩
 .rcases a h with z|⟨z,_⟩
  .exact I.hok.fresh (OS (Ul _) (O _ _ z).2)
  .exact I.freeC x c z
 .show _=Nc.length
  rw[T,OQ,OQ,Qz,Ol,Ol]
abbrev TB:=St->Hp->(St->Hp->Prop)->Prop
inductive YC where
 |L (e:Expr)|S (e:Expr)|D (k v:Expr)
instance:Coe Expr YC:=⟨.L⟩
noncomputable def p_(c:YC)(gens:List Qs)(scope:Scope)(pos:TK):Expr:=match c with
 | .L e=> .ListComp e gens scope pos
 | .S e=> .SetComp e gens scope pos
 | .D k v=> .DictComp k v gens scope pos
noncomputable def Zf(c:YC)(acc:Oy)(env:VN):Sem Unit:=match c with
 | .L e=>do let _ <-VI (.builtin "list.append") [acc,<-P0 e env]
 | .S e=>do let v <-P0 e env;Sm e.pos;let _ <-VI (.builtin "set.add") [acc,v]
 | .D k v=>do
   let kv <-P0 k env
   let vv <-SR [kv] (P0 v env)
   match acc with
   | .ref d=>do
    Sm {k.pos with endLine:=v.pos.endLine,endCol:=v.pos.endCol}
    SR [kv,vv] (dictSet d kv vv)
   |_=>unsupported "internal:dictcomp"
noncomputable def gx(c:YC)(gens:List Qs)(scope:Scope)(pos:TK)(d:Nat)(acc:Oy)(env:VN)(k:Sem Ur):Sem Ur:=
 match gens[d+1]? with
 |some g'=>do
  let x <-P0 g'.iter env
  Sm g'.iter.pos
  let x <-if g'.is_async !=0 then foldedIterable g'.iter x else PD g'.iter env x
  let _ <-runOwn (.compStart (p_ c gens scope pos) (d+1) (<-SR [x] (if g'.is_async !=0 then asyncIter x else UZ x)) acc env) env
  k
 |none=>do
  Zf c acc env
  k
theorem uI{a b:Expr}(e:gens[d]?=on ⟨a,b,ifs,0⟩):
  compTurn (p_ c gens scope pos) d it acc env=(do
   Sm b.pos
   match <-Sd it with
   |none=>QU (.done .next)
   |some v=>
    T4 a it v
    T1 a env v
    let mut ok:=Oq
    for y in ifs do
     if ok then ok <-isTrue y env (P0 y env)
    if ok then gx c gens scope pos d acc env (VC (.compLoop (p_ c gens scope pos) d it acc env))
    else VC (.compLoop (p_ c gens scope pos) d it acc env)):=by
 cases c<;>(
  unfold compTurn gx p_ Zf
  dsimp only
  rw[e]
  dsimp only
  cases gens[d+1]?<;>rfl)
variable{prog:Pf}{A:PV}{R:Result->OD->Prop}{s:OD}
theorem CQ(F:gens[d]?=on ⟨b_,iter,ifs,0⟩)(I:Nat->OD->Prop)
  (q:∀n s,I n s->OK (O7 prog w) A (Sd it) (λr a=>match r with
   |none=>R (.ok .next) a
   |some v=>OK (O7 prog w) A (T4 b_ it v) (λ_ b=>OK (O7 prog w) A (T1 b_ env v) (λ_ j=>
    OK (O7 prog w) A (forIn ifs Oq λy r=>if r=Oq then do let ok <-isTrue y env (P0 y env);QU (Uj ok)else QU (Uj r)) (λok g=>
     if ok=Oq then ∀(k:Sem Ur) (B:Ur->OD->Prop) (C:Oy->OD->Prop),(∀i m,m<n->I m i->OK (O7 prog w) A k B C i)->OK (O7 prog w) A (gx c gens scope pos d acc env k) B C g
     else ∃m,m<n/\I m g) (λ_ _=>False) j) (λ_ _=>False) b) (λ_ _=>False) a) (λ_ _=>False) s)
  (n:Nat) (h:I n s):
  SQ (O7 prog w) A (.compLoop (p_ c gens scope pos) d it acc env) R s:=by
 refine codeAny_loop rfl I (λn s hI=>?_) n h
 suffices z:OK (O7 prog w) A ((compTurn (p_ c gens scope pos) d it acc env).onRaise (λx=>do noteFrame x env;theTreesLotGoes x)) (λu s'=>match u with
   |Fin.done f=>R (Q3 f) s'
   |Fin.again c'=>c'=Code.compLoop (p_ c gens scope pos) d it acc env/\∃m,m<n/\I m s') (λe s'=>R (Except.error e) s') s by cases c<;>exact z
 refine wpAny_noted ?_;rw[uI F];refine My (Q5 (My (PP (q n s hI) (λr a l=>?_) λ_ _ h'=>h'.elim)));cases r with
 |none=>exact On l
 |some v=>
  refine My (PP l (λ_ b p=>?_) λ_ _ h'=>h'.elim);refine My (PP p (λ_ j t=>My (PP t (λok g o=>?_) λ_ _ h'=>h'.elim)) λ_ _ h'=>h'.elim);cases ok with
  |false=>exact On ⟨rfl,o⟩
  |true=>exact o _ _ _ λi m hm hI=>On ⟨rfl,m,hm,hI⟩
theorem yg(j:gens[d]?=on ⟨b_,iter,ifs,0⟩)
  (i:SQ (O7 prog w) A (.compLoop (p_ c gens scope pos) d it acc env) R s)
  (h:OK (O7 prog w) A (UZ it) (λa s'=>SQ (O7 prog w) A (.compLoop (p_ c gens scope pos) d a acc env) R s') (λ_ _=>False) s):
  SQ (O7 prog w) A (.compStart (p_ c gens scope pos) d it acc env) R s:=by
 refine codeAny_of_tree ?_
 suffices z:OK (O7 prog w) A ((compStart (p_ c gens scope pos) d it acc env).onRaise (λx=>do noteFrame x env;Sm theWindowsPlace)) (λg s'=>match g with
   |Fin.done f=>R (Q3 f) s'
   |Fin.again c'=>c'.quiet=Oq/\SQ (O7 prog w) A c' R s') (λe s'=>R (Except.error e) s') s by cases c<;>exact z
 refine wpAny_notedAt ?_;unfold compStart;have b:(clausesOf (p_ c gens scope pos))[d]?=on ⟨b_,iter,ifs,0⟩:=by cases c<;>exact j
 generalize (clausesOf (p_ c gens scope pos))[d]?=og at b⊢;subst b;show OK _ _ (ask>>=_) _ _ s;refine My (Tx (wpAny_ite ?_));split
 .first
   |exact My (On (On (WH rfl i)))
   |exact On (WH rfl i)
 .first
   |exact My (R5 (My (Q5 (My (PP h (λa s' h'=>On (WH rfl h')) λ_ _ x=>x.elim)))))
   |(refine My (R5 ?_);show OK _ _ (Sm iter.pos>>=_) _ _ s;exact My (Q5 (My (PP h (λa s' h'=>On (WH rfl h')) λ_ _ x=>x.elim))))
def dy(X:Cx)(b:List Expr)(t:TT):Prop:=
 ∀(a:List (Ou×Pa)) (s:OD) (d:St) (H:Hp) (Q:Bool->Hp->Prop),dc X a d H s->t d H Q->
  OK (O7 X.prog X.w) X.A (forIn b Oq λc r=>if r=Oq then do let ok <-isTrue c X.env (P0 c X.env);QU (Uj ok)else QU (Uj r)) (TP X a d Q) X.xe s
noncomputable def Kl:TT:=λ_ H Q=>Q Oq H
theorem tM{X:Cx}:dy X [] Kl:=λ_ _ _ H _ I h=>On ⟨H,I,h⟩
theorem BR{X:Cx}(d:PT X c t):dy X [c] t:=λa s e H Q I h=>by
 simp only[RV,R9,PN];exact My (My (PP (d a s e H Q I h) (λb s' f=>On (On f)) λ_ _ x=>x))
def PB(X:Cx)(c:YC)(gens:List Qs)(scope:Scope)(pos:TK)(d:Nat)(D:Ou)(t:TB):Prop:=
 ∀(a:List (Ou×Pa)) (s:OD) (e:St) (H:Hp) (Q:St->Hp->Prop),dc X a e H s->t e H Q->
  ∀(k:Sem Ur) (f:Ur->OD->Prop) (g:Oy->OD->Prop),(∀s' b h,dc X a b h s'->Q b h->OK (O7 X.prog X.w) X.A k f g s')->OK (O7 X.prog X.w) X.A (gx c gens scope pos d (.ref D) X.env k) f g s
def cN(J:It)(g:TG)(tt:TT)(j:TB):TB:=λc H Q=>∃W:Nat->Nat->St->Hp->Prop,(∃m,W 0 m c H)/\∀i m c H,W i m c H->
 (J.stop i H/\Q c H)\/(J.go i H/\∃N:St->Hp->Prop,(∀d e,N d e->∃f,f<m/\W (i+1) f d e)/\∀x e,J.yld i H x e->g x c e λa k=>tt a k λb h=>if b=Oq then j a h N else N a h)
def xK(D:Ou)(c:TE):TB:=λa H Q=>c a H λv b=>∃xs,b D=on (.lst xs)/\xs.length<OV/\Q a (upd b D (.lst (xs++[v])))
def xJ(b:TI)(c:It->TB):TB:=λa H Q=>b a H λJ d=>c J a d Q
variable{c:YC}{elt b_ iter:Expr}{ifs:List Expr}{gens:List Qs}{scope:Scope}{pos:TK}{d:Nat}{D:Ou}
theorem re(hg:gens[d]?=on ⟨b_,iter,ifs,0⟩)(hc:X.calm=Oq)(F:X.xe=λ_ _=>False)(hgt:PG X b_ g)(hts:dy X ifs tt)(j:PB X c gens scope pos d D tb)
  {s:OD}
  (I:dc X a_ σ H s) (T:nw X.prog X.w X.K b_ J fp it tn) (st:tn 0 s.heap) (hf:∀b∈fp,eL X a_ H b) (h:cN J g tt tb σ H Q):
  SQ (O7 X.prog X.w) X.A (.compStart (p_ c gens scope pos) d (.ref it) (.ref D) X.env) (λr s'=>r= .ok .next/\∃a f,dc X a_ a f s'/\Q a f) s:=by
 obtain⟨W,⟨m0,w0⟩,L⟩:=h;have l:∀{f:Hp},(∀b∈fp,f b=Om)->∀b∈fp,eL X a_ f b:=λhn b j=>⟨hn b j,(hf b j).2⟩;have t:SQ (O7 X.prog X.w) X.A (.compLoop (p_ c gens scope pos) d (.ref it) (.ref D) X.env) (λr s'=>r= .ok .next/\∃a f,dc X a_ a f s'/\Q a f) s:=by
  refine CQ hg (λn s'=>∃i a f,dc X a_ a f s'/\tn i s'.heap/\(∀b∈fp,f b=Om)/\W i n a f) ?_ m0 ⟨0,σ,H,I,st,λb j=>(hf b j).1,w0⟩;rintro n s3 ⟨i,p,Z,I3,O,U,w3⟩;rcases L i n p Z w3 with⟨stop,qn⟩|⟨go,N,hN,step⟩
  .refine eo (T.done X rfl rfl rfl hc i a_ s3 p Z _ I3 (l U) O stop) λr s4 ⟨hr,I4⟩=>?_
   subst hr;exact⟨rfl,p,Z,I4,qn⟩
  .refine eo (T.item X rfl rfl rfl hc i a_ s3 p Z _ I3 (l U) O go) λr s4 ⟨u,hr,h4⟩=>?_
   subst hr;refine eo h4 λ_ s5 ⟨x,H5,I5,r5,y5,v,fr5⟩=>?_;have I5':=I5.pinned (l fr5) (T.obj _ _ v);have VC:∀{q:St} {y:Hp} {B:OD},dc X (a_++k4 fp s5.heap) q y B->N q y->∃m,m<n/\∃i a f,dc X a_ a f B/\tn i B.heap/\(∀b∈fp,f b=Om)/\W i m a f:=λ{q y B} C n7=>by
    obtain⟨m',hm,w7⟩:=hN q y n7;refine⟨m',hm,i+1,q,y,C.unpinned,T.keep _ _ _ v λb j o e=>(C.pin (b,o) (Pt _ (Pt _ (gQ j e)))).1,λb j=>?_,w7⟩;obtain⟨o,e,d⟩:=T.obj _ _ v b j;exact(C.pin (b,o) (Pt _ (Pt _ (gQ j e)))).2.1
   have h6:=hgt _ s5 p H5 x u _ I5' r5 (step x H5 y5);rw[F]at h6;refine eo h6 λ_ s6 ⟨Y,H6,I6,q6⟩=>?_;have h7:=hts _ s6 Y H6 _ I6 q6;rw[F]at h7;refine eo h7 λb B ⟨y,C,q7⟩=>?_;cases b with
   |true=>
    rw[OE rfl]at q7⊢;intro k Q' E' hk;refine j _ B Y y N C q7 k Q' E' λs8 σ8 H8 I8 n8=>?_;obtain⟨m,hm,z⟩:=VC I8 n8;exact hk s8 m hm z
   |false=>
    rw[OC OH]at q7⊢;exact VC C q7
 exact yg hg t (T.self X.A 0 s _ _ st t)
theorem aD(m:gens[d+1]?=Om)(o:PE X elt te)(b:X.xe=λ_ _=>False):PB X elt gens scope pos d D (xK D te):=by
 intro a s g H Q I h k y B p;unfold gx;rw[m];show OK _ _ ((do let _ <-VI (.builtin "list.append") [.ref D,<-P0 elt X.env])>>=λ_=>k) _ _ _
 have i:=o a s g H _ I h;rw[b]at i;refine My (My (PP i (λu C ⟨v,J,j,r,xs,l,L,q⟩=>?_) λ_ _ f=>f.elim));obtain⟨z,its,n,t,N,e⟩:=j.lstM l;refine My (W5 F.slot_list_append ⟨_,e,rfl⟩ F.entry_list_append (Yb _ _) (X2 D its.toArray n u (by rw[OU];omega)) ⟨e,?_⟩);refine On (p _ g _ (j.lset (its':=its++[u]) l e (by simp) (t.append (.cons r .nil)) ?_) q);rw[OQ,PL];omega
theorem qh(o:gens[d+1]?=on ⟨target',iter',ifs',0⟩)(p:X.calm=Oq)(a:X.xe=λ_ _=>False)(t:PI X target' iter' wi)
  (j:PG X target' g) (l:dy X ifs' tt) (u:PB X c gens scope pos (d+1) D tb) (hs:∀x,PD iter' X.env x=QU x:=by intro _;rfl):PB X c gens scope pos d D (xJ wi λJ=>cN J g tt tb):=by
 intro b s y H Q I h k Y Z B;unfold gx;rw[o];have i:=t b s y H _ I h;rw[a]at i;refine My (PP i (λv s1 i=>My (Q5 ?_)) λ_ _ f=>f.elim);show OK _ _ (PD iter' X.env v>>=_) _ _ _;refine My (R0 (hs v) ?_);show OK _ _ (SR [v] (UZ v)>>=_) _ _ _;refine My (P4 (PP i (λC s2 F=>?_) λ_ _ f=>f.elim));obtain⟨it,fp,tn,J,H2,e,L,T,m,f2,q⟩:=F;subst e;refine My (wpAny_runOwn (Ug (re o p a j l u L T m f2 q) λr s' ⟨N,z⟩=>?_));subst N;obtain⟨n,O,U,W⟩:=z;exact B s' n O U W
noncomputable def jA(dq:List Pn)(c4:List Nat)(a:St):St:=O0 dq.length Om++c4.map (λj=>a.getD j Om)
def Zp(X:Cx)(mk:Sem Oy)(g:Ou->HO):Prop:=∀(a:List (Ou×Pa)) (s:OD) (f:St) (H:Hp) (E:Oy->OD->Prop) (Q:Oy->OD->Prop),dc X a f H s->
 (∀e:OD,dc X a f (upd H s.heap.objs.size (g s.heap.objs.size)) e->(∀b o,s.heap.get? b=on o->e.heap.get? b=on o)->Q (.ref s.heap.objs.size) e)->OK (O7 X.prog X.w) X.A mk Q E s
theorem tZ{X:Cx}:Zp X (newList []) λ_=> .lst []:=λa s f H E Q I h=>Pk (h _ (I.lnew (t':=s.toks) .nil (PX _)) λb o e=>Oo _ e)
def oC(dq:List Pn)(c4:List Nat)(e:TI)(f:Ou->It->TB):TE:=λa H Q=>e a H λJ b=>∀D,b D=Om->f D J (jA dq c4 a) (upd b D (.lst [])) λ_ g=>Q (.ref D) g
structure dr (X:Cx) (scope:Scope) (Nc dq:List Pn) (c4:List Nat):Prop where
 kind:scope.kind= .function
 nd:(scope.names.map (·.1)).Nodup
 free:∀y∈scope.names,y.2= .free->X.env.kindOf y.1=on .cell\/X.env.kindOf y.1=on .free
 names:Nc=dq++c4.map (λj=>X.N.getD j Sw)
 cap:∀j∈c4,j<X.N.length/\scope.names.lookup (X.N.getD j Sw)=on .free
variable{rest:List Qs}{Nc dq:List Pn}{c4:List Nat}{g:TG}{tt:TT}{tb:Ou->TB}{wi:TI}
def M3(X:Cx)(a:List (Ou×Pa))(H:Hp)(C:Ou):Prop:=H C=Om/\C≠X.env.locals/\X.s₀.heap.objs.size<=C/\(∀x c,X.env.cells.lookup x=on c->c≠C)/\∀p∈X.pn++a,p.1≠C
theorem gu{c:YC}{mk:Sem Oy}{B:Ou->HO}(O:Zp X mk B){f:List (Ou×Pa)}{F:St}{H:Hp}{s:OD}{it:Ou}{h:List Ou}{Q:Nat->P5->Prop}{J:It}{E:Oy->OD->Prop}{QQ:Ou->Hp->Prop}{RR:Oy->Ou->Result->OD->Prop}
  (hc:X.calm=Oq) (S:dr X scope Nc dq c4)
  (L:∀(cl:List (Pn×Ou)) (C:Ou) (h:List Ou) (s:OD) (H:Hp),PG (az X Nc scope cl C h s H) b_ g/\dy (az X Nc scope cl C h s H) ifs tt/\∀D,PB (az X Nc scope cl C h s H) c (⟨b_,iter,ifs,0⟩::rest) scope pos 0 D (tb D))
  (I:dc X f F H s) (T:nw X.prog X.w X.K b_ J h it Q) (st:Q 0 s.heap) (U:∀b∈h,eL X f H b)
  (q:∀D,H D=Om->cN J g tt (tb D) (jA dq c4 F) (upd H D (B D)) λ_ k=>QQ D k)
  (W:∀(D C:Ou) (s':OD) (k:Hp) (m:Pn->Option Oy),dc X f F k s'->s'.heap.Ns C m->M3 X f k C->QQ D k->RR (.ref D) C (.ok .next) s'):
  OK (O7 X.prog X.w) X.A mk (λacc t=>OK (O7 X.prog X.w) X.A (Xb scope X.env.globals (cQ X.env.cells scope.names []) [] X.env.qual Om .none (on X.env)) (λj u=>
   SQ (O7 X.prog X.w) X.A (.compStart (p_ c (⟨b_,iter,ifs,0⟩::rest) scope pos) 0 (.ref it) acc {j with scope:=relabel scope X.env}) (RR acc j.locals) u) E t) E s:=by
 refine O f s F H _ _ I λi l y=>?_;have hD:H s.heap.objs.size=Om:=I.fresh;have q3:=q s.heap.objs.size hD;have Y:∀b∈h,∃o,i.heap.get? b=on o:=λb L=>let ⟨o,e,_⟩:=T.obj _ _ st b L;⟨o,y b o e⟩
 have Z:∀b∈h,eL X f (upd H s.heap.objs.size (B s.heap.objs.size)) b:=λb a=>⟨by
  rw[bt]
  .exact(U b a).1
  .obtain⟨o,e,_⟩:=T.obj _ _ st b a
   exact Ps (O1 e),(U b a).2⟩
 generalize hH3:upd H s.heap.objs.size (B s.heap.objs.size)=H3 at l q3 Z;generalize s.heap.objs.size=D at hD hH3 q3⊢;refine DR λh' ns keep ce ca=>?_;have N:=DF l S.kind S.nd S.free S.names S.cap Z Y ns keep ce ca;obtain⟨b1,b2,b3⟩:=L (Qy (i.heap.objs.size+1) scope.names (cQ X.env.cells scope.names [])) i.heap.objs.size h i H3;have st4:Q 0 h':=T.keep _ _ _ st λb L o e=>keep b o (y b o e);have f4:∀b∈h,eL (az X Nc scope (Qy (i.heap.objs.size+1) scope.names (cQ X.env.cells scope.names [])) i.heap.objs.size h i H3) [] H3 b:=λb a=>
  ⟨(Z b a).1,(N.ok.exf b a).1,N.ok.exfs b a,.inl a,(N.ok.exf b a).2,λp hp=>O4 hp (by simp)⟩
 refine Ug (re (X:=az X Nc scope (Qy (i.heap.objs.size+1) scope.names (cQ X.env.cells scope.names [])) i.heap.objs.size h i H3) (gens:=⟨b_,iter,ifs,0⟩::rest) (d:=0) rfl hc rfl b1 b2 (b3 D) N T st4 f4 q3) λr s' ⟨hr,σ',k,n,q'⟩=>?_;subst hr;obtain⟨m,hm,_⟩:=n.loc;have C1:X.env.locals<i.heap.objs.size:=l.lt;refine W D _ s' k m (l.call' (ch:=h) n.os n.base n.hok n.bare λb a=>?_) hm ⟨n.free,Rf C1,l.sz,λx c e z=>?_,λp hp z=>?_⟩ q'
 .obtain⟨_,h2,h3,h4,h5,h6⟩:=U b a
  exact⟨h4,h2,h5,h6⟩
 .obtain⟨v,e'⟩:=l.cell x c e
  exact O4 (z▸e'.lt) (PH _)
 .have:=O1 (l.pin p hp).1
  rw[z]at this;exact O4 this (PH _)
theorem dc.letgo{s:OD}(I:dc X a_ σ H s)(o:M3 X a_ H C)(hs:Pd C s.heap h'):dc X a_ σ H {s with heap:=h'}:=
 I.turned (t':=s.toks) (λb f a e=>(hs.2 b a).trans e) o.1 (Ne.symm (Ne.symm o.2.1)) (.inr o.2.2.1) o.2.2.2.1 o.2.2.2.2
theorem dr.clo(S:dr X scope Nc dq c4)(ok:X.Ok):closureFor scope X.env=QU (cQ X.env.cells scope.names []):=xF λy a b=>ok.has y.1 (S.free y a b)
theorem dr.loc(S:dr X scope Nc dq c4):∀x∈scope.names,x.2= .local->scope.names.lookup x.1=on .local:=λx a b=>cK S.nd (by rw[<-b];exact a)
theorem mr(j:X.calm=Oq)(S:dr X scope Nc dq c4)(k:PI X b_ iter wi)
  (l:∀(cl:List (Pn×Ou)) (C:Ou) (b:List Ou) (s:OD) (H:Hp),PG (az X Nc scope cl C b s H) b_ g/\dy (az X Nc scope cl C b s H) ifs tt/\∀D,PB (az X Nc scope cl C b s H) elt (⟨b_,iter,ifs,0⟩::rest) scope pos 0 D (tb D))
  (hs:∀x,PD iter X.env x=QU x:=by intro _;rfl):PE X (.ListComp elt (⟨b_,iter,ifs,0⟩::rest) scope pos) (oC dq c4 wi λD J=>cN J g tt (tb D)):=by
 intro a s n H Q I h;rw[eval_ListComp];refine RE (use:=Om) rfl hs (S.clo I.ok) S.kind S.loc (PP (k a s n H _ I h) (λv N o=>PP o (λp O r=>?_) λ_ _ x=>x) λ_ _ x=>x);obtain⟨it,b,U,J,W,e,t,T,f,f2,q⟩:=r;subst e;refine gu (c:= .L elt) tZ (RR:=λacc C=>W7 (O7 X.prog X.w) X.A X.xe Om _ acc C) j S l t T f f2 q λD C s' u m y ns B F=>?_;exact⟨m,ns,λh' i=>⟨.ref D,u,y.letgo B i,rfl,F⟩⟩
theorem vo{b f:TK}(y:X.N.Nodup)(l:X.N[i]?=on x)(B:zv X.env.scope x)(F:X.calm=Oq)(S:dr X scope Nc dq c4)(O:PI X b_ iter wi)
  (U:∀(cl:List (Pn×Ou)) (C:Ou) (k:List Ou) (s:OD) (H:Hp),PG (az X Nc scope cl C k s H) b_ g/\dy (az X Nc scope cl C k s H) ifs tt/\∀D,PB (az X Nc scope cl C k s H) elt (⟨b_,iter,ifs,0⟩::rest) scope pos 0 D (tb D))
  (n:Tv (.ListComp elt (⟨b_,iter,ifs,0⟩::rest) scope pos) (on (.Name x b)) f.line X.env=QU Oq:=by rfl)
  (hs:∀x,PD iter X.env x=QU x:=by intro _;rfl) (W:X.fn x=Oq\/X.env.scope.names.lookup x=on .local:=by first|exact .inl rfl|exact .inr rfl|assumption):
  PS X (.Assign [.Name x b] (.ListComp elt (⟨b_,iter,ifs,0⟩::rest) scope pos) f) (fj (oC dq c4 wi λD J=>cN J g tt (tb D)) (dE i)):=by
 intro j s Y H D I h;rw[exec_Assign_Name_used _ _ _ _ n];refine My (Q5 (My ?_));show OK _ X.A (do let _ <-comprehension (.ListComp elt (⟨b_,iter,ifs,0⟩::rest) scope pos) scope X.env _ (newList []) Ov (P0 iter X.env) (on (T1 (.Name x b) X.env))) _ _ s
 refine My (PP (RE (use:=on (T1 (.Name x b) X.env)) (Q:=λ_ s'=>SP X j D .next s') rfl hs (S.clo I.ok) S.kind S.loc
  (PP (O j s Y H _ I h) (λv s1 Z=>PP Z (λitv s2 h2=>?_) λ_ _ e=>e) λ_ _ e=>e)) (λ_ s' hq=>On (On hq)) λ_ _ e=>e)
 obtain⟨it,k,tn,J,H2,e,o,T,p,f2,q⟩:=h2;subst e;refine gu (c:= .L elt) tZ (RR:=λacc C=>W7 (O7 X.prog X.w) X.A X.xe (on (T1 (.Name x b) X.env)) _ acc C) F S U o T p f2 q λA C s' H' m I' ns r q'=>?_;show OK _ X.A (T1 (.Name x b) X.env (.ref A)) _ _ s';refine V5 (kJ I' y l B (v:= .ref A) rfl (λs2 o ⟨a,sb,ha⟩=>?_) W);have t:C≠a:=by
  rcases ha with rfl|ha
  .exact r.2.1
  .exact λz=>r.2.2.2.1 x a ha z.symm
 exact⟨m,ns.sameBut sb t,λh' u=>⟨_,H',o.letgo r u,q'⟩⟩
end
end L2
namespace L2
open PySem PySem.Spec
open Sem (wp)
open Builtin Builtin.ObjectAttr
structure Yz (h:P5) (C:Ou) (bm:List Oy):Prop where
 at_:∃(nm q:Pn) (N:Ou) (bs:List Oy) (hdct:Bool) (sn:List Pn) (sub:List Oy) (ab:Bool) (col:Option Bool) (dd:Option Ou) (k0 k1 k2 k3 k5:Option Oy),
  h.get? C=on (excClassObj nm q C N bs bm hdct sn sub ab col dd k0 k1 k2 k3 k5 "ValueError.__new__")
 val:bm.contains (.type "ValueError")=Oq
 bas:bm.contains (.type "BaseException")=Oq
 att:bm.contains (.type "AttributeError")=Ov
 nam:bm.contains (.type "NameError")=Ov
section
variable{prog:Pf}{w:Po}{A:PV}{E:Oy->OD->Prop}{h:P5}{g:Array GenState}{d:Drawn}{t:Nat}{os:UW}{C:Ou}{bm rest:List Oy}
noncomputable def v5:List Oy->Bool
 |[.type a,.type b,.type c,.type d]=>a=="ValueError"&&b=="Exception"&&c=="BaseException"&&d=="object"
 | .ref _::r=>v5 r
 |_=>Ov
variable{s:OD}{e:Ou}{K:OX}{cd:ClassData}{name:Pn}{v:Oy}
end
end L2
namespace L2
open PySem PySem.Spec PyProof.Rows
theorem bF.there{h:P5}(x:bF P w H h a o):∃b,h.get? a=on b:=by
 cases o with
 |lst xs=>obtain⟨_,_,_,_,e⟩:=x;exact⟨_,e⟩
 |tup xs=>obtain⟨_,_,_,_,e,_⟩:=x;exact⟨_,e⟩
 |ins C dx fs=>obtain⟨_,_,_,e,_⟩:=x;exact⟨_,e⟩
 |own y=>exact x
 |xd fs=>obtain⟨_,⟨_,_,_,e,_⟩,_⟩:=x;exact⟨_,e⟩
 |rng lo hi=>obtain⟨_,_,_,e⟩:=x;exact⟨_,e⟩
 |frz b u=>obtain⟨e,_⟩:=x;exact⟨_,e⟩
 |tbl ps=>exact⟨_,(show h.get? a=on _ from x)⟩
 |met f y=>exact⟨_,(show h.get? a=on _ from x)⟩
 |ext φ=>obtain⟨_,e,_⟩:=x;exact e
structure P_ (P:Pf) (w:Po) (outer:List VN) (H:Hp) (s:OD) (E:XK) (x C:Ou) (H':Hp) (s':OD):Prop where
 os:s'.os=s.os
 bare:T8 s'.gens
 un:Un (hO outer) [] H H' s.heap s'.heap
 hok:lp P w H' s'.heap
 tr:∃(oe:Pa) (vs:Array Oy) (T:Ou) (oT:Pa) (ts:Array Oy) (a0:Oy),s'.heap.get? x=on oe/\(oe.cls= .ref C/\vs[0]?=on a0)/\oe.data= .fields vs/\vs[1]?=on (.ref T)/\T≠x/\s'.heap.get? T=on oT/\oT.data= .fields ts/\ts[3]?=on .none/\H' T=Om/\s.heap.get? T=Om
 xn:H' x=Om
 xs:s.heap.get? x=Om
 wish:E (.ref C) Om H'
def hE(P:Pf)(w:Po):J_:=λouter H s E e s'=>∃x C a,e= .ref x/\P_ P w outer H s E x C a s'
theorem zw{X:Cx}{s s':OD}{E:XK}(I:dc X a_ σ H s)(g:X.stack=X.env::X.outer)(i:X.env.frame=on X.env.locals)(R:X.ex=[])
  (os:s'.os=X.s₀.os) (bare:T8 s'.gens) (d:Un (hO X.stack) [] X.H₀ H' X.s₀.heap s'.heap) (hok:lp X.prog X.w H' s'.heap) (y:∀b∈hO X.stack,H' b=Om)
  (c:∀b∈ext,X.s₀.heap.get? b=Om/\H' b=Om) (O:x∈ext) (wish:E (.ref C) Om H')
  (L:Heap.LeftW (Yo s'.heap (ext++hO X.stack)) (X.env::X.outer) x (.ref C) a0 s'.heap h'):P_ X.prog X.w X.outer X.H₀ X.s₀ E x C H' {s' with heap:=h'}:=by
 obtain⟨U,L2,W,Y⟩:=L;have j:∀b∈hO X.outer,b∈hO X.stack:=λb hb=>by
  rw[g];unfold hO;rw[Qu,i];exact Ot _ hb
 have h:∀b∈hO X.stack,b=X.env.locals\/b∈hO X.outer:=λb hb=>by
  rw[g]at hb;unfold hO at hb;rw[Qu,i]at hb;exact ON.mp hb
 have A:∀b o,X.s₀.heap.get? b=on o->b≠X.env.locals:=λb o e=>Ps (O3 (O1 e) I.ok.above);have stay:∀b o,s'.heap.get? b=on o->b∉ext->b∉hO X.stack->h'.get? b=on o:=λb o e B Z=>
  U b o (hideAll_get _ e λhm=>(Qd.mp hm).elim B Z)
 have k:∀b o,X.s₀.heap.get? b=on o->b∉ext:=λb o e hb=>by rw[(c b hb).1]at e;cases e
 have f:∀b∈hO X.stack,∃o,h'.get? b=on o/\∀vs,o.data≠ .fields vs:=λb hb=>(L2.mem (by rw[<-g];exact hb)).2;obtain⟨oe,vs,T,oT,P,he,hc,hd,B,l,F,Q,m,h3⟩:=W;have p:H' T=Om/\X.s₀.heap.get? T=Om:=by
  by_cases hm:T∈ext++hO X.stack
  .rcases Qd.mp hm with hm|hm
   .exact⟨(c T hm).2,(c T hm).1⟩
   .obtain⟨o,e,nf⟩:=f T hm
    rw[Q]at e;cases e;exact O4 m (nf P)
  .have hs:s'.heap.get? T=Om:=by
    cases q:s'.heap.get? T with
    |none=>rfl
    |some o=>rw[hideAll_get _ q hm]at l;cases l
   constructor
   .cases q:H' T with
    |none=>rfl
    |some o=>obtain⟨ob,e⟩:=(hok T o q).there;rw[hs]at e;cases e
   .cases q:X.s₀.heap.get? T with
    |none=>rfl
    |some o=>obtain⟨ob,e⟩:=d.there T o q (by simp);rw[hs]at e;cases e
 refine⟨os,bare,⟨λb o e n hb _=>?_,λb o e n hb _=>?_,λb o e n hb=>d.free b o e n hb,λb o e _=>?_,d.tups,d.frzs,d.tbls⟩,λa o e=>?_,⟨oe,vs,T,oT,P,a0,he,hc,hd,B,F,Q,m,h3,p.1,p.2⟩,(c x O).2,(c x O).1,wish⟩
 .have nf:b∉hO X.stack:=λz=>(h b z).elim (A b o e) hb
  exact stay b o (d.keep b o e n nf (by simp)) (k b o e) nf
 .obtain⟨sl,r⟩:=d.slot b o e n (j b hb) (by simp)
  obtain⟨_,J,v,nf⟩:=I.ok.funs.mem hb;rw[e]at v;cases v;obtain⟨N,e3⟩:=Y b _ r nf;exact⟨N,e3⟩
 .obtain⟨J,r⟩:=d.there b o e (by simp)
  by_cases hb:b∈hO X.stack
  .obtain⟨o2,v,_⟩:=f b hb
   exact⟨o2,v⟩
  .exact⟨J,stay b J r (k b o e) hb⟩
 .refine(hok a o e).stay (λb u hb r=>?_) (λ_ q=>q) λ_ _ q=>q
  have t:H' b≠Om:=by
   rcases hb with rfl|hb
   .rw[e];simp
   .rw[hb];simp
  exact stay b u r (λz=>t (c b z).2) λz=>t (y b z)
theorem zR{h base:P5}(d:h.FunFrames base l)(c:∀b∈hO l,b∈as):h.FunFrames (Yo h as) l:=
 PySem.W.funFrames_hide d λenv e a ha=>c a (by unfold hO;exact TU.mpr ⟨env,e,ha⟩)
theorem Jt{X:Cx}{E F:XK}(a:X.stack=X.env::X.outer)(d:X.env.frame=on X.env.locals)(f:X.ex=[])(R:∀cls J H,F cls J H->E cls J H)
  (I:dc X a_ σ H s) (h:hE X.prog X.w X.stack H s F e s'):
  OK (O7 X.prog X.w) X.A (leaving X.env e) (λ_ j=>hE X.prog X.w X.outer X.H₀ X.s₀ E e j) E1 s':=by
 obtain⟨x,C,N,rfl,os,bare,un,hok,⟨U,vs,T,W,Y,a0,Z,hc,hd,h1,k,hT,m,h3,n,p⟩,xn,xs,wish⟩:=h;have nofs:∀b∈X.fs,b∈hO X.stack:=λb hb=>by
  rw[a];unfold hO;rw[Qu,d];exact Ot _ hb
 have O:Un (hO X.stack) [] X.H₀ H X.s₀.heap s.heap:=by
  have b:=I.base;rw[f]at b;exact b.mono nofs λ_ z=>z
 have U0:=O.trans un;have g:∀b,s.heap.get? b=Om->X.s₀.heap.get? b=Om:=λb e=>by
  cases q:X.s₀.heap.get? b with
  |none=>rfl
  |some o=>obtain⟨o',P⟩:=O.there b o q (by simp);rw[e]at P;cases P
 have c:=I.stack;have i:s'.heap.FunFrames X.base X.stack:=by
  have all:∀(l:List VN),(∀b∈hO l,b∈hO X.stack)->s.heap.FunFrames X.base l->s'.heap.FunFrames X.base l:=by
   intro l
   induction l with
   |nil=>intro _ _;trivial
   |cons env r ih=>
    intro hs hl;obtain⟨hk,⟨L,o,t,hn,u,v⟩,hr⟩:=hl;have Q:L∈hO X.stack:=hs L (by unfold hO;rw[Qu,t];exact Oz);obtain⟨sl,e⟩:=un.slot L o u (I.stkFree L Q) Q (by simp);exact⟨hk,⟨L,_,t,hn,e,v⟩,ih (λb hb=>hs b (by unfold hO;rw[Qu,t];exact Ot _ hb)) hr⟩
  exact all X.stack (λ_ hb=>hb) c
 have y:∀b∈hO X.stack,N b=Om:=λb hb=>by
  obtain⟨_,o,u,_⟩:=c.mem hb;exact un.free b o u (I.stkFree b hb) (by simp)
 have B:∀b∈hO X.stack,b∈[x,T]++hO X.stack:=λb hb=>Pt _ hb;have hF:s'.heap.FunFrames (Yo s'.heap ([x,T]++hO X.stack)) (X.env::X.outer):=by
  have z:=zR i B;rw[a]at z⊢;exact z
 refine wpAny_leaving_nextW (base:=Yo s'.heap ([x,T]++hO X.stack)) (by rw[<-a];exact I.ok.frames) hF d ⟨U,vs,T,W,Y,Z,hc,hd,h1,Yp _ (by simp),k,hT,m,h3⟩ (λb o q=>W1 _ q) (Yp _ (by simp)) λh' L=>?_;refine⟨x,C,N,rfl,zw I a d f (os.trans I.os) bare U0 hok y (λb hb=>?_) (by simp) (R _ _ _ wish) L⟩;rcases ON.mp hb with rfl|hb
 .exact⟨g _ xs,xn⟩
 .obtain rfl:b=T:=by simpa using hb
  exact⟨g _ p,n⟩
section
variable{X:Cx}{a_:List (Ou×Pa)}{σ:St}{H H':Hp}{s s':OD}{E:XK}{x C:Ou}
structure XC (K:OX) (C:Ou):Prop where
 sh:∃bm,∀h:P5,K.In h->Yz h C bm
 sa:SX K (.ref C) "__setattr__"=on (on (.builtin "object.__setattr__"))
 cd:∃cd,PySem.W.clsIn K C=on cd/\cd.hasDict=Oq/\v5 cd.mro=Oq
structure XMk (K:OX) (C f:Ou):Prop where
 xc:XC K C
 init:SX K (.ref C) "__init__"=on (on (.ref f))
 fn:isFn K (.ref f)=Oq
 kp:Us K (.ref C)=Oq
end
section
variable{X:Cx}{CX:J_}{k:Nat}{f C:Ou}{fd:O8}{ps:List Pn}{sp:Sp}{dvs:List V}{ds:List Oy}{E:St->XK}{x m:Pn}{p pos apos:TK}{e o:Expr}{es:List Expr}{ta:TE}{t:TA}
structure YY (K:OX) (D:Ou) (m:Pn) (f:Ou):Prop where
 ga:specialIn K (.ref D) "__getattribute__"=on (on (.builtin "type.__getattribute__"))
 rd:PySem.W.readsIn K D (.type "type")=Oq
 fnd:PySem.W.findCls K (.ref D) (.type "type") m=on (.val (.ref f))
 kp:Us K (.ref f)=Oq
end
section
variable{P:Pf}{w:Po}{K:OX}{mg:Pn->Option Oy}{base:P5}{N:List Pn}{qual:Pn}{scope:Scope}{f:Ou}{cd:Oy}{A:PV}{outer:List VN}{s:OD}{H:Hp}{E:XK}
theorem f9:cM (hE P w) (eJ (hE P w) P w K mg base N qual scope f cd A outer s H E) (λ_=>E):=λa b c d e s' I h=>Jt (X:=eJ (hE P w) P w K mg base N qual scope f cd A outer s H E) rfl rfl rfl (λ_ _ _ z=>z) I h
theorem rN:cM (hE P w) X E0:=λ_ _ _ _ _ _ _ h=>by
 obtain⟨_,_,_,_,F⟩:=h;exact F.wish.elim
theorem bV:PassesOwn (O7 P w) (A.deeper (SW qual scope s.heap.objs.size f cd)) (SW qual scope s.heap.objs.size f cd) (eJ (hE P w) P w K mg base N qual scope f cd A outer s H E).xe:=PassesOwn.leaving
structure d4 (K:OX) (x qual:Pn) (st:Qg) (f:Ou) (fd:O8):Prop where
 ex:∃(oc:Oy) (od:Option Ou) (dV kV doc pm:Oy) (an:Option Ou) (cdv ct:Oy) (osl:Array (Option Oy)),
  fd=SL x qual (g9 st) (bZ st) (af st) dV kV doc pm an cdv ct/\K.lookup f=on ⟨oc,od,.func fd,osl⟩/\Ts K cdv qual=Oq
 kp:Us K (.ref f)=Oq
theorem JR{K:OX}{x qual:Pn}{st:Qg}{f:Ou}(l:K.lookup f=on ⟨oc,od,.func (SL x qual (g9 st) (bZ st) (af st) dV kV doc pm an cdv ct),osl⟩)
  (c:Ts K cdv qual=Oq) (k:Us K (.ref f)=Oq):d4 K x qual st f (SL x qual (g9 st) (bZ st) (af st) dV kV doc pm an cdv ct):=⟨⟨oc,od,dV,kV,doc,pm,an,cdv,ct,osl,rfl,l,c⟩,k⟩
theorem d4.okE{x qual:Pn}{st:Qg}{f:Ou}{N ps:List Pn}(F:d4 K x qual st f fd)(S:cp N ps (af st))(len:∀vs H Q E,sp vs H Q E->vs.length=ps.length)
  (b:∀(a:Oy) (A:PV) (outer:List VN) (s:OD) (H:Hp) (vs:List V) (Q:VK) (E:XK),eg k (A.deeper (SW qual (af st) s.heap.objs.size f a))->sp vs H Q E->
   ∃t,PSs (eJ (hE P w) P w K mg base N qual (af st) f a A outer s H E) (bZ st) t/\t {nx:=λ_ e=>Q .non e,rt:=Q} (eV N vs) H):e_ P w K mg base (hE P w) (k+1) f fd ps sp:=by
 obtain⟨l,m,n,o,g,p,q,a,ct,h,rfl,i,c⟩:=F.ex;exact Iw i c S len λA outer s H vs Q E j d=>b a A outer s H vs Q E j d
theorem d4.ok{x qual:Pn}{st:Qg}{f:Ou}{N ps:List Pn}(F:d4 K x qual st f fd)(S:cp N ps (af st))(len:∀vs H Q E,sp vs H Q E->vs.length=ps.length)
  (b:∀(a:Oy) (A:PV) (outer:List VN) (s:OD) (H:Hp) (vs:List V) (Q:VK) (E:XK),eg k (A.deeper (SW qual (af st) s.heap.objs.size f a))->sp vs H Q E->
   ∃t,PSs (eJ (hE P w) P w K mg base N qual (af st) f a A outer s H E).nox (bZ st) t/\t {nx:=λ_ e=>Q .non e,rt:=Q} (eV N vs) H):e_ P w K mg base (hE P w) (k+1) f fd ps sp:=by
 obtain⟨m,n,o,p,g,r,u,a,ct,i,rfl,j,c⟩:=F.ex;refine Iw j c S len λA outer s H vs Q E l d=>?_;obtain⟨t,h,q⟩:=b a A outer s H vs Q E l d;exact⟨t,h.nox,q⟩
abbrev TJ:=St->Hp->Nat->(Nat->Hp->Prop)->Prop
variable{X:Cx}{es:List Expr}{t:TJ}{pos:TK}
theorem rj(i:X.calm=Oq):cP X (.builtin "sum") (λxs H Q=>∃(a:Ou) (ns:List Int),xs=[.ref a]/\fx X.K H a (ns.map V.int)/\Q (.int ns.sum) H):=by
 intro b s o H xs us Q I r h;obtain⟨a,ns,rfl,j,q⟩:=h;cases r with
 |cons r1 k=>
  cases r1;cases k;obtain⟨its,l,p,u⟩:=I.list j;have c:=pE l;obtain⟨xs,ex⟩:=c.allInts.items;have d:=p.isList;rw[ex]at d;refine sum_intListG (I.ok.hd i) d λh' v t' m=>?_;have e:preSum (numAt xs) xs.size=ns.sum:=by
   have g:=c.numsOf;have n:its=(W9 xs).toList:=by rw[<-ex]
   rw[n,nums_intItems]at g;rw[preSum_eq,Rb (by simp),g]
  rw[e];exact⟨.int ns.sum,H,I.kept m,⟨_,rfl⟩,q⟩
def su(i j:Int):Prop:=0<j/\j.natAbs.log2<9000
theorem CA:gs X (Ru .FloorDiv) (rI su λi j=> .int (i/j)):=n_ λi j _ _ _ _ _ a q=>by
 have b:(0:Int)<j:=a.1;refine floordiv_int (by omega) ?_ (.inl (VZ a.2));rw[TY _ (by omega)];exact q
def YR(C:Int->Int->Prop)(f:Int->Int->Int):Zk:=λx y H Q=>∃i j,x= .int i/\y= .int j/\C i j/\Q (.int (f i j)) H
theorem JN:Zl X .FloorDiv (YR su λi j=>i/j):=by
 intro a s d H x y v u Q I r1 b h;obtain⟨i,j,rfl,rfl,c,q⟩:=h;obtain⟨t,rfl⟩:=r1;obtain⟨t',rfl⟩:=b;have e:(0:Int)<j:=c.1;refine ifloordiv_int (by omega) ?_ (.inl (VZ c.2));rw[TY _ (by omega)];exact⟨.int _,H,I.tok _,⟨_,rfl⟩,q⟩
theorem xY:∀{cs:List String} {us:List Oy},au (cs.map V.ty) us->us=cs.map Ry
 |[],_,r=>by cases r;rfl
 |c::cs,_,r=>by
  cases r with
  |cons r1 a=>
   cases r1;rw[xY a];rfl
theorem xG{K:OX}{xs:List V}{H:Hp}(Pv:Nat->St->Hp->Prop)(u:Pv 0 c H)(k:∀i c H,i<=xs.length->Pv i c H->fx K H a xs)
  (h:∀i x c H,xs[i]?=on x->Pv i c H->g x c H λd v=>tt d v λb r=>if b=Oq then tb d r (Pv (i+1))else Pv (i+1) d r) (l:∀c H,Pv xs.length c H->Q c H):cN (YX K a) g tt tb c H Q:=by
 refine⟨λi m c H=>i<=xs.length/\m+i=xs.length/\Pv i c H,⟨xs.length,PX _,by omega,u⟩,λi m c H ⟨n,hm,j⟩=>?_⟩;by_cases o:i<xs.length
 .refine .inr ⟨⟨xs,xs[i],k i c H n j,Os o⟩,Pv (i+1),λy p q=>⟨m-1,by omega,by omega,by omega,q⟩,λx p ⟨e,B⟩=>?_⟩
  subst e;exact h i x c p (B xs (k i c p n j)) j
 .obtain rfl:i=xs.length:=by omega
  exact .inl ⟨⟨xs,k _ c H n j,OG _⟩,l c H j⟩
theorem dr.plain{X:Cx}{scope:Scope}(k:scope.kind= .function)(nd:(scope.names.map (·.1)).Nodup)(f:∀y∈scope.names,y.2≠ .free):dr X scope dq dq []:=
 ⟨k,nd,λy a e=>O4 e (f y a),by simp,λj b=>O4 b (by simp)⟩
def sr(i j:Int):Prop:=i.natAbs<2^1000/\j.natAbs<2^1000
theorem iY{k:Int}(h:k.natAbs<2^1000):V6 k<=2^20:=by
 unfold V6;split
 .exact PX _
 .rename_i a
  have b:k.natAbs≠0:=by
   intro z;have:k=0:=Int.natAbs_eq_zero.mp z;subst this;simp at a
  have:=(Nat.log2_lt b).mpr h;have e:(2:Nat)^20=1048576:=by decide
  omega
theorem mx{X:Cx}:gs X (Ru .Mult) (rI sr λi j=> .int (i*j)):=n_ λ_ _ _ _ _ _ _ a q=>mul_int q (Xj (iY a.1) (iY a.2))
theorem bJ.upd{H:Hp}(h:H a=Om):bJ H (upd H a o):=λb u e=>by rw[bt (ay e h)];exact e
abbrev et:=Int×List Int
noncomputable def hI(k:List Int):Int:=reduceHash (Ta (k.map hashInt))
def hB:Bool->et->Int
 |true,k=>reduceHash (Ta [hashInt k.1,hI k.2])
 |false,k=>hI k.2
def xN(a:Ou)(b:Bool)(ep:Nat)(xs:List (et×Ou×V))(h:P5):Prop:=
 ∃o es,∃ys:List (et×Ou×Oy),h.get? a=on o/\o.ExactDict/\o.data= .dict es ep/\es.toList=ys.map (λy=>⟨hB b y.1,.ref y.2.1,y.2.2⟩)/\(ys.map (·.1)).Nodup/\(a==Tw)=Ov/\ys.length<=OV/\
  TZ (λ(x:et×Ou×V) (y:et×Ou×Oy)=>x.1=y.1/\x.2.1=y.2.1/\aI x.2.2 y.2.2) xs ys
noncomputable def cc(a:Ou)(b:Bool)(ep:Nat)(xs:List (et×Ou×V)):HO:= .ext (xN a b ep xs)
theorem qu{P:Pf}{w:Po}{b:Bool}{H:Hp}(S:xN a b ep xs h):bF P w H h a (cc a b ep xs):=by
 refine⟨S,?_,λc d z k=>?_⟩
 .obtain⟨o,_,_,e,_⟩:=S
  exact⟨o,e⟩
 .obtain⟨o,es,ys,e,r⟩:=z
  exact⟨o,es,ys,k _ e,r⟩
end
end L2
namespace L2.Pu
open PySem PySem.Spec PyProof.Rows
theorem lg{α d e:Sort _}{P Q R:α->d->e->Prop}{C:Prop}(h:∃a b c,P a b c/\Q a b c/\R a b c)(k:∀a b c,P a b c->Q a b c->R a b c->C):C:=by
 obtain⟨a,b,c,x,y,z⟩:=h;exact k a b c x y z
theorem oa{α c:Sort _}{P Q R:α->c->Prop}{C:Prop}(h:∃a b,P a b/\Q a b/\R a b)(k:∀a b,P a b->Q a b->R a b->C):C:=by
 obtain⟨a,b,x,y,z⟩:=h;exact k a b x y z
inductive D where
 |non|bl (b:Bool)|int (i:Int)|str (x:Pn)|ty (n:String)|txt
 |lst (xs:List D)|tup (xs:List D)|scr (xs:List Int)|obj (C:Ou) (ns:List Pn) (xs:List D)|bag|adr (a:Ou)|dct (b:Bool) (ks:List et) (vs:List D)
structure Bg where
 cells:List Int
 i:Int
 j:Int
structure Fx where
 A:Ou->Prop
 bg:Option (Ou×Ou)
def KL(K:OX)(a:Ou)(xs:List V):Prop:=
 ∃(o:Pa) (its:Array Oy) (n:Nat),K.lookup a=on o/\o.cls= .type "list"/\o.dict=Om/\o.data= .seq its n/\its.size<=OV/\au xs its.toList
def KT(K:OX)(a:Ou)(xs:List V):Prop:=
 ∃(o:Pa) (its:Array Oy) (n:Nat),K.lookup a=on o/\o.cls= .type "tuple"/\o.data= .seq its n/\its.size<=OV/\au xs its.toList
def TQ(K:OX)(F:Fx)(H:Hp)(c:Ou)(xs:List V):Prop:=(¬F.A c/\Rd H c (.tup xs))\/KT K c xs
def eK(K:OX)(F:Fx)(H:Hp):Bool->et->Ou->Prop
 |true,k,c=>∃e,TQ K F H c [.int k.1,.ref e]/\TQ K F H e (k.2.map V.int)
 |false,k,c=>k.1=0/\TQ K F H c (k.2.map V.int)
mutual
noncomputable def c_(K:OX)(F:Fx)(H:Hp):D->V->Prop
 | .non,v=>v= .non
 | .bl b,v=>v= .bl b
 | .int i,v=>v= .int i
 | .str x,v=>v= .str x
 | .ty n,v=>v= .ty n
 | .txt,v=>∃z,v= .str z
 | .lst ds,v=>∃a xs,v= .ref a/\(¬F.A a/\Rd H a (.lst xs))/\bb K F H ds xs
 | .scr ns,v=>∃a,v= .ref a/\((¬F.A a/\Rd H a (.lst (ns.map V.int)))\/KL K a (ns.map V.int))
 | .tup ds,v=>∃a xs,v= .ref a/\((¬F.A a/\Rd H a (.tup xs))\/KT K a xs)/\bb K F H ds xs
 | .obj C ns ds,v=>∃a c xs,v= .ref a/\¬F.A a/\H a=on (.ins C c (ns.zip xs))/\ns.length=xs.length/\bb K F H ds xs
 | .bag,v=>∃b l,F.bg=on (b,l)/\v= .ref b
 | .adr a,v=>v= .ref a
 | .dct b ks vs,v=>∃a ep xs,v= .ref a/\(¬F.A a/\H a=on (cc a b ep xs))/\ks=xs.map (·.1)/\(∀x∈xs,eK K F H b x.1 x.2.1)/\bb K F H vs (xs.map (·.2.2))
noncomputable def bb(K:OX)(F:Fx)(H:Hp):List D->List V->Prop
 |[],xs=>xs=[]
 |d::ds,xs=>∃x r,xs=x::r/\c_ K F H d x/\bb K F H ds r
end
structure Tr (F:Fx) (H:Hp) (F2:Fx) (H2:Hp):Prop where
 av:∀a,¬F.A a->H a≠Om->¬F2.A a
 kp:∀a o,¬F.A a->H a=on o->H2 a=on o
 bg:F2.bg=F.bg
theorem Tr.refl(F:Fx)(H:Hp):Tr F H F H:=⟨λ_ h _=>h,λ_ _ _ h=>h,rfl⟩
theorem Tr.trans(a:Tr F H F1 H1)(b:Tr F1 H1 F2 H2):Tr F H F2 H2:=
 ⟨λx c d=>b.av x (a.av x c d) (by
   cases q:H x with
   |none=>exact O4 q d
   |some o=>rw[a.kp x o c q];simp),
  λx o c d=>b.kp x o (a.av x c (by rw[d];simp)) (a.kp x o c d),b.bg.trans a.bg⟩
theorem Rd.tr{F b:Fx}(t:Tr F H b H2)(h:¬F.A a)(r:Rd H a u):¬b.A a/\Rd H2 a u:=by
 rcases r with r|⟨o,r⟩
 .exact⟨t.av a h (by rw[r];simp),.inl (t.kp a _ h r)⟩
 .exact⟨t.av a h (by rw[r];simp),.inr ⟨o,t.kp a _ h r⟩⟩
theorem TQ.tr{K:OX}(t:Tr F H F2 H2)(h:TQ K F H c xs):TQ K F2 H2 c xs:=h.imp (λh=>Rd.tr t h.1 h.2) id
theorem eK.tr{K:OX}{b:Bool}(t:Tr F H F2 H2)(h:eK K F H b k c):eK K F2 H2 b k c:=by
 cases b with
 |true=>
  obtain⟨e,a,d⟩:=h;exact⟨e,a.tr t,d.tr t⟩
 |false=>exact⟨h.1,h.2.tr t⟩
mutual
theorem c_.tr{K:OX}(t:Tr F H F2 H2):∀(d:D) (v:V),c_ K F H d v->c_ K F2 H2 d v
 | .non,v,h=>h
 | .bl b,v,h=>h
 | .int i,v,h=>h
 | .str x,v,h=>h
 | .ty n,v,h=>h
 | .txt,v,h=>h
 | .lst ds,v,h=>by
  unfold c_ at h⊢;obtain⟨a,xs,e,c,f⟩:=h;exact⟨a,xs,e,Rd.tr t c.1 c.2,bb.tr t ds xs f⟩
 | .scr ns,v,h=>by
  unfold c_ at h⊢;obtain⟨a,e,c⟩:=h;exact⟨a,e,c.imp (λ⟨p,q⟩=>Rd.tr t p q) id⟩
 | .tup ds,v,h=>by
  unfold c_ at h⊢;obtain⟨a,xs,e,c,f⟩:=h;exact⟨a,xs,e,c.imp (λ⟨p,q⟩=>Rd.tr t p q) id,bb.tr t ds xs f⟩
 | .obj C ns ds,v,h=>by
  unfold c_ at h⊢;obtain⟨a,k,xs,e,c,f,g,j⟩:=h;exact⟨a,k,xs,e,t.av a c (by rw[f];simp),t.kp a _ c f,g,bb.tr t ds xs j⟩
 | .bag,v,h=>by
  unfold c_ at h⊢;rw[t.bg];exact h
 | .adr a,v,h=>by
  unfold c_ at h⊢;exact h
 | .dct b ks vs,v,h=>by
  unfold c_ at h⊢;obtain⟨a,ep,xs,e,c,f,g,j⟩:=h;exact⟨a,ep,xs,e,⟨t.av a c.1 (by rw[c.2];simp),t.kp a _ c.1 c.2⟩,f,λx l=>(g x l).tr t,bb.tr t vs _ j⟩
theorem bb.tr{K:OX}(t:Tr F H F2 H2):∀(ds:List D) (xs:List V),bb K F H ds xs->bb K F2 H2 ds xs
 |[],xs,h=>h
 |d::ds,xs,h=>by
  unfold bb at h⊢;obtain⟨x,r,e,a,b⟩:=h;exact⟨x,r,e,c_.tr t d x a,bb.tr t ds r b⟩
end
section
variable{K:OX}{F:Fx}{H:Hp}
theorem bb.nil:bb K F H [] []:=rfl
theorem bb.cons(h:c_ K F H d x)(t:bb K F H ds xs):bb K F H (d::ds) (x::xs):=⟨x,xs,rfl,h,t⟩
theorem bb.length:∀{ds:List D} {xs:List V},bb K F H ds xs->ds.length=xs.length
 |[],xs,h=>by have e:xs=[]:=h;subst e;rfl
 |d::ds,xs,h=>by
  obtain⟨x,r,e,_,a⟩:=h;subst e;rw[OR,OR,bb.length a]
theorem bb.get:∀{ds:List D} {xs:List V} {i:Nat} {d:D},bb K F H ds xs->ds[i]?=on d->∃x,xs[i]?=on x/\c_ K F H d x
 |[],_,_,_,_,e=>by simp at e
 |c::ds,xs,0,d,h,e=>by
  obtain⟨x,r,q,a,b⟩:=h;subst q;simp at e;subst e;exact⟨x,rfl,a⟩
 |c::ds,xs,i+1,d,h,e=>by
  obtain⟨x,r,q,a,b⟩:=h;subst q;obtain⟨y,f,g⟩:=bb.get (i:=i) (d:=d) b (by simpa using e);exact⟨y,by simpa using f,g⟩
theorem bb.getV:∀{ds:List D} {xs:List V} {i:Nat} {x:V},bb K F H ds xs->xs[i]?=on x->∃d,ds[i]?=on d/\c_ K F H d x
 |[],xs,_,_,h,e=>by have q:xs=[]:=h;subst q;simp at e
 |c::ds,xs,0,d,h,e=>by
  obtain⟨x,r,q,a,b⟩:=h;subst q;simp at e;subst e;exact⟨c,rfl,a⟩
 |c::ds,xs,i+1,d,h,e=>by
  obtain⟨x,r,q,a,b⟩:=h;subst q;obtain⟨y,f,g⟩:=bb.getV (i:=i) (x:=d) b (by simpa using e);exact⟨y,by simpa using f,g⟩
theorem bb.append:∀{ds es:List D} {xs ys:List V},bb K F H ds xs->bb K F H es ys->bb K F H (ds++es) (xs++ys)
 |[],_,xs,_,h,h'=>by have q:xs=[]:=h;subst q;exact h'
 |c::ds,es,xs,ys,h,h'=>by
  obtain⟨x,r,q,a,b⟩:=h;subst q;exact⟨x,r++ys,rfl,a,bb.append b h'⟩
theorem bb.take:∀{ds:List D} {xs:List V} (n:Nat),bb K F H ds xs->bb K F H (ds.take n) (xs.take n)
 |[],xs,n,h=>by have q:xs=[]:=h;subst q;simp;rfl
 |c::ds,xs,0,h=>by simp;rfl
 |c::ds,xs,n+1,h=>by
  obtain⟨x,r,q,a,b⟩:=h;subst q;exact⟨x,r.take n,rfl,a,bb.take n b⟩
theorem bb.drop:∀{ds:List D} {xs:List V} (n:Nat),bb K F H ds xs->bb K F H (ds.drop n) (xs.drop n)
 |[],xs,n,h=>by have q:xs=[]:=h;subst q;simp;rfl
 |c::ds,xs,0,h=>h
 |c::ds,xs,n+1,h=>by
  obtain⟨x,r,q,b,a⟩:=h;subst q;exact bb.drop n a
theorem bb.set:∀{ds:List D} {xs:List V} (i:Nat) {d:D} {x:V},bb K F H ds xs->c_ K F H d x->bb K F H (ds.set i d) (xs.set i x)
 |[],xs,i,_,_,h,_=>by have q:xs=[]:=h;subst q;simp;rfl
 |c::ds,xs,0,d,x,h,hd=>by
  obtain⟨y,r,q,b,a⟩:=h;subst q;exact⟨x,r,rfl,hd,a⟩
 |c::ds,xs,i+1,d,x,h,hd=>by
  obtain⟨y,r,q,b,a⟩:=h;subst q;exact⟨y,r.set i x,rfl,b,bb.set i a hd⟩
theorem c_.sqL(h:c_ K F H (.lst ds) v):∃a xs,v= .ref a/\fx K H a xs/\bb K F H ds xs:=by
 unfold c_ at h;obtain⟨a,xs,e,b,c⟩:=h;exact⟨a,xs,e,.inl b.2,c⟩
theorem c_.rdL(h:c_ K F H (.lst ds) v):∃a xs,v= .ref a/\Rd H a (.lst xs)/\bb K F H ds xs:=by
 unfold c_ at h;obtain⟨a,xs,e,b,c⟩:=h;exact⟨a,xs,e,b.2,c⟩
theorem c_.scr{ns:List Int}(h:c_ K F H (.scr ns) v):∃a,v= .ref a/\fx K H a (ns.map V.int):=by
 unfold c_ at h;obtain⟨a,e,b⟩:=h;exact⟨a,e,b.imp (λp=>p.2) id⟩
theorem c_.sqT(h:c_ K F H (.tup ds) v):∃a xs,v= .ref a/\i_ K H a xs/\bb K F H ds xs:=by
 unfold c_ at h;obtain⟨a,xs,e,b,c⟩:=h;exact⟨a,xs,e,b.imp (λp=>p.2) id,c⟩
theorem c_.int(h:c_ K F H (.int i) v):v= .int i:=h
theorem c_.bl{i:Bool}(h:c_ K F H (.bl i) v):v= .bl i:=h
theorem c_.str(h:c_ K F H (.str i) v):v= .str i:=h
theorem c_.non(h:c_ K F H .non v):v= .non:=h
theorem c_.ty(h:c_ K F H (.ty n) v):v= .ty n:=h
theorem bb.ints:∀(ns:List Int) {xs:List V},bb K F H (ns.map D.int) xs->xs=ns.map V.int
 |[],xs,h=>h
 |n::ns,xs,h=>by
  obtain⟨x,r,e,a,b⟩:=h;rw[e,bb.ints ns b];have q:x= .int n:=a;rw[q];rfl
theorem bb.ofInts:∀(ns:List Int),bb K F H (ns.map D.int) (ns.map V.int)
 |[]=>rfl
 |n::ns=>⟨.int n,ns.map V.int,rfl,rfl,bb.ofInts ns⟩
structure Fr (F:Fx) (H:Hp) (β:Bg):Prop where
 occ:∀a,F.A a->H a≠Om
 bgA:∀b l,F.bg=on (b,l)->F.A b/\F.A l/\b≠l
 bag:∀b l,F.bg=on (b,l)->H b=on (.lst [.ref l,.int β.i,.int β.j])/\H l=on (.lst (β.cells.map V.int))
structure To (F:Fx) (H H':Hp) (β':Bg):Prop where
 kp:∀a o,H a=on o->(∀b l,F.bg=on (b,l)->a≠b/\a≠l)->H' a=on o
 fr:Fr F H' β'
theorem To.refl{F:Fx}{H:Hp}(fr:Fr F H β):To F H H β:=⟨λ_ _ h _=>h,fr⟩
theorem To.trans{F:Fx}{H c d:Hp}(a:To F H c β1)(b:To F c d β2):To F H d β2:=⟨λx o h n=>b.kp x o (a.kp x o h n) n,b.fr⟩
theorem Fr.same{F:Fx}{H c:Hp}(fr:Fr F H β)(s:bJ H c):To F H c β:=
 ⟨λa o h _=>s a o h,⟨λa h q=>(by
  cases e:H a with
  |none=>exact fr.occ a h e
  |some o=>exact O4 ((s a o e).symm.trans q) (by simp)),fr.bgA,λb l e=>⟨s _ _ (fr.bag b l e).1,s _ _ (fr.bag b l e).2⟩⟩⟩
theorem Fr.upd{F:Fx}{H:Hp}(fr:Fr F H β)(o:HO)(h:H p=Om):To F H (upd H p o) β:=fr.same (bJ.upd h)
theorem Fr.fresh{F:Fx}{H:Hp}(fr:Fr F H β)(h:H p=Om):¬F.A p:=λq=>fr.occ p q h
theorem To.tr{F:Fx}{H c:Hp}(fr:Fr F H β)(t:To F H c β'):Tr F H F c:=
 ⟨λ_ h _=>h,λa o h e=>t.kp a o e λb l q=>⟨λz=>h (z▸(fr.bgA b l q).1),λz=>h (z▸(fr.bgA b l q).2.1)⟩,rfl⟩
abbrev Dn:=List (Option D)
structure j0 (K:OX) (F:Fx) (H:Hp) (δ:Dn) (σ:St):Prop where
 len:δ.length=σ.length
 tell:∀(i:Nat) (d:D),δ[i]?=on (on d)->∃v,σ[i]?=on (on v)/\c_ K F H d v
theorem j0.tr{K:OX}{F a:Fx}{H b:Hp}(t:Tr F H a b)(h:j0 K F H δ σ):j0 K a b δ σ:=⟨h.len,λi d e=>let ⟨v,h1,h2⟩:=h.tell i d e;⟨v,h1,c_.tr t d v h2⟩⟩
theorem j0.set{K:OX}{F:Fx}{H:Hp}{δ:Dn}{a:St}(h:j0 K F H δ a)(hd:c_ K F H d v):j0 K F H (δ.set i (on d)) (a.set i (on v)):=by
 refine⟨by rw[Qc,Qc,h.len],λj c e=>?_⟩;rw[Qm]at e;rw[Qm];by_cases q:i=j
 .subst q
  rw[OE rfl]at e⊢;split at e
  .rename_i b
   cases e;rw[OE (by rw[<-h.len];exact b)];exact⟨v,rfl,hd⟩
  .cases e
 .rw[OC q]at e⊢
  exact h.tell j c e
def Sub(δ δ1:Dn):Prop:=∀(i:Nat) (d:D),δ[i]?=on (on d)->δ1[i]?=on (on d)
theorem j0.sub{K:OX}{F:Fx}{H:Hp}{δ δ1:Dn}(h:j0 K F H δ1 σ)(s:Sub δ δ1)(l:δ.length=δ1.length):j0 K F H δ σ:=⟨l.trans h.len,λi d e=>h.tell i d (s i d e)⟩
abbrev M(α:Type):=Bg->Option (Except Ou α×Bg)
noncomputable def M.ret{α:Type}(a:α):M α:=λβ=>on (.ok a,β)
noncomputable def M.bind{α b:Type}(m:M α)(k:α->M b):M b:=λβ=>match m β with
 |none=>Om
 |some (.error C,β1)=>on (.error C,β1)
 |some (.ok a,β1)=>k a β1
noncomputable def M.ofO{α:Type}(o:Option α):M α:=λβ=>match o with
 |some a=>on (.ok a,β)
 |none=>Om
noncomputable def M.fail{α:Type}:M α:=λ_=>Om
theorem M.bind_some{α b:Type}(a:α)(k:α->M b):M.bind (M.ofO (on a)) k=k a:=rfl
theorem M.bind_ok{α b:Type}{m:M α}{k:α->M b}{β β1:Bg}{a:α}(h:m β=on (.ok a,β1)):M.bind m k β=k a β1:=by unfold M.bind;rw[h]
theorem M.bind_err{α a:Type}{m:M α}{k:α->M a}{β β1:Bg}{C:Ou}(h:m β=on (.error C,β1)):M.bind m k β=on (.error C,β1):=by unfold M.bind;rw[h]
def run{α c:Type}(R:Hp->α->c->Prop)(F:Fx)(E:St->XK)(e:St)(m:M α)(H:Hp)(Q:c->Hp->Prop)(β:Bg):Prop:=
 ∃r a,m β=on (r,a)/\match r with
  | .ok d=>∀v b,To F H b a->R b d v->Q v b
  | .error C=>∀b,To F H b a->E e (.ref C) Om b
theorem run.mono{α c:Type}{R:Hp->α->c->Prop}{F:Fx}{E:St->XK}{g:St}{m:M α}{H:Hp}{Q i:c->Hp->Prop}{β:Bg}(h:run R F E g m H Q β)(f:∀v a,Q v a->i v a):run R F E g m H i β:=by
 obtain⟨r,b,e,h⟩:=h;refine⟨r,b,e,?_⟩;cases r with
 |ok d=>exact λv a t q=>f v a (h v a t q)
 |error C=>exact h
theorem run.bind{α l i j:Type}{R:Hp->α->l->Prop}{R2:Hp->i->j->Prop}{F:Fx}{E:St->XK}{b:St}{m:M α}{k:α->M i}{H:Hp}{Q:j->Hp->Prop}{β:Bg}(h:run R2 F E b (M.bind m k) H Q β):
  run R F E b m H (λv a=>∃d β1,To F H a β1/\R a d v/\run R2 F E b (k d) a Q β1) β:=by
 obtain⟨r,c,e,h⟩:=h;cases q:m β with
 |none=>unfold M.bind at e;rw[q]at e;cases e
 |some z=>
  obtain⟨r1,β1⟩:=z;refine⟨r1,β1,q,?_⟩;cases r1 with
  |error C=>
   rw[M.bind_err q]at e;cases e;exact h
  |ok d=>
   rw[M.bind_ok q]at e;intro v a t hd;refine⟨d,β1,t,hd,r,c,e,?_⟩;cases r with
   |ok d2=>exact λn f g o=>h n f (t.trans g) o
   |error C=>exact λf g=>h f (t.trans g)
theorem run.ret{α b:Type}{R:Hp->α->b->Prop}{F:Fx}{E:St->XK}{c:St}{a:α}{v:b}{H:Hp}{Q:b->Hp->Prop}{β:Bg}(fr:Fr F H β)(h:run R F E c (M.ret a) H Q β)(r:R H a v):Q v H:=by
 obtain⟨_,_,e,h⟩:=h;cases e;exact h v H (To.refl fr) r
theorem run.ofO{α c:Type}{R:Hp->α->c->Prop}{F:Fx}{E:St->XK}{d:St}{o:Option α}{H:Hp}{Q:c->Hp->Prop}{β:Bg}(h:run R F E d (M.ofO o) H Q β):∃a,o=on a/\∀v b,To F H b β->R b a v->Q v b:=by
 obtain⟨_,_,e,h⟩:=h;cases o with
 |none=>cases e
 |some a=>cases e;exact⟨a,rfl,h⟩
abbrev FD:=Dn->M D
abbrev FL:=Dn->M (List D)
def tV(K:OX)(f:FD)(E:St->XK):TE:=λa H Q=>∃F δ β,Fr F H β/\j0 K F H δ a/\run (c_ K F) F E a (f δ) H Q β
def js(K:OX)(f:FL)(E:St->XK):TA:=λa H Q=>∃F δ β,Fr F H β/\j0 K F H δ a/\run (bb K F) F E a (f δ) H Q β
def g8(K:OX)(f:Dn->M Bool)(E:St->XK):TT:=λc H Q=>∃F δ β,Fr F H β/\j0 K F H δ c/\run (λ_ (a b:Bool)=>b=a) F E c (f δ) H Q β
theorem _root_.L2.PE.imp(h:PE X e t)(f:∀a H Q,t' a H Q->t a H Q):PE X e t':=λb s a H Q I q=>h b s a H Q I (f a H Q q)
theorem _root_.L2.PT.imp(h:PT X e t)(f:∀a H Q,t' a H Q->t a H Q):PT X e t':=λb s a H Q I q=>h b s a H Q I (f a H Q q)
theorem _root_.L2.PW.imp(h:PW X e t)(f:∀a H Q,t' a H Q->t a H Q):PW X e t':=λc b s a H Q I q=>h c b s a H Q I (f a H Q q)
theorem _root_.L2.PA.imp(h:PA X e t)(f:∀a H Q,t' a H Q->t a H Q):PA X e t':=λpos b s a H Q I q=>h pos b s a H Q I (f a H Q q)
def ah(i:Nat):FD:=λδ=>M.ofO (δ.getD i Om)
def fC(d:D):FD:=λ_=>M.ret d
def f1(op:D->Option D)(f:FD):FD:=λδ=>M.bind (f δ) λa=>M.ofO (op a)
def f2(op:D->D->Option D)(f g:FD):FD:=λδ=>M.bind (f δ) λa=>M.bind (g δ) λb=>M.ofO (op a b)
noncomputable def aF:FL:=λ_=>M.ret []
def ag(f:FD)(g:FL):FL:=λδ=>M.bind (f δ) λa=>M.bind (g δ) λas=>M.ret (a::as)
def aP(op:List D->Option D)(g:FL):FD:=λδ=>M.bind (g δ) λas=>M.ofO (op as)
def eX(m:List D->M D)(g:FL):FD:=λδ=>M.bind (g δ) λas=>m as
variable{X:Cx}{E:St->XK}{e a b:Expr}{es:List Expr}{pos:TK}
theorem Nd(i:Nat)(h:PE X (.Name x pos) (jK i)):PE X (.Name x pos) (tV X.K (ah i) E):=h.imp λl H Q c=>by
 obtain⟨F,δ,β,fr,f,r⟩:=c;obtain⟨d,e,r⟩:=run.ofO r;have g:δ[i]?=on (on d):=by
  rw[Op]at e;cases q:δ[i]? with
  |none=>rw[q]at e;cases e
  |some z=>rw[q]at e;simp at e;rw[e]
 obtain⟨v,j,k⟩:=f.tell i d g;exact⟨v,j,r v H (To.refl fr) k⟩
theorem ra(h:PE X e (tC v))(hd:∀F H,c_ X.K F H d v):PE X e (tV X.K (fC d) E):=h.imp λf H Q c=>by obtain⟨F,δ,β,fr,g,r⟩:=c;exact run.ret fr r (hd F H)
theorem ao{i j pos}:PE X (.Constant (.int i) j pos) (tV X.K (fC (.int i)) E):=ra bN λ_ _=>rfl
theorem ng{i j pos}:PE X (.Constant (.bool i) j pos) (tV X.K (fC (.bl i)) E):=ra NC λ_ _=>rfl
theorem wq{j pos}:PE X (.Constant .none j pos) (tV X.K (fC .non) E):=ra K7 λ_ _=>rfl
theorem ff:PA X [] (js X.K aF E):=ik.imp λd H Q c=>by obtain⟨F,δ,β,fr,f,r⟩:=c;exact run.ret fr r bb.nil
theorem l5(ha:PE X e (tV X.K f E))(k:PA X es (js X.K g E))(hs:OM (e::es) X.env=(Ov,P0 e X.env)::OM es X.env:=by rfl):PA X (e::es) (js X.K (ag f g) E):=
 (eA ha k hs).imp λm H Q c=>lg c λF δ β fr i r=>⟨F,δ,β,fr,i,(run.bind (R:=c_ X.K F) r).mono λv n ⟨d,β1,t,hd,r1⟩=>
  ⟨F,δ,β1,t.fr,i.tr (t.tr fr),(run.bind (R:=bb X.K F) r1).mono λvs o c=>oa c λds β2 j h l=>run.ret j.fr l (bb.cons (c_.tr (j.tr t.fr) _ _ hd) h)⟩⟩
def aX(K:OX)(r:R2)(op:D->D->Option D):Prop:=∀(F:Fx) (H:Hp) (β:Bg) (Q:VK) (d1 d2 d:D) (f g:V),Fr F H β->c_ K F H d1 f->c_ K F H d2 g->op d1 d2=on d->
 (∀v c,To F H c β->c_ K F c d v->Q v c)->r f g H Q
def ID(K:OX)(r:V->Hp->VK->Prop)(op:D->Option D):Prop:=∀(F:Fx) (H:Hp) (β:Bg) (Q:VK) (d1 d:D) (f:V),Fr F H β->c_ K F H d1 f->op d1=on d->
 (∀v c,To F H c β->c_ K F c d v->Q v c)->r f H Q
def dF(K:OX)(r:List V->Hp->VK->Prop)(op:List D->Option D):Prop:=∀(F:Fx) (H:Hp) (β:Bg) (Q:VK) (ds:List D) (d:D) (vs:List V),Fr F H β->bb K F H ds vs->op ds=on d->
 (∀v c,To F H c β->c_ K F c d v->Q v c)->r vs H Q
theorem oB{K:OX}(l:aX K r op){H:Hp}(h:tV K (f2 op f g) E σ H Q):S_ r (tV K f E) (tV K g E) σ H Q:=by
 obtain⟨F,δ,β,fr,j,h⟩:=h;refine⟨F,δ,β,fr,j,(run.bind (R:=c_ K F) h).mono λv u c=>oa c λd β1 t hd r1=>⟨F,δ,β1,t.fr,j.tr (t.tr fr),(run.bind (R:=c_ K F) r1).mono λn o c=>oa c λd2 β2 m i p=>?_⟩⟩;obtain⟨d3,q,k⟩:=run.ofO p;exact l F o β2 Q d d2 d3 v n m.fr (c_.tr (m.tr t.fr) _ _ hd) i q k
theorem bc(c:gs X (Ru op) r)(l:aX X.K r o)(ha:PE X a (tV X.K f E))(d:PE X b (tV X.K g E)):PE X (.BinOp a op b pos) (tV X.K (f2 o f g) E):=
 (dC c ha d).imp λ_ _ _=>oB l
theorem l8(c:gs X (P7 op) r)(l:aX X.K r o)(ha:PE X a (tV X.K f E))(d:PE X b (tV X.K g E))(hm:TD op b=Ov:=by first|exact tU _|rfl):PE X (.Compare a [op] [b] pos) (tV X.K (f2 o f g) E):=
 (Js c ha d hm).imp λ_ _ _=>oB l
theorem AT(g:Zi X (unaryOp op) r)(l:ID X.K r o)(ha:PE X a (tV X.K f E)):PE X (.UnaryOp op a pos) (tV X.K (f1 o f) E):=
 (NB g ha).imp λm H Q c=>lg c λF δ β fr i h=>⟨F,δ,β,fr,i,(run.bind (R:=c_ X.K F) h).mono λv j c=>oa c λd β1 t hd r1=>let ⟨d3,e3,k⟩:=run.ofO r1;l F j β1 Q d d3 v t.fr hd e3 k⟩
theorem bC(c:Iv X r)(l:aX X.K r o)(ha:PE X a (tV X.K f E))(d:PE X b (tV X.K g E))(hs:wj b:=by exact λ_ _=>rfl):PE X (.Subscript a b pos) (tV X.K (f2 o f g) E):=
 (fE c ha d hs).imp λ_ _ _=>oB l
theorem yd{K:OX}(l:dF K r op){H:Hp}(h:tV K (aP op g) E σ H Q):ZA r (js K g E) σ H Q:=by
 obtain⟨F,δ,β,fr,c,h⟩:=h;refine⟨F,δ,β,fr,c,(run.bind (R:=bb K F) h).mono λv f i=>oa i λd β1 t hd r1=>?_⟩;obtain⟨d3,j,k⟩:=run.ofO r1;exact l F f β1 Q d d3 v t.fr hd j k
theorem bG{f:String}(h:cP X (.builtin f) r)(l:dF X.K r op)(i:Gl X x)(hm:X.mg x=Om)(j:SF x=on (.builtin f))(ha:PA X (e::es) (js X.K g E))(hn:x≠"__name__":=by decide)(c:(x==("__debug__":Pn))=Ov:=by decide)
  (k:OM (e::es) X.env=(Ov,P0 e X.env)::OM es X.env:=by rfl) (d:(Q0 pos (OM es X.env)).any (·.1)=Ov:=by rfl):PE X (.Call (.Name x p) (e::es) [] pos) (tV X.K (aP op g) E):=
 (jR h i hm j ha hn c k d).imp λ_ _ _=>yd l
theorem cm(f:cP X (.type T) r)(l:dF X.K r op)(h:Gl X x)(hm:X.mg x=Om)(i:SF x=on (.type T))(ha:PA X (e::es) (js X.K g E))(hn:x≠"__name__":=by decide)(c:(x==("__debug__":Pn))=Ov:=by decide)
  (j:OM (e::es) X.env=(Ov,P0 e X.env)::OM es X.env:=by rfl) (d:(Q0 pos (OM es X.env)).any (·.1)=Ov:=by rfl):PE X (.Call (.Name x p) (e::es) [] pos) (tV X.K (aP op g) E):=
 (yS f h hm i ha hn c j d).imp λ_ _ _=>yd l
noncomputable def fG(ds:List D):Option D:=if ds.length<=OV then on (.tup ds)else Om
noncomputable def jX(ds:List D):Option D:=if ds.length<=OV then on (.lst ds)else Om
theorem c_.newT{K:OX}{F:Fx}{H:Hp}(fr:Fr F H β)(h:H p=Om)(hd:bb K F H ds xs):c_ K F (upd H p (.tup xs)) (.tup ds) (.ref p):=
 ⟨p,xs,rfl,.inl ⟨fr.fresh h,.inl aj⟩,bb.tr ((fr.upd _ h).tr fr) _ _ hd⟩
theorem c_.newL{K:OX}{F:Fx}{H:Hp}(fr:Fr F H β)(h:H p=Om)(hd:bb K F H ds xs):c_ K F (upd H p (.lst xs)) (.lst ds) (.ref p):=
 ⟨p,xs,rfl,⟨fr.fresh h,.inl aj⟩,bb.tr ((fr.upd _ h).tr fr) _ _ hd⟩
theorem cg{x1}(h:PA X es (js X.K g E)):PE X (.Tuple es x1 pos) (tV X.K (aP fG g) E):=
 (K4 h).imp λj H Q d=>lg d λF δ β fr i r=>⟨F,δ,β,fr,i,(run.bind (R:=bb X.K F) r).mono λvs l d=>by
  obtain⟨ds,β1,t,hd,r1⟩:=d;obtain⟨d3,c,k⟩:=run.ofO r1;unfold fG at c;split at c
  .cases c
   exact⟨by rw[<-hd.length];assumption,λp f=>k _ _ (t.fr.upd _ f) (c_.newT t.fr f hd)⟩
  .cases c⟩
theorem eU(h:PA X es (js X.K g E)):PE X (.List es pos) (tV X.K (aP jX g) E):=
 (dT h).imp λj H Q d=>lg d λF δ β fr i r=>⟨F,δ,β,fr,i,(run.bind (R:=bb X.K F) r).mono λvs l d=>by
  obtain⟨ds,β1,t,hd,r1⟩:=d;obtain⟨d3,c,k⟩:=run.ofO r1;unfold jX at c;split at c
  .cases c
   exact⟨by rw[<-hd.length];assumption,λp f=>k _ _ (t.fr.upd _ f) (c_.newL t.fr f hd)⟩
  .cases c⟩
def D_(K:OX)(n:Nat)(m:List D->M D):Sp:=λvs H Q E=>vs.length=n/\∃F ds β,Fr F H β/\bb K F H ds vs/\run (c_ K F) F (λ_=>E) [] (m ds) H Q β
variable{p:TK}{x:Pn}{k n:Nat}{f:Ou}{fd:O8}{ps:List Pn}
theorem run.toE{α c:Type}{R:Hp->α->c->Prop}{F:Fx}{E:St->XK}{d:St}{m:M α}{H:Hp}{Q:c->Hp->Prop}{β:Bg}(h:run R F E d m H Q β):run R F (λ_=>E d) [] m H Q β:=h
theorem xX(G:e_ X.prog X.w X.K X.mg X.base (hE X.prog X.w) k f fd ps (D_ X.K n m))(q:eg k X.A)(u:Gl X x)(hm:X.mg x=on (.ref f))(v:Us X.K (.ref f)=Oq)(y:aC X.K fd ps [])(B:cM (hE X.prog X.w) X E)
  (ha:PA X (e::es) (js X.K g E)) (hn:∀δ β r h,g δ β=on (.ok r,h)->r.length=n) (c:(x==("__debug__":Pn))=Ov:=by decide) (I:OM (e::es) X.env=(Ov,P0 e X.env)::OM es X.env:=by rfl) (d:(Q0 pos (OM es X.env)).any (·.1)=Ov:=by rfl):
  PE X (.Call (.Name x p) (e::es) [] pos) (tV X.K (eX m g) E):=
 (mv G q u hm v y .nil B ha c I d).imp λT H Q J=>lg J λF δ β fr L r=>⟨F,δ,β,fr,L,by
  obtain⟨r0,i,l,o⟩:=run.bind (R:=bb X.K F) r;refine⟨r0,i,l,?_⟩;cases r0 with
  |error C=>exact o
  |ok ds=>
   intro vs N t hd;obtain⟨d',β1,O,j,r1⟩:=o vs N t hd;have P:=hn _ _ _ _ l;refine⟨by rw[Pi,<-hd.length,P],F,d',β1,O.fr,by rw[Pi];exact j,run.toE r1⟩⟩
theorem GC{r:List D}(h:aF δ β=on (.ok r,β')):r.length=0:=by cases h;rfl
theorem aS{f:FD}{n:Nat}(d:∀δ β r c,g δ β=on (.ok r,c)->r.length=n):∀δ β r c,ag f g δ β=on (.ok r,c)->r.length=n+1:=by
 intro δ β r c h;unfold ag M.bind at h;split at h
 .cases h
 .cases h
 .dsimp only at h
  split at h
  .cases h
  .cases h
  .rename_i as _ i
   cases h;rw[OR,d _ _ _ _ i]
noncomputable def n_(g:Int->Int->Option D):D->D->Option D
 | .int i,.int j=>g i j
 |_,_=>Om
theorem il{a b d:D}(h:n_ g a b=on d):∃i j,a= .int i/\b= .int j/\g i j=on d:=by
 cases a<;>cases b<;>first|(exact⟨_,_,rfl,rfl,h⟩)|(cases h)
theorem zr{g:Int->Int->Int}:aX K (p3 λi j=> .int (g i j)) (n_ λi j=>on (.int (g i j))):=λF H β Q d1 d2 d l m fr c h e k=>by
 obtain⟨i,j,rfl,rfl,e⟩:=il e;cases e;exact⟨i,j,c,h,k _ H (To.refl fr) rfl⟩
theorem gR{g:Int->Int->Bool}:aX K (p3 λi j=> .bl (g i j)) (n_ λi j=>on (.bl (g i j))):=λF H β Q d1 d2 d l m fr c h e k=>by
 obtain⟨i,j,rfl,rfl,e⟩:=il e;cases e;exact⟨i,j,c,h,k _ H (To.refl fr) rfl⟩
theorem qW{C:Int->Int->Prop}{c:Int->Int->Bool}{g:Int->Int->Int}(l:∀i j,c i j=Oq->C i j):aX K (rI C λi j=> .int (g i j)) (n_ λi j=>if c i j=Oq then on (.int (g i j))else Om):=λF H β Q d1 d2 d q r fr m o e k=>by
 obtain⟨i,j,rfl,rfl,h⟩:=il e;split at h
 .cases h
  exact⟨i,j,m,o,l _ _ (by assumption),k _ H (To.refl fr) rfl⟩
 .cases h
noncomputable def gf(i:Int):Bool:=decide (i.natAbs<2^1000)
def ZB:D->D->Option D:=n_ λi j=>on (.int (i-j))
def xA:D->D->Option D:=n_ λi j=>if(decide (0<j)&&decide (j.natAbs.log2<9000))=Oq then on (.int (i/j))else Om
def YO:D->D->Option D:=n_ λi j=>on (.bl (decide (i<j)))
def U_:D->D->Option D:=n_ λi j=>on (.bl (decide (i<=j)))
def gtD:D->D->Option D:=n_ λi j=>on (.bl (decide (j<i)))
def Z2:D->D->Option D:=n_ λi j=>on (.bl (decide (j<=i)))
theorem gT:aX K (p3 λi j=> .int (i-j)) ZB:=zr
theorem qp:aX K (p3 λi j=> .bl (decide (i<j))) YO:=gR
theorem nU:aX K (p3 λi j=> .bl (decide (i<=j))) U_:=gR
theorem xg:aX K (p3 λi j=> .bl (decide (j<i))) gtD:=gR
theorem ZP:aX K (p3 λi j=> .bl (decide (j<=i))) Z2:=gR
theorem Lz:aX K (rI su λi j=> .int (i/j)) xA:=qW λi j h=>by
 simp only[Pc,Pq]at h;exact h
noncomputable def wM:R2:=λx y H Q=>∃l b xs c,x= .ref l/\y= .ref b/\Rd H l (.lst xs)/\Rd H b (.lst c)/\xs.length+c.length<=OV/\∀p,H p=Om->Q (.ref p) (upd H p (.lst (xs++c)))
theorem Jw:gs X (Ru .Add) wM:=by
 intro d s t H x y v u Q I i j h;obtain⟨l,b,xs,w,rfl,rfl,m,hB,A,q⟩:=h;cases i;cases j;obtain⟨z,its,n,r,e⟩:=m.ok I.hok;obtain⟨B,c,C,g,o⟩:=hB.ok I.hok;have J:=r.length;have L:=g.length;refine Xz e o ?_ (by simp only[OU];omega);rw[show its.toArray++c.toArray=(its++c).toArray by simp];exact⟨.ref _,_,I.lnew (t':=s.toks) (r.append g) (by rw[OQ];omega),rfl,q _ I.fresh⟩
def wN(K:OX):R2:=λx y H Q=>∃a b ys,x= .ref a/\y= .ref b/\i_ K H a []/\i_ K H b ys/\Q (.ref b) H
theorem Jx:gs X (Ru .Add) (wN X.K):=by
 intro l s O H x y v u Q I t w h;obtain⟨a,b,ys,rfl,rfl,ha,A,q⟩:=h;cases t;cases w;obtain⟨its,r1,B,_⟩:=I.tuple ha;obtain⟨m,P,C,_⟩:=I.tuple A;cases r1;obtain⟨⟨c1,d1,J,i⟩,o,r,n,hd⟩:=B;obtain⟨⟨c2,d2,L,j⟩,c,d,N,g⟩:=C;simp only at r hd d g;subst r hd d g;exact PySem.concat_meets ⟨_,o,rfl⟩ ⟨_,c,rfl⟩ Wo XH Uq Ue (T0 _ _) (tuple_addW0 a b _ _ n N d1 d2 i j (by simp)) ⟨o,c,⟨.ref b,H,I,rfl,q⟩⟩
noncomputable def jf:D->D->Option D
 | .int i,.int j=>on (.int (i+j))
 | .tup [],.tup b=>on (.tup b)
 | .lst a,.lst b=>if a.length+b.length<=OV then on (.lst (a++b))else Om
 | .tup (c::a),.tup b=>if(c::a).length+b.length<=OV then on (.tup (c::a++b))else Om
 |_,_=>Om
theorem bQ:aX K (λx y H Q=>(p3 λi j=> .int (i+j)) x y H Q\/wM x y H Q\/wL K x y H Q\/wN K x y H Q) jf:=λF H β Q d1 d2 d v w fr h l e k=>by
 unfold jf at e;split at e
 .cases e
  exact .inl ⟨_,_,h,l,k _ H (To.refl fr) rfl⟩
 .cases e
  obtain⟨a,xs,rfl,r1,c⟩:=c_.sqT h;obtain⟨b,ys,rfl,m,g⟩:=c_.sqT l;have q:xs=[]:=c;subst q;exact .inr (.inr (.inr ⟨a,b,ys,rfl,rfl,r1,m,k _ H (To.refl fr) l⟩))
 .split at e
  .cases e
   obtain⟨a,xs,rfl,r1,c⟩:=c_.rdL h;obtain⟨b,ys,rfl,m,g⟩:=c_.rdL l;exact .inr (.inl ⟨a,b,xs,ys,rfl,rfl,r1,m,by rw[<-c.length,<-g.length];assumption,λp o=>k _ _ (fr.upd _ o) (c_.newL fr o (c.append g))⟩)
  .cases e
 .split at e
  .cases e
   obtain⟨a,xs,rfl,r1,c⟩:=c_.sqT h;obtain⟨b,ys,rfl,m,g⟩:=c_.sqT l;have r:=c.length;have t:=g.length;refine .inr (.inr (.inl ⟨a,b,xs,ys,rfl,rfl,r1,m,(λz=>by subst z;cases r),by rw[<-r,<-t];assumption,λz=>?_,λ_ p o=>k _ _ (fr.upd _ o) (c_.newT fr o (c.append g))⟩));subst z;have u:=Uw.mp t;subst u;rw[Pi]at k;exact k _ H (To.refl fr) h
  .cases e
 .cases e
theorem aQ:gs X (Ru .Add) (λx y H Q=>(p3 λi j=> .int (i+j)) x y H Q\/wM x y H Q\/wL X.K x y H Q\/wN X.K x y H Q):=o4.or (Jw.or (Jv.or Jx))
def CI:D->D->Option D:=n_ λi j=>if(gf i&&gf j)=Oq then on (.int (i*j))else Om
theorem rR:aX K (rI sr λi j=> .int (i*j)) CI:=qW λi j h=>by
 simp only[Pc,gf,Pq]at h;exact h
noncomputable def Ze:D->D->Option Bool
 | .non,.non=>on Oq
 | .int i,.int j=>on (decide (i=j))
 | .bl i,.bl j=>on (decide (i=j))
 | .str i,.str j=>on (decide (i=j))
 | .int _,.str _=>on Ov
 | .str _,.int _=>on Ov
 | .bl _,.str _=>on Ov
 | .str _,.bl _=>on Ov
 | .non,.int _=>on Ov
 | .int _,.non=>on Ov
 | .non,.str _=>on Ov
 | .str _,.non=>on Ov
 |_,_=>Om
theorem zW{F:Fx}{H:Hp}{a b:D}{c:Bool}(h:Ze a b=on c)(d:c_ K F H a v)(g:c_ K F H b w):BJ v w=Oq/\decide (v=w)=c:=by
 unfold Ze at h;split at h<;>first
  |(cases h;cases d.int;cases g.int;exact⟨rfl,by simp⟩)
  |(cases h;cases d.bl;cases g.bl;exact⟨rfl,by simp⟩)
  |(cases h;cases d.str;cases g.str;exact⟨rfl,by simp⟩)
  |(cases h;cases d.non;cases g.non;exact⟨rfl,by simp⟩)
  |(cases h;cases d.int;cases g.str;exact⟨rfl,rfl⟩)
  |(cases h;cases d.str;cases g.int;exact⟨rfl,rfl⟩)
  |(cases h;cases d.bl;cases g.str;exact⟨rfl,rfl⟩)
  |(cases h;cases d.str;cases g.bl;exact⟨rfl,rfl⟩)
  |(cases h;cases d.non;cases g.int;exact⟨rfl,rfl⟩)
  |(cases h;cases d.int;cases g.non;exact⟨rfl,rfl⟩)
  |(cases h;cases d.non;cases g.str;exact⟨rfl,rfl⟩)
  |(cases h;cases d.str;cases g.non;exact⟨rfl,rfl⟩)
  |cases h
noncomputable def isN:D->Bool
 | .non=>Oq
 |_=>Ov
theorem LC{F:Fx}{H:Hp}(h:c_ K F H d v):decide (v= .non)=isN d:=by
 cases d with
 |non=>cases h.non;rfl
 |bl b=>cases h.bl;rfl
 |int b=>cases h.int;rfl
 |str b=>cases h.str;rfl
 |ty b=>cases h.ty;rfl
 |txt=>unfold c_ at h;obtain⟨z,rfl⟩:=h;rfl
 |lst ds=>obtain⟨a,xs,rfl,_⟩:=c_.sqL h;rfl
 |tup ds=>obtain⟨a,xs,rfl,_⟩:=c_.sqT h;rfl
 |scr ds=>obtain⟨a,rfl,_⟩:=c_.scr h;rfl
 |obj C ns ds=>
  unfold c_ at h;obtain⟨a,_,_,rfl,_⟩:=h;rfl
 |bag=>
  unfold c_ at h;obtain⟨a,_,_,rfl⟩:=h;rfl
 |adr a=>
  unfold c_ at h;obtain rfl:=h;rfl
 |dct b ks vs=>
  unfold c_ at h;obtain⟨a,_,xs,rfl,_⟩:=h;rfl
noncomputable def xp:D->D->Option D
 |a,.non=>on (.bl (isN a))
 |_,_=>Om
theorem xf:aX K (λx y H Q=>y= .non/\Q (.bl (decide (x= .non))) H) xp:=λF H β Q d1 d2 d h i fr c g e k=>by
 unfold xp at e;split at e
 .cases e
  exact⟨g,by rw[LC c];exact k _ H (To.refl fr) rfl⟩
 .cases e
noncomputable def eE:D->Bool
 | .int _=>Oq| .bl _=>Oq| .str _=>Oq| .non=>Oq|_=>Ov
noncomputable def Z_:D->D->Bool
 | .non,.non=>Oq
 | .bl a,.bl b=>a==b
 | .bl a,.int b=>(if a then 1 else 0)==b
 | .int a,.bl b=>a==(if b then 1 else 0)
 | .int a,.int b=>a==b
 | .str a,.str b=>a==b
 |_,_=>Ov
noncomputable def cY:D->Option (List D)
 | .lst a=>on a
 | .tup a=>on a
 |_=>Om
def W_(x:D)(ys:List D):Bool:=ys.any λy=>Z_ y x
def L4(neg:Bool)(x y:D):Option D:=(cY y).bind λys=>if(eE x&&ys.all eE)=Oq then on (.bl (if neg then !W_ x ys else W_ x ys))else Om
theorem qs{F:Fx}{H:Hp}(f:eE d=Oq)(h:c_ K F H d v):gb v=Oq:=by
 cases d<;>first|(cases h.int;rfl)|(cases h.bl;rfl)|(cases h.str;rfl)|(cases h.non;rfl)|cases f
theorem LU{F:Fx}{H:Hp}{a b:D}(g:eE a=Oq)(h:eE b=Oq)(c:c_ K F H a v)(d:c_ K F H b w):L_ v w=Z_ a b:=by
 cases a<;>first
  |(exfalso;exact OH g)
  |(cases b<;>first
   |(exfalso;exact OH h)
   |(cases c.int;cases d.int;rfl)|(cases c.int;cases d.bl;rfl)|(cases c.int;cases d.str;rfl)|(cases c.int;cases d.non;rfl)
   |(cases c.bl;cases d.int;rfl)|(cases c.bl;cases d.bl;rfl)|(cases c.bl;cases d.str;rfl)|(cases c.bl;cases d.non;rfl)
   |(cases c.str;cases d.int;rfl)|(cases c.str;cases d.bl;rfl)|(cases c.str;cases d.str;rfl)|(cases c.str;cases d.non;rfl)
   |(cases c.non;cases d.int;rfl)|(cases c.non;cases d.bl;rfl)|(cases c.non;cases d.str;rfl)|(cases c.non;cases d.non;rfl))
theorem uu{F:Fx}{H:Hp}{x:D}(c:eE x=Oq)(g:c_ K F H x v):∀{ds:List D} {vs:List V},ds.all eE=Oq->bb K F H ds vs->vs.all gb=Oq/\Zb v vs=W_ x ds
 |[],vs,_,h=>by have q:vs=[]:=h;subst q;exact⟨rfl,rfl⟩
 |d::ds,vs,f,h=>by
  obtain⟨y,r,q,i,l⟩:=h;subst q;rw[Uk,Pc]at f;obtain⟨m,j⟩:=uu c g f.2 l;refine⟨by rw[Uk,qs f.1 i,m];rfl,?_⟩;unfold Zb W_ at j⊢;rw[Tc,Tc,j,LU f.1 c i g]
theorem DA{neg:Bool}:aX K (ZI K neg) (L4 neg):=λF H β Q d1 d2 d m o fr g l e k=>by
 unfold L4 at e;cases q:cY d2 with
 |none=>rw[q]at e;cases e
 |some ys=>
  rw[q]at e;simp only[Rc]at e;split at e
  .rename_i c
   rw[Pc]at c;cases e;cases d2<;>first|(cases q;obtain⟨a,xs,rfl,r1,h⟩:=c_.sqL l;obtain⟨i,j⟩:=uu c.1 g c.2 h;exact⟨a,xs,rfl,.inl r1,qs c.1 g,i,by rw[j];exact k _ H (To.refl fr) rfl⟩)|(cases q;obtain⟨a,xs,rfl,r1,h⟩:=c_.sqT l;obtain⟨i,j⟩:=uu c.1 g c.2 h;exact⟨a,xs,rfl,.inr r1,qs c.1 g,i,by rw[j];exact k _ H (To.refl fr) rfl⟩)|cases q
  .cases e
def ko:D->D->Option D
 | .lst xs,.int i=>ot xs i
 | .tup xs,.int i=>ot xs i
 |_,_=>Om
theorem uN{F:Fx}{H:Hp}(h:bb K F H ds vs)(e:ot ds i=on d):∃v,ot vs i=on v/\c_ K F H d v:=by
 unfold ot at e⊢;rw[<-h.length];cases q:qk ds.length i with
 |none=>rw[q]at e;cases e
 |some j=>
  rw[q]at e;exact h.get e
theorem bH:aX K (λx y H Q=>tJ K x y H Q\/BO K x y H Q) ko:=λF H β Q d1 d2 d j l fr h i e k=>by
 unfold ko at e;split at e
 .obtain⟨a,xs,rfl,r1,c⟩:=c_.sqL h
  obtain⟨v,g,hd⟩:=uN c e;exact .inl ⟨a,xs,_,v,rfl,i,r1,g,k _ H (To.refl fr) hd⟩
 .obtain⟨a,xs,rfl,r1,c⟩:=c_.sqT h
  obtain⟨v,g,hd⟩:=uN c e;exact .inr ⟨a,xs,_,v,rfl,i,r1,g,k _ H (To.refl fr) hd⟩
 .cases e
theorem aM:Iv X (λx y H Q=>tJ X.K x y H Q\/BO X.K x y H Q):=dj.or LB
noncomputable def e8:List D->Option D
 |[.lst xs]=>on (.int xs.length)
 |[.tup xs]=>on (.int xs.length)
 |_=>Om
theorem bb.one{F:Fx}{H:Hp}(h:bb K F H [d] vs):∃v,vs=[v]/\c_ K F H d v:=by
 obtain⟨x,r,e,c,g⟩:=h;have q:r=[]:=g;subst q;exact⟨x,e,c⟩
theorem bb.two{F:Fx}{H:Hp}(h:bb K F H [d,c] vs):∃v w,vs=[v,w]/\c_ K F H d v/\c_ K F H c w:=by
 obtain⟨x,r,e,g,i⟩:=h;obtain⟨y,rfl,j⟩:=bb.one i;exact⟨x,y,e,g,j⟩
theorem NU:dF K (λxs H Q=>∃p ys,xs=[.ref p]/\(fx K H p ys\/i_ K H p ys)/\Q (.int ys.length) H) e8:=λF H β Q ds d vs fr h e k=>by
 unfold e8 at e;split at e
 .cases e
  obtain⟨v,rfl,g⟩:=bb.one h;obtain⟨a,xs,rfl,r,c⟩:=c_.sqL g;exact⟨a,xs,rfl,.inl r,by rw[<-c.length];exact k _ H (To.refl fr) rfl⟩
 .cases e
  obtain⟨v,rfl,g⟩:=bb.one h;obtain⟨a,xs,rfl,r,c⟩:=c_.sqT g;exact⟨a,xs,rfl,.inr r,by rw[<-c.length];exact k _ H (To.refl fr) rfl⟩
 .cases e
noncomputable def t0:List D->Option D
 |[.int i,.int j]=>on (.int (if j<i then j else i))
 |_=>Om
noncomputable def wX:List D->Option D
 |[.int i,.int j]=>on (.int (if j>i then j else i))
 |_=>Om
theorem ph:dF K (λxs H Q=>∃i j,xs=[.int i,.int j]/\Q (.int (if j<i then j else i)) H) t0:=λF H β Q ds d vs fr h e k=>by
 unfold t0 at e;split at e
 .cases e
  obtain⟨v,w,rfl,g,g'⟩:=bb.two h;cases g.int;cases g'.int;exact⟨_,_,rfl,k _ H (To.refl fr) rfl⟩
 .cases e
theorem xb:dF K (λxs H Q=>∃i j,xs=[.int i,.int j]/\Q (.int (if j>i then j else i)) H) wX:=λF H β Q ds d vs fr h e k=>by
 unfold wX at e;split at e
 .cases e
  obtain⟨v,w,rfl,g,g'⟩:=bb.two h;cases g.int;cases g'.int;exact⟨_,_,rfl,k _ H (To.refl fr) rfl⟩
 .cases e
noncomputable def dY:List D->Option (List Int)
 |[]=>on []
 | .int i::r=>(dY r).map (i::·)
 |_=>Om
theorem j2:∀{ds:List D} {ns:List Int},dY ds=on ns->ds=ns.map D.int
 |[],ns,h=>by cases h;rfl
 |d::ds,ns,h=>by
  cases d with
  |int i=>
   unfold dY at h;cases q:dY ds with
   |none=>rw[q]at h;cases h
   |some c=>rw[q]at h;cases h;rw[j2 q];rfl
  |_=>cases h
def BC:List D->Option D
 |[.lst xs]=>(dY xs).map λns=> .int ns.sum
 |_=>Om
theorem NS:dF K (λxs H Q=>∃(a:Ou) (ns:List Int),xs=[.ref a]/\fx K H a (ns.map V.int)/\Q (.int ns.sum) H) BC:=λF H β Q ds d vs fr h e k=>by
 unfold BC at e;split at e
 .rename_i xs
  cases q:dY xs with
  |none=>rw[q]at e;cases e
  |some ns=>
   rw[q]at e;cases e;obtain⟨v,rfl,g⟩:=bb.one h;obtain⟨a,ys,rfl,r,c⟩:=c_.sqL g;rw[j2 q]at c;have i:=bb.ints ns c;subst i;exact⟨a,ns,rfl,r,k _ H (To.refl fr) rfl⟩
 .cases e
noncomputable def rQ:List D->Option D
 |[.lst xs]=>on (.lst xs)
 |[.tup xs]=>on (.lst xs)
 |_=>Om
theorem ly:dF K (λxs H Q=>∃p ys,xs=[.ref p]/\(fx K H p ys\/i_ K H p ys)/\∀l,H l=Om->Q (.ref l) (upd H l (.lst ys))) rQ:=λF H β Q ds d vs fr h e k=>by
 unfold rQ at e;split at e
 .cases e
  obtain⟨v,rfl,g⟩:=bb.one h;obtain⟨a,xs,rfl,r,i⟩:=c_.sqL g;exact⟨a,xs,rfl,.inl r,λl c=>k _ _ (fr.upd _ c) (c_.newL fr c i)⟩
 .cases e
  obtain⟨v,rfl,g⟩:=bb.one h;obtain⟨a,xs,rfl,r,i⟩:=c_.sqT g;exact⟨a,xs,rfl,.inr r,λl c=>k _ _ (fr.upd _ c) (c_.newL fr c i)⟩
 .cases e
noncomputable def sH:List D->Option D
 |[.lst xs]=>on (.tup xs)
 |[.tup xs]=>on (.tup xs)
 |_=>Om
theorem f6:dF K (λxs H Q=>∃p ys,xs=[.ref p]/\((fx K H p ys/\∀l,H l=Om->Q (.ref l) (upd H l (.tup ys)))\/(i_ K H p ys/\Q (.ref p) H))) sH:=λF H β Q ds d vs fr h e k=>by
 unfold sH at e;split at e
 .cases e
  obtain⟨v,rfl,g⟩:=bb.one h;obtain⟨a,xs,rfl,r,c⟩:=c_.sqL g;exact⟨a,xs,rfl,.inl ⟨r,λl i=>k _ _ (fr.upd _ i) (c_.newT fr i c)⟩⟩
 .cases e
  obtain⟨v,rfl,g⟩:=bb.one h;obtain⟨a,xs,rfl,r,c⟩:=c_.sqT g;exact⟨a,xs,rfl,.inr ⟨r,k _ H (To.refl fr) g⟩⟩
 .cases e
noncomputable def asB:D->Option Bool
 | .bl b=>on b
 |_=>Om
theorem iC{b:Bool}(h:asB d=on b):d= .bl b:=by cases d<;>first|(cases h;rfl)|cases h
noncomputable def AX:D->Option Bool
 | .non=>on Ov
 | .bl b=>on b
 | .int i=>on (i !=0)
 | .lst xs=>on (!xs.isEmpty)
 | .tup xs=>on (!xs.isEmpty)
 |_=>Om
def fB(f:FD):Dn->M Bool:=λδ=>M.bind (f δ) λd=>M.ofO (asB d)
def uB(f:FD):Dn->M Bool:=λδ=>M.bind (f δ) λd=>M.ofO (AX d)
def mQ(f g:Dn->M Bool):Dn->M Bool:=λδ=>M.bind (f δ) λc=>if c=Oq then g δ else M.ret Ov
def lH(f g:Dn->M Bool):Dn->M Bool:=λδ=>M.bind (f δ) λc=>if c=Oq then M.ret Oq else g δ
def xC(f:Dn->M Bool):Dn->M Bool:=λδ=>M.bind (f δ) λc=>M.ret (!c)
def xD(f g:FD):FD:=λδ=>M.bind (f δ) λd=>M.bind (M.ofO (asB d)) λc=>if c=Oq then g δ else M.ret (.bl Ov)
def YF(t:Dn->M Bool)(f g:FD):FD:=λδ=>M.bind (t δ) λc=>if c=Oq then f δ else g δ
def pL(o d:D->D->Option D)(f g h:FD):FD:=λδ=>M.bind (f δ) λa=>M.bind (g δ) λb=>M.bind (M.ofO (o a b)) λz=>M.bind (M.ofO (asB z)) λc=>if c=Oq then M.bind (h δ) (λw=>M.ofO (d b w))else M.ret (.bl Ov)
variable{c:Expr}{rest:List Expr}
theorem M.ofO_bind{α d:Type}{o:Option α}{k:α->M d}{β:Bg}{z:Except Ou d×Bg}(h:M.bind (M.ofO o) k β=on z):∃a,o=on a/\k a β=on z:=by
 cases o with
 |none=>cases h
 |some a=>exact⟨a,rfl,h⟩
theorem run.ofO_bind{α g i:Type}{R:Hp->g->i->Prop}{F:Fx}{j:St}{o:Option α}{k:α->M g}{H:Hp}{Q:i->Hp->Prop}{β:Bg}(h:run R F E j (M.bind (M.ofO o) k) H Q β):∃a,o=on a/\run R F E j (k a) H Q β:=by
 obtain⟨r,d,e,h⟩:=h;obtain⟨a,q,e⟩:=M.ofO_bind e;exact⟨a,q,r,d,e,h⟩
theorem run.bOk{F:Fx}{H:Hp}(fr:Fr F H β)(hd:c_ K F H d v)(h:run (λ_ (a b:Bool)=>b=a) F E σ (M.ofO (asB d)) H Q β):∃k,v= .bl k/\Q k H:=by
 obtain⟨b,e,k⟩:=run.ofO h;rw[iC e]at hd;exact⟨b,hd,k b H (To.refl fr) rfl⟩
theorem nl{f:FD}{H:Hp}(h:g8 K (fB f) E σ H Q):tV K f E σ H λx g=>∃k,x= .bl k/\Q k g:=by
 obtain⟨F,δ,β,fr,i,h⟩:=h;exact⟨F,δ,β,fr,i,(run.bind (R:=c_ K F) h).mono λv l j=>oa j λd β1 t hd r1=>run.bOk t.fr hd r1⟩
theorem bn{f g:FD}(d:gs X (P7 op) r)(l:aX X.K r o)(ha:PE X a (tV X.K f E))(i:PE X b (tV X.K g E))(hm:TD op b=Ov:=by first|exact tU _|rfl):PT X (.Compare a [op] [b] pos) (g8 X.K (fB (f2 o f g)) E):=
 (vn d ha i hm).imp λj H Q h=>oB l (nl h)
theorem yb{f g h:FD}(l:aX K r o)(Y:aX K r' o'){H:Hp}(B:tV K (pL o o' f g h) E σ H Q):yc r r' (tV K f E) (tV K g E) (tV K h E) σ H Q:=by
 obtain⟨F,δ,β,fr,I,B⟩:=B;refine⟨F,δ,β,fr,I,(run.bind (R:=c_ K F) B).mono λv H1 j=>oa j λd β1 t hd r1=>⟨F,δ,β1,t.fr,I.tr (t.tr fr),(run.bind (R:=c_ K F) r1).mono λP Z j=>oa j λd2 β2 m u r2=>?_⟩⟩;obtain⟨z,T,r3⟩:=run.ofO_bind r2;obtain⟨c,ec,A⟩:=run.ofO_bind r3;rw[iC ec]at T;refine l F Z β2 _ d d2 _ v P m.fr (c_.tr (m.tr t.fr) _ _ hd) u T λvz U i hz=>⟨c,hz,?_⟩;cases c with
 |true=>
  rw[OE rfl]at A;refine⟨F,δ,β2,i.fr,I.tr ((t.tr fr).trans ((m.tr t.fr).trans (i.tr m.fr))),?_⟩;have r5:run (c_ K F) F E σ (M.bind (h δ) λw=>M.ofO (o' d2 w)) U Q β2:=by
   obtain⟨J,y,e,q⟩:=A;refine⟨J,y,e,?_⟩;cases J with
   |ok d=>exact λv L tt=>q v L (i.trans tt)
   |error C=>exact λL tt=>q L (i.trans tt)
  refine(run.bind (R:=c_ K F) r5).mono λw H4 j=>oa j λdw N W O r6=>?_;obtain⟨d3,e3,k⟩:=run.ofO r6;exact Y F H4 N Q d2 dw d3 P w W.fr (c_.tr ((i.tr m.fr).trans (W.tr i.fr)) _ _ u) O e3 k
 |false=>
  rw[OC OH]at A;obtain⟨J,y,e,q⟩:=A;cases e;exact q _ U i rfl
theorem u3{f g h:FD}(i:gs X (P7 op) r)(d:gs X (P7 op') r')(l:aX X.K r o)(j:aX X.K r' o')(ha:PE X a (tV X.K f E))(m:PE X b (tV X.K g E))(t:PE X c (tV X.K h E))(hm:X8 [op,op'] [b,c]=Ov:=by with_unfolding_all rfl):
  PT X (.Compare a [op,op'] [b,c] pos) (g8 X.K (fB (pL o o' f g h)) E):=(BQ i d ha m t hm).imp λu H Q q=>yb l j (nl q)
theorem IQ{F:Fx}{H:Hp}{k:Bool}(h:AX d=on k)(hd:c_ K F H d v):GD K v H k:=by
 cases d with
 |non=>cases h;cases hd.non;rfl
 |bl b=>cases h;cases hd.bl;rfl
 |int i=>cases h;cases hd.int;rfl
 |lst xs=>
  cases h;obtain⟨a,ys,rfl,r,g⟩:=c_.sqL hd;refine .inl ⟨ys,r,?_⟩;have:=g.length;cases xs<;>cases ys<;>first|rfl|(simp at this)
 |tup xs=>
  cases h;obtain⟨a,ys,rfl,r,g⟩:=c_.sqT hd;refine .inr ⟨ys,r,?_⟩;have:=g.length;cases xs<;>cases ys<;>first|rfl|(simp at this)
 |_=>cases h
theorem ma{f:FD}(ha:PE X a (tV X.K f E))(j:∀g,isTrue a X.env g=(do let v <-g;Sm a.pos;SR [v] (truthy v)):=by intro _;rfl):PT X a (g8 X.K (uB f) E):=
 (BP ha j).imp λo H Q i=>lg i λF δ β fr l h=>⟨F,δ,β,fr,l,(run.bind (R:=c_ X.K F) h).mono λv m i=>by
  obtain⟨d,β1,t,hd,r1⟩:=i;obtain⟨k,e,q⟩:=run.ofO r1;exact⟨k,IQ e hd,q k m (To.refl t.fr) rfl⟩⟩
theorem oA{f:Dn->M Bool}(ha:PT X a (g8 X.K f E)):PT X (.UnaryOp .Not a pos) (g8 X.K (xC f) E):=
 (KZ ha).imp λj H Q g=>lg g λF δ β fr i h=>⟨F,δ,β,fr,i,(run.bind (R:=λ_ (a b:Bool)=>b=a) h).mono λv l g=>by
  obtain⟨d,β1,t,hd,r1⟩:=g;subst hd;exact run.ret t.fr r1 rfl⟩
theorem IW{f g:Dn->M Bool}{H:Hp}(h:g8 K (mQ f g) E σ H Q):Ko (g8 K f E) (g8 K g E) σ H Q:=by
 obtain⟨F,δ,β,fr,i,h⟩:=h;refine⟨F,δ,β,fr,i,(run.bind (R:=λ_ (a b:Bool)=>b=a) h).mono λv l j=>oa j λd β1 t hd r1=>?_⟩;subst hd;cases v with
 |true=>rw[OE rfl]at r1⊢;exact⟨F,δ,β1,t.fr,i.tr (t.tr fr),r1⟩
 |false=>rw[OC OH]at r1⊢;exact run.ret t.fr r1 rfl
theorem Ki{f g:Dn->M Bool}{H:Hp}(h:g8 K (lH f g) E σ H Q):tOr (g8 K f E) (g8 K g E) σ H Q:=by
 obtain⟨F,δ,β,fr,i,h⟩:=h;refine⟨F,δ,β,fr,i,(run.bind (R:=λ_ (a b:Bool)=>b=a) h).mono λv l j=>oa j λd β1 t hd r1=>?_⟩;subst hd;cases v with
 |false=>rw[OC OH]at r1⊢;exact⟨F,δ,β1,t.fr,i.tr (t.tr fr),r1⟩
 |true=>rw[OE rfl]at r1⊢;exact run.ret t.fr r1 rfl
theorem Kb{f:Dn->M Bool}(ha:PT X a (g8 X.K f E)):PW X (.BoolOp .And [a] pos) (g8 X.K f E):=Jl ha
theorem oq{f:Dn->M Bool}(ha:PT X a (g8 X.K f E)):PW X (.BoolOp .Or [a] pos) (g8 X.K f E):=KV ha
theorem GR{f g:Dn->M Bool}(ha:PT X a (g8 X.K f E))(d:PW X (.BoolOp .And (b::rest) pos) (g8 X.K g E)):PW X (.BoolOp .And (a::b::rest) pos) (g8 X.K (mQ f g) E):=(KW ha d).imp λ_ _ _=>IW
theorem sF{f g:Dn->M Bool}(ha:PT X a (g8 X.K f E))(d:PW X (.BoolOp .Or (b::rest) pos) (g8 X.K g E)):PW X (.BoolOp .Or (a::b::rest) pos) (g8 X.K (lH f g) E):=(NA ha d).imp λ_ _ _=>Ki
theorem jj{e:Expr}{f:Dn->M Bool}(h:PW X e (g8 X.K f E)):PT X e (g8 X.K f E):=PW.pt h
theorem GS{op}{f:FD}(h:PE X a (tV X.K f E)):PE X (.BoolOp op [a] pos) (tV X.K f E):=K6 h
theorem run.asB{F:Fx}{k:Bool->M D}{H:Hp}(hd:c_ K F H d v)(h:run (c_ K F) F E σ (M.bind (M.ofO (asB d)) k) H Q β):∃c,v= .bl c/\run (c_ K F) F E σ (k c) H Q β:=by
 obtain⟨c,e,h⟩:=run.ofO_bind h;rw[iC e]at hd;exact⟨c,hd,h⟩
theorem GT{f g:FD}(ha:PE X a (tV X.K f E))(m:PE X (.BoolOp .And (b::rest) pos) (tV X.K g E)):PE X (.BoolOp .And (a::b::rest) pos) (tV X.K (xD f g) E):=
 (K9 ha m).imp λo H Q j=>lg j λF δ β fr l h=>⟨F,δ,β,fr,l,(run.bind (R:=c_ X.K F) h).mono λv q j=>by
  obtain⟨d,β1,t,hd,r1⟩:=j;obtain⟨c,e,i⟩:=run.asB hd r1;refine⟨c,e,?_⟩;cases c with
  |true=>rw[OE rfl]at i⊢;exact⟨F,δ,β1,t.fr,l.tr (t.tr fr),i⟩
  |false=>rw[OC OH]at i⊢;exact run.ret t.fr i rfl⟩
theorem Zs{f g:FD}(l:PT X c (g8 X.K t E))(ha:PE X a (tV X.K f E))(m:PE X b (tV X.K g E)):PE X (.IfExp c a b pos) (tV X.K (YF t f g) E):=
 (BY l ha m).imp λo H Q i=>lg i λF δ β fr j h=>⟨F,δ,β,fr,j,(run.bind (R:=λ_ (a b:Bool)=>b=a) h).mono λv q i=>by
  obtain⟨d,β1,t,hd,r1⟩:=i;subst hd;cases v with
  |true=>rw[OE rfl]at r1⊢;exact⟨F,δ,β1,t.fr,j.tr (t.tr fr),r1⟩
  |false=>rw[OC OH]at r1⊢;exact⟨F,δ,β1,t.fr,j.tr (t.tr fr),r1⟩⟩
noncomputable def YJ:D->Option String
 | .non=>on "NoneType"| .bl _=>on "bool"| .int _=>on "int"| .str _=>on "str"| .lst _=>on "list"| .tup _=>on "tuple"|_=>Om
noncomputable def xj:String->String->Option Bool
 |"int","str"=>on Ov|"int","bool"=>on Ov|"int","list"=>on Ov|"int","tuple"=>on Ov|"int","int"=>on Oq
 |"bool","str"=>on Ov|"bool","bool"=>on Oq|"bool","list"=>on Ov|"bool","tuple"=>on Ov
 |"str","str"=>on Oq|"str","bool"=>on Ov|"str","list"=>on Ov|"str","tuple"=>on Ov
 |"NoneType","str"=>on Ov|"NoneType","bool"=>on Ov|"NoneType","list"=>on Ov|"NoneType","tuple"=>on Ov
 |"list","list"=>on Oq|"list","tuple"=>on Ov|"list","str"=>on Ov|"list","bool"=>on Ov
 |"tuple","list"=>on Ov|"tuple","tuple"=>on Oq|"tuple","str"=>on Ov|"tuple","bool"=>on Ov
 |_,_=>Om
noncomputable def xi:String->String->String->Option Bool
 |"int","list","tuple"=>on Ov|"bool","list","tuple"=>on Ov|"str","list","tuple"=>on Ov|"NoneType","list","tuple"=>on Ov|"list","list","tuple"=>on Oq|"tuple","list","tuple"=>on Oq
 |"int","int","str"=>on Oq|"bool","int","str"=>on Oq|"str","int","str"=>on Oq|"NoneType","int","str"=>on Ov|"list","int","str"=>on Ov|"tuple","int","str"=>on Ov
 |_,_,_=>Om
theorem JK{a b:String}{c:Bool}(h:xj a b=on c):kitOne K (.type a) (.type b)=on c:=by
 unfold xj at h;split at h<;>first|(cases h;kernel_rfl)|cases h
theorem JJ{a b d:String}{c:Bool}(h:xi a b d=on c):Yj K (.type a) ([b,d].map Ry)=on c:=by
 unfold xi at h;split at h<;>first|(cases h;kernel_rfl)|cases h
def TyG(K:OX)(H:Hp)(x:V)(t:Oy):Prop:=nq K H x t\/(∃a ys,x= .ref a/\fx K H a ys/\t= .type "list")\/(∃a ys,x= .ref a/\i_ K H a ys/\t= .type "tuple")
def HK(K:OX):List V->Hp->VK->Prop:=λxs H Q=>∃x c t b,xs=[x,.ty c]/\TyG K H x t/\kitOne K t (.type c)=on b/\Q (.bl b) H
theorem z9:cP X (.builtin "isinstance") (HK X.K):=by
 intro j s u H xs us Q I r h;obtain⟨x,c,t,b,rfl,ty,e,q⟩:=h;cases r with
 |cons r1 d=>
  cases d with
  |cons d m=>
   cases m;cases d;rcases ty with ty|⟨a,ys,rfl,sq,rfl⟩|⟨a,ys,rfl,sq,rfl⟩
   .exact zH I r1 ty e λl=>⟨.bl b,H,I.tok _,rfl,q⟩
   .cases r1
    obtain⟨its,_,pl,_⟩:=I.list sq;obtain⟨o,g,i,_⟩:=pl.isList;exact UE Vv I.kIn ⟨o,g,i⟩ e (λz=>nomatch z) λl=>⟨.bl b,H,I.tok _,rfl,q⟩
   .cases r1
    obtain⟨its,_,pl,_⟩:=I.tuple sq;obtain⟨o,g,i,_⟩:=pl;exact UE Xa I.kIn ⟨o,g,i⟩ e (λz=>nomatch z) λl=>⟨.bl b,H,I.tok _,rfl,q⟩
theorem x3{F:Fx}{H:Hp}(h:YJ d=on t)(hd:c_ K F H d v):TyG K H v (.type t):=by
 cases d with
 |non=>cases h;cases hd.non;exact .inl .non
 |bl b=>cases h;cases hd.bl;exact .inl (.bl b)
 |int b=>cases h;cases hd.int;exact .inl (.int b)
 |str b=>cases h;cases hd.str;exact .inl (.str b)
 |lst ds=>cases h;obtain⟨a,xs,rfl,sq,_⟩:=c_.sqL hd;exact .inr (.inl ⟨a,xs,rfl,sq,rfl⟩)
 |tup ds=>cases h;obtain⟨a,xs,rfl,sq,_⟩:=c_.sqT hd;exact .inr (.inr ⟨a,xs,rfl,sq,rfl⟩)
 |_=>cases h
def iu:List D->Option D
 |[x,.ty c]=>(YJ x).bind λt=>(xj t c).map D.bl
 |_=>Om
theorem NV:dF K (HK K) iu:=λF H β Q ds d vs fr h e k=>by
 unfold iu at e;split at e
 .rename_i x c
  cases q:YJ x with
  |none=>rw[q]at e;cases e
  |some t=>
   rw[q]at e;simp only[Rc]at e;cases q2:xj t c with
   |none=>rw[q2]at e;cases e
   |some b=>
    rw[q2]at e;cases e;obtain⟨v,w,rfl,g,i⟩:=bb.two h;cases i.ty;exact⟨v,c,_,b,rfl,x3 q g,JK q2,k _ H (To.refl fr) rfl⟩
 .cases e
def yG(K:OX):List V->Hp->VK->Prop:=λxs H Q=>∃(x:V) (tp:Ou) (cs:List String) (t:Oy) (b:Bool),xs=[x,.ref tp]/\i_ K H tp (cs.map V.ty)/\TyG K H x t/\Yj K t (cs.map Ry)=on b/\Q (.bl b) H
theorem pT:cP X (.builtin "isinstance") (yG X.K):=by
 intro m s P H xs us Q I r h;obtain⟨x,tp,cs,t,b,rfl,A,ty,e,q⟩:=h;cases r with
 |cons r1 B=>
  cases B with
  |cons B R=>
   cases R;cases B;obtain⟨its,T,⟨⟨oc,U,W,Y⟩,g,u,n,j⟩,_⟩:=I.tuple A;rw[xY T]at j
   dsimp only at u j
   subst u j;have d:∀N,EP X m P Q (.bool b) {s with toks:=N}:=λN=>⟨.bl b,H,I.tok _,rfl,q⟩;rcases ty with ty|⟨a,ys,rfl,sq,rfl⟩|⟨a,ys,rfl,sq,rfl⟩
   .cases ty with
    |non=>cases r1;exact UF Xn I.kIn Sa g e (λz=>nomatch z) d
    |bl y=>cases r1;exact UF Xm I.kIn Sa g e (λz=>nomatch z) d
    |int i=>obtain⟨t,rfl⟩:=r1;exact UF XB I.kIn Sa g e (λz=>nomatch z) d
    |str y=>obtain⟨t,rfl⟩:=r1;exact UF XE I.kIn Sa g e (λz=>nomatch z) d
    |@lst a xs ea=>
     cases r1;obtain⟨_,_,n,_,v⟩:=(show bF X.prog X.w H s.heap a (.lst xs)from I.hok a _ ea);exact UF Vv I.kIn ⟨_,v,rfl⟩ g e (λz=>nomatch z) d
    |@frz a ob xs ea=>
     cases r1;obtain⟨_,_,_,n,_,v⟩:=(show bF X.prog X.w H s.heap a (.frz ob (.lst xs))from I.hok a _ ea);exact UF Vv I.kIn ⟨_,v,rfl⟩ g e (λz=>nomatch z) d
    |@tup a xs ea=>
     cases r1;obtain⟨_,_,_,p⟩:=(show bF X.prog X.w H s.heap a (.tup xs)from I.hok a _ ea);obtain⟨o,v,Z,_⟩:=p;exact UF Xa I.kIn ⟨o,v,Z⟩ g e (λz=>nomatch z) d
    |@ins a C dx fs ea cl ha hn htk hm=>
     cases r1;obtain⟨mA,O,_⟩:=jw I.hok ea;obtain⟨U,J,_⟩:=O.look;exact UF (XD (cl.get _) cl.hd ha hn htk hm) I.kIn J g e (λz=>nomatch z) d
   .cases r1
    obtain⟨its,_,pl,_⟩:=I.list sq;obtain⟨o,l,L,_⟩:=pl.isList;exact UF Vv I.kIn ⟨o,l,L⟩ g e (λz=>nomatch z) d
   .cases r1
    obtain⟨its,_,pl,_⟩:=I.tuple sq;obtain⟨o,l,L,_⟩:=pl;exact UF Xa I.kIn ⟨o,l,L⟩ g e (λz=>nomatch z) d
def rT:List D->Option D
 |[x,.tup [.ty a,.ty b]]=>(YJ x).bind λt=>(xi t a b).map D.bl
 |_=>Om
theorem zy:dF K (yG K) rT:=λF H β Q ds d vs fr h e k=>by
 unfold rT at e;split at e
 .rename_i x a b
  cases q:YJ x with
  |none=>rw[q]at e;cases e
  |some t=>
   rw[q]at e;simp only[Rc]at e;cases q2:xi t a b with
   |none=>rw[q2]at e;cases e
   |some c=>
    rw[q2]at e;cases e;obtain⟨v,w,rfl,g,i⟩:=bb.two h;obtain⟨p,xs,rfl,sq,j⟩:=c_.sqT i;obtain⟨y,z,rfl,l,m⟩:=bb.two j;cases l.ty;cases m.ty;exact⟨v,p,[a,b],_,c,rfl,sq,x3 q g,JJ q2,k _ H (To.refl fr) rfl⟩
 .cases e
def up(K:OX)(J:It)(F:Fx)(H:Hp)(ds:List D):Prop:=∀(h:Fx) (g:Hp) (β2:Bg),Tr F H h g->Fr h g β2->∀i,(∀d,ds[i]?=on d->J.go i g/\∀x j,J.yld i g x j->bJ g j/\c_ K h j d x)/\(i=ds.length->J.stop i g)
theorem up.tr{K:OX}{F d:Fx}{H g:Hp}(t:Tr F H d g)(h:up K J F H ds):up K J d g ds:=λi j β3 l fr=>h i j β3 (t.trans l) fr
def iV(K:OX)(f:FL)(E:St->XK):TI:=λd H R=>∃F δ β,Fr F H β/\j0 K F H δ d/\run (λg (ds:List D) (J:It)=>up K J F g ds) F E d (f δ) H R β
theorem _root_.L2.PI.imp{X:Cx}{tg e:Expr}(h:PI X tg e t)(f:∀d H Q,t' d H Q->t d H Q):PI X tg e t':=λg s d H Q I q=>h g s d H Q I (f d H Q q)
variable{tg:Expr}
def LE(K:OX)(g:TE):TI:=λh H R=>g h H λx d=>(∃a,x= .ref a/\(∃xs,fx K d a xs)/\R (YX K a) d)\/(∃a,x= .ref a/\(∃xs,i_ K d a xs)/\R (Itt K a) d)
theorem yO(t:PE X l tl):PI X tg l (LE X.K tl):=by
 intro g s u H R I h;refine eo (t g s u H _ I h) λv d ⟨x,m,i,r1,q1⟩=>?_;have j:∀b∈[d.heap.objs.size],eL X g m b:=λb w=>by
  obtain rfl:b=d.heap.objs.size:=by simpa using w
  exact i.fpOk (OG _) (i.hok.fresh (OG _))
 rcases q1 with⟨a,e,⟨xs,r⟩,q⟩|⟨a,e,⟨xs,r⟩,q⟩
 .subst e
  cases r1;obtain⟨its,y,p,A⟩:=i.list r;exact UG p.isList ⟨d.heap.objs.size,[d.heap.objs.size],_,_,m,rfl,i.kept (t':=d.toks) λb o e=>Oo _ e,qE a _,⟨_,OL _ rfl,rfl,rfl⟩,j,q⟩
 .subst e
  cases r1;obtain⟨its,y,p,A⟩:=i.tuple r;exact VL (show d.heap.IsTuple a its.toArray from p) ⟨d.heap.objs.size,[d.heap.objs.size],_,_,m,rfl,i.kept (t':=d.toks) λb o e=>Oo _ e,wr a _,⟨_,OL _ rfl,rfl,rfl⟩,j,q⟩
theorem uo{F:Fx}{H:Hp}{a:Ou}(h:c_ K F H (.lst ds) (.ref a)):up K (YX K a) F H ds:=λu v β2 t fr i=>by
 have o:=c_.tr t _ _ h;obtain⟨w,xs,e,sq,g⟩:=c_.sqL o;cases e;refine⟨λd hd=>?_,λq=>⟨xs,sq,by rw[<-g.length,q];exact OG _⟩⟩;obtain⟨x,r,_⟩:=g.get hd;refine⟨⟨xs,x,sq,r⟩,λy A j=>?_⟩;obtain⟨rfl,j⟩:=j;obtain⟨d',m,l⟩:=g.getV (j xs sq);rw[hd]at m;cases m;exact⟨bJ.refl _,l⟩
theorem vO{F:Fx}{H:Hp}{a:Ou}(h:c_ K F H (.tup ds) (.ref a)):up K (Itt K a) F H ds:=λu v β2 t fr i=>by
 have o:=c_.tr t _ _ h;obtain⟨w,xs,e,sq,g⟩:=c_.sqT o;cases e;refine⟨λd hd=>?_,λq=>⟨xs,sq,by rw[<-g.length,q];exact OG _⟩⟩;obtain⟨x,r,_⟩:=g.get hd;refine⟨⟨xs,x,sq,r⟩,λy A j=>?_⟩;obtain⟨rfl,j⟩:=j;obtain⟨d',m,l⟩:=g.getV (j xs sq);rw[hd]at m;cases m;exact⟨bJ.refl _,l⟩
def di(f:FD):FL:=λδ=>M.bind (f δ) λd=>M.ofO (cY d)
theorem aR{f:FD}(j:PE X l (tV X.K f E)):PI X tg l (iV X.K (di f) E):=
 (yO j).imp λq H R g=>lg g λF δ β fr m h=>⟨F,δ,β,fr,m,(run.bind (R:=c_ X.K F) h).mono λv i g=>by
  obtain⟨d,β1,t,hd,r1⟩:=g;obtain⟨ds,e,k⟩:=run.ofO r1;cases d<;>first
   |(cases e;obtain⟨a,xs,rfl,sq,o⟩:=c_.sqL hd;exact .inl ⟨a,rfl,⟨xs,sq⟩,k _ i (To.refl t.fr) (uo hd)⟩)
   |(cases e;obtain⟨a,xs,rfl,sq,o⟩:=c_.sqT hd;exact .inr ⟨a,rfl,⟨xs,sq⟩,k _ i (To.refl t.fr) (vO hd)⟩)
   |cases e⟩
noncomputable def aZ(lo:Int)(n:Nat):List D:=(OB n).map λ(i:Nat)=> .int (lo+(i:Int))
theorem qX{F:Fx}{H:Hp}{lo:Int}{n:Nat}:up K (YW lo n) F H (aZ lo n):=λl m β2 t fr i=>by
 refine⟨λd hd=>?_,λg=>?_⟩
 .unfold aZ at hd
  have g:i<n:=by
   have:=(OI.mp hd).1;simpa using this
  rw[Ox,Pz g]at hd;cases hd;exact⟨g,λx o ⟨h,j⟩=>by subst h j;exact⟨bJ.refl _,rfl⟩⟩
 .show n<=i
  rw[g];simp[aZ]
def fU:List D->Option (List D)
 |[.int j]=>if(decide (-(2^62)<=j)&&decide (j<2^62))=Oq then on (aZ 0 j.toNat)else Om
 |_=>Om
def nG:List D->Option (List D)
 |[.int i,.int j]=>if(decide (-(2^62)<=i)&&decide (i<2^62)&&decide (-(2^62)<=j)&&decide (j<2^62))=Oq then on (aZ i (j-i).toNat)else Om
 |_=>Om
def cZ(op:List D->Option (List D))(g:FL):FL:=λδ=>M.bind (g δ) λas=>M.ofO (op as)
theorem cw{a:Expr}{p pos:TK}(j:Gl X "range")(hm:X.mg "range"=Om)(ha:PA X [a] (js X.K g E))(hs:OM [a] X.env=[(Ov,P0 a X.env)]:=by rfl):PI X tg (.Call (.Name "range" p) [a] [] pos) (iV X.K (cZ fU g) E):=
 (yR j hm ha hs).imp λr H R d=>lg d λF δ β fr m h=>⟨F,δ,β,fr,m,(run.bind (R:=bb X.K F) h).mono λvs o d=>by
  obtain⟨ds,β1,t,hd,r1⟩:=d;obtain⟨l,e,k⟩:=run.ofO r1;unfold fU at e;split at e
  .split at e
   .rename_i i
    cases e;simp only[Pc,Pq]at i;obtain⟨v,rfl,q⟩:=bb.one hd;cases q.int;exact⟨_,rfl,i.1,i.2,k _ o (To.refl t.fr) qX⟩
   .cases e
  .cases e⟩
theorem j7{a b:Expr}{p pos:TK}(m:Gl X "range")(hm:X.mg "range"=Om)(ha:PA X [a,b] (js X.K g E))(hs:OM [a,b] X.env=[(Ov,P0 a X.env),(Ov,P0 b X.env)]:=by rfl)(i:OM [b] X.env=[(Ov,P0 b X.env)]:=by rfl):PI X tg (.Call (.Name "range" p) [a,b] [] pos) (iV X.K (cZ nG g) E):=
 (yQ m hm ha hs i).imp λy H R j=>lg j λF δ β fr o h=>⟨F,δ,β,fr,o,(run.bind (R:=bb X.K F) h).mono λvs q j=>by
  obtain⟨ds,β1,t,hd,r1⟩:=j;obtain⟨l,e,k⟩:=run.ofO r1;unfold nG at e;split at e
  .split at e
   .rename_i d
    cases e;simp only[Pc,Pq]at d;obtain⟨v,w,rfl,r,u⟩:=bb.two hd;cases r.int;cases u.int;exact⟨_,_,rfl,⟨d.1.1.1,d.1.1.2,d.1.2,d.2⟩,k _ q (To.refl t.fr) qX⟩
   .cases e
  .cases e⟩
abbrev mm:=D->Dn->Option Dn
abbrev iD:=List D->Dn->Option Dn
def ck(K:OX)(g:TG)(tg:mm):Prop:=∀(F:Fx) (H:Hp) (δ δ1:Dn) (i:St) (d:D) (v:V) (Q:St->Hp->Prop),j0 K F H δ i->c_ K F H d v->tg d δ=on δ1->(∀h,j0 K F H δ1 h->Q h H)->g v i H Q
def pZ(K:OX)(g:O2)(tg:iD):Prop:=∀(F:Fx) (H:Hp) (δ δ1:Dn) (h:St) (ds:List D) (vs:List V) (Q:St->Hp->Prop),j0 K F H δ h->bb K F H ds vs->tg ds δ=on δ1->(∀d,j0 K F H δ1 d->Q d H)->g vs h H Q
noncomputable def i4(i:Nat):mm:=λd δ=>if(δ.getD i (on .non)).isNone then on (δ.set i (on d))else Om
noncomputable def jJ:iD:=λds δ=>match ds with
 |[]=>on δ
 |_=>Om
noncomputable def eY(t:mm)(u:iD):iD:=λds δ=>match ds with
 |[]=>Om
 |d::r=>(t d δ).bind λδ1=>u r δ1
noncomputable def O_(t:iD):mm:=λd δ=>match d with
 | .tup ds=>t ds δ
 |_=>Om
theorem sK{δ δ1:Dn}(h:i4 i d δ=on δ1):δ[i]?=on Om/\δ1=δ.set i (on d):=by
 unfold i4 at h;split at h
 .rename_i q
  cases h;refine⟨?_,rfl⟩;rw[Op]at q;cases e:δ[i]? with
  |none=>rw[e]at q;cases q
  |some z=>
   rw[e]at q;cases z with
   |none=>rfl
   |some w=>cases q
 .cases h
theorem am:ck K (dE i) (i4 i):=λF H δ δ1 h d v Q g hd e k=>by
 obtain⟨_,rfl⟩:=sK e;exact k _ (g.set hd)
theorem cW:pZ K gNil jJ:=λF H δ δ1 g ds vs Q d hd e k=>by
 cases ds with
 |nil=>cases e;exact⟨hd,k _ d⟩
 |cons _ _=>cases e
theorem aW(m:ck K t tf)(o:pZ K u uf):pZ K (xu t u) (eY tf uf):=λF H δ δ1 v ds vs Q w hd e k=>by
 cases ds with
 |nil=>cases e
 |cons d r=>
  obtain⟨x,l,rfl,y,A⟩:=hd;have h:(tf d δ).bind (λδ1=>uf r δ1)=on δ1:=e;cases q:tf d δ with
  |none=>rw[q]at h;cases h
  |some g=>
   rw[q]at h;exact⟨x,l,rfl,m F H δ g v d x _ w y q λi j=>o F H g δ1 i r l Q j A h k⟩
theorem dI{n:Nat}(h:pZ K t tf)(hn:∀ds δ δ1,tf ds δ=on δ1->ds.length=n):ck K (DL K n t) (O_ tf):=λF H δ δ1 i d v Q j hd e k=>by
 cases d<;>first
  |(obtain⟨a,xs,rfl,sq,g⟩:=c_.sqT hd;exact⟨a,xs,rfl,sq,by rw[<-g.length];exact hn _ _ _ e,h F H δ δ1 i _ xs Q j g e k⟩)
  |cases e
theorem cq:∀ds δ δ1,jJ ds δ=on δ1->ds.length=0:=λds δ δ1 h=>by
 cases ds with
 |nil=>rfl
 |cons _ _=>cases h
theorem aU{n:Nat}(h:∀ds δ δ1,u ds δ=on δ1->ds.length=n):∀ds δ δ1,eY t u ds δ=on δ1->ds.length=n+1:=λds δ δ1 e=>by
 cases ds with
 |nil=>cases e
 |cons d r=>
  have g:(t d δ).bind (λδ1=>u r δ1)=on δ1:=e;cases q:t d δ with
  |none=>rw[q]at g;cases g
  |some i=>rw[q]at g;rw[OR,h _ _ _ g]
def dm(tg:mm):Prop:=∀d δ δ1,tg d δ=on δ1->Sub δ δ1/\δ.length=δ1.length
def sj(tg:iD):Prop:=∀d δ δ1,tg d δ=on δ1->Sub δ δ1/\δ.length=δ1.length
theorem ar:dm (i4 i):=λd δ δ1 e=>by
 obtain⟨q,rfl⟩:=sK e;refine⟨λj c g=>?_,by rw[Qc]⟩;rw[Qm];by_cases z:i=j
 .subst z;rw[q]at g;cases g
 .rw[OC z];exact g
theorem cS:sj jJ:=λds δ δ1 e=>by
 cases ds with
 |nil=>cases e;exact⟨λ_ _ h=>h,rfl⟩
 |cons _ _=>cases e
theorem aV(j:dm t)(l:sj u):sj (eY t u):=λds δ δ1 e=>by
 cases ds with
 |nil=>cases e
 |cons d r=>
  have g:(t d δ).bind (λδ1=>u r δ1)=on δ1:=e;cases q:t d δ with
  |none=>rw[q]at g;cases g
  |some m=>
   rw[q]at g;obtain⟨a1,a2⟩:=j _ _ _ q;obtain⟨b1,b2⟩:=l _ _ _ g;exact⟨λi c h=>b1 i c (a1 i c h),a2.trans b2⟩
theorem dH(h:sj t):dm (O_ t):=λd δ δ1 e=>by
 cases d<;>first|exact h _ _ _ e|cases e
structure ms (F:Fx) (D:Ou) (H H':Hp) (β':Bg):Prop where
 kp:∀a o,H a=on o->a≠D->(∀b l,F.bg=on (b,l)->a≠b/\a≠l)->H' a=on o
 fr:Fr F H' β'
theorem ms.trans{F:Fx}{D:Ou}{H d g:Hp}(a:ms F D H d β1)(b:ms F D d g β2):ms F D H g β2:=⟨λx o h n m=>b.kp x o (a.kp x o h n m) n m,b.fr⟩
theorem To.toD{F:Fx}{H d:Hp}(t:To F H d β')(D:Ou):ms F D H d β':=⟨λa o h _ m=>t.kp a o h m,t.fr⟩
theorem ms.tr{F:Fx}{D:Ou}{H d:Hp}(fr:Fr F H β)(g:F.A D)(t:ms F D H d β'):Tr F H F d:=
 ⟨λ_ h _=>h,λa o h e=>t.kp a o e (λz=>h (z▸g)) λb l q=>⟨λz=>h (z▸(fr.bgA b l q).1),λz=>h (z▸(fr.bgA b l q).2.1)⟩,rfl⟩
structure AR where
 R:Fx->Hp->Ou->List Pu.D->Prop
 Z:List Pu.D->Prop
 tr:∀{F F2:Fx} {H H':Hp} {D:Ou} {as:List Pu.D},R F H D as->(∀o,H D=on o->H' D=on o)->Tr F H F2 H'->R F2 H' D as
 zp:∀{as os:List Pu.D},Z (as++os)->Z as
noncomputable def RL(K:OX):AR where
 R:=λF H D as=>∃acc,H D=on (.lst acc)/\bb K F H as acc
 Z:=λl=>l.length<=OV
 tr:=λh k t=>by
  obtain⟨acc,d,g⟩:=h;exact⟨acc,k _ d,bb.tr t _ _ g⟩
 zp:=λh=>by rw[OQ]at h;omega
def d6(K:OX)(R:AR)(D:Ou)(j:TB)(f:Dn->M (List Pu.D)):Prop:=∀(F:Fx) (H:Hp) (δ:Dn) (β d:Bg) (i:St) (as os:List Pu.D) (Q:St->Hp->Prop),Fr F H β->F.A D->(∀b l,F.bg=on (b,l)->D≠b/\D≠l)->j0 K F H δ i->R.R F H D as->
 f δ β=on (.ok os,d)->R.Z (as++os)->(∀g h,ms F D H h d->j0 K F h δ g->R.R F h D (as++os)->Q g h)->j i H Q
abbrev i5(K:OX):=d6 K (RL K)
def ln(f:Dn->M Pu.D):Dn->M (List Pu.D):=λδ=>M.bind (f δ) λd=>M.ret [d]
theorem M.bind_inv{α g:Type}{m:M α}{k:α->M g}{β d:Bg}{r:g}(h:M.bind m k β=on (.ok r,d)):∃a β1,m β=on (.ok a,β1)/\k a β1=on (.ok r,d):=by
 unfold M.bind at h;split at h
 .cases h
 .cases h
 .rename_i a β1 e
  exact⟨a,β1,e,h⟩
theorem E0.run{α i:Type}{R:Hp->α->i->Prop}{F:Fx}{j:St}{m:M α}{H:Hp}{Q:i->Hp->Prop}{β d:Bg}{a:α}(e:m β=on (.ok a,d))(h:∀v g,To F H g d->R g a v->Q v g):run R F E0 j m H Q β:=⟨.ok a,d,e,h⟩
theorem aJ{D:Ou}{f:Dn->M Pu.D}:i5 K D (xK D (tV K f E0)) (ln f):=λF H δ β g w as os Q fr y i m A e B k=>by
 obtain⟨acc,C,hd⟩:=A;obtain⟨d,β1,I,J⟩:=M.bind_inv e;cases J;refine⟨F,δ,β,fr,m,E0.run I λv r t L=>?_⟩;have j:=t.kp D _ C i;have N:=bb.tr (t.tr fr) _ _ hd;refine⟨acc,j,by rw[<-hd.length];have:=(show(as++[d]).length<=OV from B);simp at this;omega,?_⟩;have u:ms F D r (upd r D (.lst (acc++[v]))) g:=by
  refine⟨λa o h n _=>by rw[bt n];exact h,λa h q=>?_,fr.bgA,λb l q=>?_⟩
  .by_cases z:a=D
   .subst z;rw[aj]at q;cases q
   .rw[bt z]at q;exact t.fr.occ a h q
  .rw[bt (i b l q).1.symm,bt (i b l q).2.symm]
   exact t.fr.bag b l q
 have tt:=u.tr t.fr y;exact k w _ ((t.toD D).trans u) (m.tr ((t.tr fr).trans tt)) ⟨_,aj,bb.append (bb.tr tt _ _ N) ⟨v,[],rfl,c_.tr tt _ _ L,rfl⟩⟩
def nj(tg:mm)(tt:Dn->M Bool)(b:Dn->M (List Pu.D)):List Pu.D->Dn->M (List Pu.D)
 |[],_=>M.ret []
 |d::ds,δ=>match tg d δ with
  |none=>M.fail
  |some δ1=>M.bind (tt δ1) λc=>M.bind (if c=Oq then b δ1 else M.ret []) λo=>M.bind (nj tg tt b ds δ) λos=>M.ret (o++os)
theorem mC{R:AR}{D:Ou}{tg:mm}{b:Dn->M (List Pu.D)}(hg:ck K g tg)(sg:dm tg)(hb:d6 K R D tb b){F:Fx}{H:Hp}{as os ds:List Pu.D}(fr:Fr F H β)(hA:F.A D)(hn:∀b l,F.bg=on (b,l)->D≠b/\D≠l)(vk:j0 K F H δ σ)(hR:R.R F H D as)
  (it:up K J F H ds) (e:nj tg tt b ds δ β=on (.ok os,β')) (hz:R.Z (as++os)) (k:∀j t,ms F D H t β'->j0 K F t δ j->R.R F t D (as++os)->Q j t):cN J g (g8 K tt E0) tb σ H Q:=by
 refine⟨λi m j t=>m+i=ds.length/\∃β1 r v,ms F D H t β1/\j0 K F t δ j/\R.R F t D r/\nj tg tt b (ds.drop i) δ β1=on (.ok v,β')/\r++v=as++os,
  ⟨ds.length,by omega,β,as,os,⟨λ_ _ h _ _=>h,fr⟩,vk,hR,e,rfl⟩,?_⟩
 rintro i m j t ⟨hm,β1,r,v,B,C,I,u,ea⟩;have tr1:=B.tr fr hA;obtain⟨iy,is⟩:=it F t β1 tr1 B.fr i;cases T:ds[i]? with
 |none=>
  have U:ds.length<=i:=T6.mp T;rw[RG U]at u;cases u;refine .inl ⟨is (by omega),k j t B C ?_⟩;rw[<-ea,Pi];exact I
 |some d=>
  have U:i<ds.length:=(OI.mp T).1;obtain⟨go,yl⟩:=iy d T;have ed:ds.drop i=d::ds.drop (i+1):=by
   rw[Qa U];congr 1;exact Pb ((Os U).symm.trans T)
  rw[ed]at u;unfold nj at u;cases q:tg d δ with
  |none=>rw[q]at u;cases u
  |some δ1=>
   rw[q]at u;obtain⟨c,β2,e2,e3⟩:=M.bind_inv u;obtain⟨o,β3,W,e5⟩:=M.bind_inv e3;obtain⟨os2,β4,e6,e7⟩:=M.bind_inv e5;cases e7;obtain⟨s1,s2⟩:=sg _ _ _ q;refine .inr ⟨go,λL Y=>ms F D H Y β3/\j0 K F Y δ L/\R.R F Y D (r++o),?_,λx H2 hy=>?_⟩
   .rintro L Y ⟨t9,vk9,hR9⟩
    exact⟨m-1,by omega,by omega,β3,r++o,os2,t9,vk9,hR9,e6,by rw[PZ];exact ea⟩
   .obtain⟨sm,dx⟩:=yl x H2 hy
    have t2:To F t H2 β1:=B.fr.same sm;have N:=t2.tr B.fr;refine hg F H2 δ δ1 j d x _ (C.tr N) dx q λσ2 w=>⟨F,δ1,β1,t2.fr,w,E0.run e2 λc' H3 t3 ec=>?_⟩;subst ec;have y:=t3.tr t2.fr;have O:=R.tr I (λo z=>t3.kp D o (sm _ _ z) hn) (N.trans y);have P:ms F D H H3 β2:=B.trans ((t2.trans t3).toD D);have hle:R.Z (r++o):=by
     rw[<-ea,<-PZ]at hz;exact R.zp hz
    cases c' with
    |true=>
     rw[OE rfl]at W⊢;refine hb F H3 δ1 β2 β3 σ2 r o _ t3.fr hA hn (w.tr y) O W hle λσ4 H4 t4 vk4 hR4=>?_;exact⟨P.trans t4,vk4.sub s1 s2,hR4⟩
    |false=>
     rw[OC OH]at W⊢;cases W;exact⟨P,(w.tr y).sub s1 s2,by rw[Pi];exact O⟩
def YG(it:Dn->M (List Pu.D))(tg:mm)(tt:Dn->M Bool)(b:Dn->M (List Pu.D)):Dn->M (List Pu.D):=λδ=>M.bind (it δ) λds=>nj tg tt b ds δ
theorem nQ{D:Ou}{tg:mm}{b:Dn->M (List Pu.D)}(j:ck K g tg)(l:dm tg)(m:d6 K R D tb b):d6 K R D (xJ (iV K it E0) λJ=>cN J g (g8 K tt E0) tb) (YG it tg tt b):=λF H δ β q C as os Q fr r hn h u e v k=>by
 obtain⟨ds,β1,w,y⟩:=M.bind_inv e;refine⟨F,δ,β,fr,h,E0.run w λJ i t A=>?_⟩;exact mC j l m t.fr r hn (h.tr (t.tr fr)) (R.tr u (λo z=>t.kp D o z hn) (t.tr fr)) A y v λd i B=>k d i ((t.toD D).trans B)
theorem JI{D:Ou}{tg:mm}{b:Dn->M (List Pu.D)}(d:ck K g tg)(h:dm tg)(i:i5 K D tb b):i5 K D (xJ (iV K it E0) λJ=>cN J g (g8 K tt E0) tb) (YG it tg tt b):=nQ d h i
noncomputable def lj(nv:Nat)(c4:List Nat)(δ:Dn):Dn:=O0 nv Om++c4.map λj=>δ.getD j Om
def ci(nv:Nat)(c4:List Nat)(it:Dn->M (List Pu.D))(tg:mm)(tt:Dn->M Bool)(b:Dn->M (List Pu.D)):Dn->M Pu.D:=λδ β=>match it δ β with
 |none=>Om
 |some (.error C,β1)=>on (.error C,β1)
 |some (.ok ds,β1)=>match nj tg tt b ds (lj nv c4 δ) β1 with
  |some (.ok os,β2)=>if os.length<=OV then on (.ok (.lst os),β2)else Om
  |_=>Om
theorem pU{F:Fx}{H:Hp}{dq:List Pn}(h:j0 K F H δ σ):j0 K F H (lj dq.length c4 δ) (jA dq c4 σ):=by
 refine⟨by simp[lj,jA],λi d e=>?_⟩;unfold lj at e;unfold jA;rw[UT]at e⊢;rw[Qz]at e⊢;by_cases g:i<dq.length
 .rw[OE g,Q4,OE g]at e
  cases e
 .rw[OC g,Ox]at e⊢
  cases q:c4[i-dq.length]? with
  |none=>rw[q]at e;cases e
  |some j=>
   rw[q]at e;simp only[QO,Wu]at e⊢;rw[Op]at e;cases z:δ[j]? with
   |none=>rw[z]at e;cases e
   |some w=>
    rw[z]at e;have l:w=on d:=e;subst l;obtain⟨v,m,o⟩:=h.tell j d z;exact⟨v,by rw[Op,m];rfl,o⟩
theorem sL{dq:List Pn}{c4:List Nat}{it:Dn->M (List Pu.D)}{g:TG}{tg:mm}{tt:Dn->M Bool}{P:Ou->TB}{b:Dn->M (List Pu.D)}(Z:ck K g tg)(sg:dm tg)(hb:∀D,i5 K D (P D) b){T:St}{H:Hp}{Q:VK}(h:tV K (ci dq.length c4 it tg tt b) E T H Q):
  oC dq c4 (iV K it E) (λD J=>cN J g (g8 K tt E0) (P D)) T H Q:=by
 obtain⟨F,δ,β,fr,U,r,v,e,h⟩:=h;unfold ci at e;refine⟨F,δ,β,fr,U,?_⟩;split at e
 .cases e
 .rename_i C β1 q
  cases e;exact⟨.error C,_,q,h⟩
 .rename_i ds β1 q
  split at e
  .rename_i os β2 q2
   split at e
   .rename_i hz
    cases e;refine⟨.ok ds,β1,q,λJ u t hJ D i=>?_⟩;have d:¬F.A D:=t.fr.fresh i;have nb:∀b l,F.bg=on (b,l)->D≠b/\D≠l:=λb l z=>⟨λw=>d (w▸(fr.bgA b l z).1),λw=>d (w▸(fr.bgA b l z).2.1)⟩;have W:=t.fr.upd (.lst []) i;have B:Fr ⟨λa=>F.A a\/a=D,F.bg⟩ (upd u D (.lst [])) β1:=by
     refine⟨λa ha z=>?_,λb l z=>let ⟨x,y,w⟩:=fr.bgA b l z;⟨.inl x,.inl y,w⟩,W.fr.bag⟩
     rcases ha with ha|ha
     .exact W.fr.occ a ha z
     .subst ha;rw[aj]at z;cases z
    have j:Tr F u ⟨λa=>F.A a\/a=D,F.bg⟩ (upd u D (.lst [])):=⟨λa ha hs z=>by
     rcases z with z|z
     .exact ha z
     .subst z;exact hs i,λa o ha z=>by rw[bt (ay z i)];exact z,rfl⟩
    refine mC (R:=RL K) (D:=D) (as:=[]) (os:=os) Z sg (hb D) B (.inr rfl) nb (pU (U.tr ((t.tr fr).trans j))) ⟨[],aj,rfl⟩ (hJ.tr j) q2 (show os.length<=OV from hz) λσ1 Y I vk3 L=>?_;obtain⟨m,N,O⟩:=L;have tf:To F u Y v:=by
     refine⟨λa o z n=>I.kp a o (by rw[bt (ay z i)];exact z) (ay z i) n,λa ha z=>I.fr.occ a (Q1 ha) z,fr.bgA,I.fr.bag⟩
    refine h _ Y (t.trans tf) ⟨D,m,rfl,⟨d,.inl N⟩,bb.tr (F:=⟨λa=>F.A a\/a=D,F.bg⟩) ⟨λa ha _ z=>ha (Q1 z),λa o _ z=>z,rfl⟩ _ _ O⟩
   .cases e
  .cases e
inductive Sl where
 |sh (d:D)|own (ds:List D)|grd (ba:List (List D))|odc (b:Bool) (ks:List et) (vs:List D)
abbrev Ds:=List (Option Sl)
inductive sA where
 |nx (δ:Ds)|rt (d:D)|bk (δ:Ds)|ct (δ:Ds)|ex (C:Ou) (δ:Ds)|rg (ba:List (List D))
abbrev G:=Ds->Bg->Option (sA×Bg)
abbrev Ow:=Ou->Option Nat
noncomputable def en(B:Ow)(bg:Option (Ou×Ou)):Fx:=⟨λa=>B a≠Om,bg⟩
noncomputable def pw(B:Ow)(bg:Option (Ou×Ou)):Fx:=⟨λa=>B a=on 0\/B a=on 1,bg⟩
def bi(K:OX)(F:Fx)(H:Hp)(P:Ou->Prop):List (List D)->List Ou->Prop
 |[],[]=>True
 |ds::ba,r::rs=>P r/\(∃xs,H r=on (.lst xs)/\bb K F H ds xs)/\bi K F H P ba rs
 |_,_=>False
theorem bi.tr{K:OX}{F i:Fx}{H d:Hp}(t:Tr F H i d):∀{ba:List (List D)} {rs:List Ou},bi K F H P ba rs->(∀r xs,r∈rs->P r->H r=on (.lst xs)->P2 r/\d r=on (.lst xs))->bi K i d P2 ba rs
 |[],[],_,_=>trivial
 |ds::ba,r::rs,h,f=>by
  obtain⟨j,⟨xs,l,m⟩,o⟩:=h;obtain⟨p,q⟩:=f r xs Oz j l;exact⟨p,⟨xs,q,bb.tr t _ _ m⟩,bi.tr t o λu g v=>f u g (Ot _ v)⟩
 |[],_::_,h,_=>h.elim
 |_::_,[],h,_=>h.elim
theorem bi.all{K:OX}{F:Fx}{H:Hp}:∀{ba:List (List D)} {rs:List Ou},bi K F H P ba rs->∀r∈rs,P r/\∃xs,H r=on (.lst xs)
 |[],[],_,r,hr=>by cases hr
 |ds::ba,r0::rs,h,r,hr=>by
  obtain⟨d,⟨xs,g,j⟩,i⟩:=h;rcases ON.mp hr with rfl|hr
  .exact⟨d,xs,g⟩
  .exact bi.all i r hr
 |[],_::_,h,_,_=>h.elim
 |_::_,[],h,_,_=>h.elim
theorem bi.den{K:OX}{F d:Fx}{H:Hp}(t:Tr F H d H):∀{ba:List (List D)} {rs:List Ou},bi K F H P ba rs->(∀r,r∈rs->P r->¬d.A r)->bb K d H (ba.map D.lst) (rs.map V.ref)
 |[],[],_,_=>rfl
 |ds::ba,r::rs,h,f=>by
  obtain⟨g,⟨xs,i,j⟩,l⟩:=h;exact bb.cons ⟨r,xs,rfl,⟨f r Oz g,.inl i⟩,bb.tr t _ _ j⟩ (bi.den t l λm o=>f m (Ot _ o))
 |[],_::_,h,_=>h.elim
 |_::_,[],h,_=>h.elim
theorem bi.len{K:OX}{F:Fx}{H:Hp}:∀{ba:List (List D)} {rs:List Ou},bi K F H P ba rs->ba.length=rs.length
 |[],[],_=>rfl
 |ds::ba,r::rs,h=>by simp[bi.len h.2.2]
 |[],_::_,h=>h.elim
 |_::_,[],h=>h.elim
def gy(K:OX)(F:Fx)(H0 H:Hp)(ba:List (List D))(v:V):Prop:=∃a rs,v= .ref a/\H0 a=Om/\H a=on (.lst (rs.map V.ref))/\(a::rs).Nodup/\bi K F H (λr=>H0 r=Om) ba rs
def Zn(K:OX)(F:Fx)(H:Hp)(a:Ou)(b:Bool)(ks:List et)(vs:List D):Prop:=∃ep xs,H a=on (cc a b ep xs)/\ks=xs.map (·.1)/\(∀x∈xs,eK K F H b x.1 x.2.1)/\bb K F H vs (xs.map (·.2.2))
theorem Zn.tr{K:OX}{F g:Fx}{H d:Hp}{a:Ou}{b:Bool}(t:Tr F H g d)(h:Zn K F H a b ks vs)(k:∀o,H a=on o->d a=on o):Zn K g d a b ks vs:=by
 obtain⟨ep,xs,i,j,l,m⟩:=h;exact⟨ep,xs,k _ i,j,λx q=>(l x q).tr t,bb.tr t _ _ m⟩
def y4(H:Hp)(a:Ou):Prop:=(∃xs,H a=on (.lst xs))\/∃d,H a=on (.ext d)
theorem y4.imp{H d:Hp}{a:Ou}(h:y4 H a)(k:∀o,H a=on o->d a=on o):y4 d a:=Or.imp (λ⟨xs,z⟩=>⟨xs,k _ z⟩) (λ⟨g,z⟩=>⟨g,k _ z⟩) h
def lX(K:OX)(B:Ow)(bg:Option (Ou×Ou))(H:Hp)(i:Nat):Sl->V->Prop
 | .sh d,v=>c_ K (en B bg) H d v
 | .own ds,v=>∃a xs,v= .ref a/\B a=on (i+2)/\H a=on (.lst xs)/\bb K (en B bg) H ds xs
 | .grd ba,v=>∃a rs,v= .ref a/\B a=on (i+2)/\H a=on (.lst (rs.map V.ref))/\(a::rs).Nodup/\bi K (en B bg) H (λr=>B r=on (i+2)) ba rs
 | .odc b ks vs,v=>∃a,v= .ref a/\B a=on (i+2)/\Zn K (en B bg) H a b ks vs
theorem lX.tr{K:OX}{H g:Hp}(h:lX K B bg H j s v)(t:Tr (en B bg) H (en B2 bg) g)(k:∀c,B c=on (j+2)->B2 c=on (j+2)/\∀o,H c=on o->g c=on o):lX K B2 bg g j s v:=by
 cases s with
 |sh d=>exact c_.tr t _ _ h
 |own cs=>
  obtain⟨c,l,d1,d2,d3,i⟩:=h;exact⟨c,l,d1,(k c d2).1,(k c d2).2 _ d3,bb.tr t _ _ i⟩
 |grd ba=>
  obtain⟨c,rs,d1,d2,d3,i,m⟩:=h;exact⟨c,rs,d1,(k c d2).1,(k c d2).2 _ d3,i,bi.tr t m λr _ _ p q=>⟨(k r p).1,(k r p).2 _ q⟩⟩
 |odc b ks vs=>
  obtain⟨c,d1,d2,d3⟩:=h;exact⟨c,d1,(k c d2).1,d3.tr t (k c d2).2⟩
structure fw (K:OX) (H₀:Hp) (B:Ow) (bg:Option (Ou×Ou)) (H:Hp) (δ:Ds) (β:Bg) (σ:St):Prop where
 fr:Fr (en B bg) H β
 bgt:∀b l,bg=on (b,l)->B b=on 1/\B l=on 1
 len:δ.length=σ.length
 cov:∀a,H₀ a≠Om->H a≠Om
 new:∀a k,B a=on (k+2)->H₀ a=Om
 lst:∀a k,B a=on (k+2)->y4 H a
 tell:∀(i:Nat) (s:Sl),δ[i]?=on (on s)->∃v,σ[i]?=on (on v)/\lX K B bg H i s v
structure hU (B:Ow) (H:Hp) (B':Ow) (H':Hp):Prop where
 kp:∀a o,H a=on o->(B a=Om\/B a=on 0)->H' a=on o
 tg:∀a,B a=on 0\/B a=on 1->B' a=B a
 nn:∀a o,H a=on o->B a=Om->B' a=Om
 al:∀a,H a≠Om->H' a≠Om
theorem hU.refl(B:Ow)(H:Hp):hU B H B H:=⟨λ_ _ h _=>h,λ_ _=>rfl,λ_ _ _ h=>h,λ_ h=>h⟩
theorem hU.trans{H d g:Hp}(a:hU B H B1 d)(b:hU B1 d B2 g):hU B H B2 g:=by
 refine⟨λx o h n=>b.kp x o (a.kp x o h n) ?_,λx h=>?_,λx o h n=>b.nn x o (a.kp x o h (.inl n)) (a.nn x o h n),λx h=>b.al x (a.al x h)⟩
 .rcases n with n|n
  .exact .inl (a.nn x o h n)
  .exact .inr ((a.tg x (.inl n)).trans n)
 .have e:=a.tg x h
  rw[<-e]at h;exact(b.tg x h).trans e
def gU(K:OX)(H₀:Hp)(bg:Option (Ou×Ou))(E:St->XK)(Dn:pa)(B:Ow)(H:Hp)(o:sA)(j:Bg):Prop:=match o with
 | .nx δ'=>∀h i g,hU B H i g->fw K H₀ i bg g δ' j h->Dn.nx h g
 | .bk δ'=>∀h i g,hU B H i g->fw K H₀ i bg g δ' j h->Dn.bk h g
 | .ct δ'=>∀h i g,hU B H i g->fw K H₀ i bg g δ' j h->Dn.ct h g
 | .rt d=>∀v i g,hU B H i g->Fr (en i bg) g j->c_ K (en i bg) g d v->Dn.rt v g
 | .rg ba=>∀v i g,hU B H i g->Fr (en i bg) g j->gy K (en i bg) H₀ g ba v->Dn.rt v g
 | .ex C δ'=>∀h i g,hU B H i g->fw K H₀ i bg g δ' j h->E h (.ref C) Om g
theorem gU.pre{K:OX}{E:St->XK}{Dn:pa}{H l:Hp}(s:hU B H B1 l)(h:gU K H₀ bg E Dn B H o β'):gU K H₀ bg E Dn B1 l o β':=by
 cases o with
 |nx δ=>exact λg i j t=>h g i j (s.trans t)
 |bk δ=>exact λg i j t=>h g i j (s.trans t)
 |ct δ=>exact λg i j t=>h g i j (s.trans t)
 |rt d=>exact λv i j t=>h v i j (s.trans t)
 |rg d=>exact λv i j t=>h v i j (s.trans t)
 |ex C δ=>exact λg i j t=>h g i j (s.trans t)
def tG(K:OX)(H₀:Hp)(g:G)(E:St->XK):TS:=λDn h H=>∃B bg δ β o d,fw K H₀ B bg H δ β h/\g δ β=on (o,d)/\gU K H₀ bg E Dn B H o d
theorem _root_.L2.PS.imp{X:Cx}{e:Qg}(h:PS X e t)(f:∀D d H,t' D d H->t D d H):PS X e t':=λg s d H D I q=>h g s d H D I (f D d H q)
theorem _root_.L2.PSs.imp{X:Cx}{e:List Qg}(h:PSs X e t)(f:∀D d H,t' D d H->t D d H):PSs X e t':=λg s d H D I q=>h g s d H D I (f D d H q)
noncomputable def vw(δ:Ds):Dn:=δ.map λs=>match s with
 |some (.sh d)=>on d
 |_=>Om
noncomputable def jn(δ:Ds):Dn:=δ.map λs=>match s with
 |some (.sh d)=>on d
 |some (.own ds)=>on (.lst ds)
 |some (.grd ba)=>on (.lst (ba.map D.lst))
 |some (.odc b ks vs)=>on (.dct b ks vs)
 |none=>Om
variable{H₀:Hp}{B:Ow}{bg:Option (Ou×Ou)}{H':Hp}{δ:Ds}{β β':Bg}{σ:St}
theorem Nb{i:Nat}{d:D}(e:(vw δ)[i]?=on (on d)):δ[i]?=on (on (.sh d)):=by
 unfold vw at e;rw[Ox]at e;cases q:δ[i]? with
 |none=>rw[q]at e;cases e
 |some z=>
  rw[q]at e;cases z with
  |none=>cases e
  |some s=>
   cases s with
   |sh c=>cases e;rfl
   |own ds=>cases e
   |grd ba=>cases e
   |odc b ks vs=>cases e
theorem fw.view(h:fw K H₀ B bg H δ β σ):j0 K (en B bg) H (vw δ) σ:=⟨by unfold vw;rw[Ol,h.len],λi d e=>h.tell i _ (Nb e)⟩
theorem YK:Tr (en B bg) H (pw B bg) H:=⟨λa h _ z=>by
 have h':¬(B a≠Om):=h;rcases z with z|z
 .exact h' (by rw[z];simp)
 .exact h' (by rw[z];simp),λ_ _ _ h=>h,rfl⟩
theorem fw.frA(h:fw K H₀ B bg H δ β σ):Fr (pw B bg) H β:=⟨λa ha=>h.fr.occ a (by
 show B a≠Om;rcases ha with z|z<;>rw[z]<;>simp),λb l e=>⟨.inr (h.bgt b l e).1,.inr (h.bgt b l e).2,(h.fr.bgA b l e).2.2⟩,h.fr.bag⟩
theorem fw.viewA(h:fw K H₀ B bg H δ β σ):j0 K (pw B bg) H (jn δ) σ:=by
 refine⟨by unfold jn;rw[Ol,h.len],λi d e=>?_⟩;unfold jn at e;rw[Ox]at e;cases q:δ[i]? with
 |none=>rw[q]at e;cases e
 |some z=>
  rw[q]at e;cases z with
  |none=>cases e
  |some s=>
   obtain⟨v,m,o⟩:=h.tell i s q;cases s with
   |sh c=>cases e;exact⟨v,m,c_.tr YK _ _ o⟩
   |own ds=>
    cases e;obtain⟨a,xs,g,j,l,t⟩:=o;refine⟨v,m,a,xs,g,⟨λz=>?_,.inl l⟩,bb.tr YK _ _ t⟩;have z':B a=on 0\/B a=on 1:=z;rw[j]at z';rcases z' with z'|z'<;>cases z'
   |grd ba=>
    cases e;obtain⟨a,rs,g,j,l,t,u⟩:=o;have w:∀c,B c=on (i+2)->¬(pw B bg).A c:=λc y z=>by
     have z':B c=on 0\/B c=on 1:=z;rw[y]at z';rcases z' with z'|z'<;>cases z'
    exact⟨v,m,a,_,g,⟨w a j,.inl l⟩,bi.den YK u λr _ C=>w r C⟩
   |odc b ks vs=>
    cases e;obtain⟨a,g,j,ep,xs,l,t,u,I⟩:=o;refine⟨v,m,?_⟩;unfold c_;refine⟨a,ep,xs,g,⟨λz=>?_,l⟩,t,λx J=>(u x J).tr YK,bb.tr YK _ _ I⟩;have z':B a=on 0\/B a=on 1:=z;rw[j]at z';rcases z' with z'|z'<;>cases z'
theorem fw.to{F:Fx}(h:fw K H₀ B bg H δ β σ)(hF:F.bg=bg)(t:To F H H' β'):fw K H₀ B bg H' δ β' σ/\hU B H B H':=by
 have u:∀a,B a≠on 1->∀b l,F.bg=on (b,l)->a≠b/\a≠l:=λa ha b l e=>by
  rw[hF]at e;exact⟨λz=>ha (z▸(h.bgt b l e).1),λz=>ha (z▸(h.bgt b l e).2)⟩
 have kp:∀a o,H a=on o->B a≠on 1->H' a=on o:=λa o e n=>t.kp a o e (u a n);have fr:Fr (en B bg) H' β':=⟨λa ha z=>(by
  by_cases y:B a=on 1
  .by_cases g:∃b l,bg=on (b,l)/\(a=b\/a=l)
   .obtain⟨b,l,e,q⟩:=g
    obtain⟨j,m⟩:=t.fr.bag b l (hF.trans e);rcases q with rfl|rfl
    .rw[j]at z;cases z
    .rw[m]at z;cases z
   .cases q:H a with
    |none=>exact h.fr.occ a ha q
    |some o=>
     rw[t.kp a o q λb l e=>⟨λw=>g ⟨b,l,hF.symm.trans e,.inl w⟩,λw=>g ⟨b,l,hF.symm.trans e,.inr w⟩⟩]at z;cases z
  .cases q:H a with
   |none=>exact h.fr.occ a ha q
   |some o=>rw[kp a o q y]at z;cases z),h.fr.bgA,λb l e=>t.fr.bag b l (hF.trans e)⟩
 have tr:Tr (en B bg) H (en B bg) H':=⟨λ_ n _=>n,λa o n e=>kp a o e (λz=>n (by show B a≠Om;rw[z];simp)),rfl⟩;have al:∀a,H a≠Om->H' a≠Om:=λa ha z=>by
  by_cases g:∃b l,bg=on (b,l)/\(a=b\/a=l)
  .obtain⟨b,l,e,q⟩:=g
   obtain⟨j,m⟩:=t.fr.bag b l (hF.trans e);rcases q with rfl|rfl
   .rw[j]at z;cases z
   .rw[m]at z;cases z
  .cases q:H a with
   |none=>exact ha q
   |some o=>
    rw[t.kp a o q λb l e=>⟨λw=>g ⟨b,l,hF.symm.trans e,.inl w⟩,λw=>g ⟨b,l,hF.symm.trans e,.inr w⟩⟩]at z;cases z
 refine⟨⟨fr,h.bgt,h.len,λa ha=>al a (h.cov a ha),h.new,λc k r=>(h.lst c k r).imp λo z=>kp c o z (by rw[r];intro z;cases z),λi s e=>?_⟩,λa o e n=>kp a o e (by rcases n with n|n<;>rw[n]<;>simp),λ_ _=>rfl,λ_ _ _ n=>n,al⟩
 obtain⟨v,A,C⟩:=h.tell i s e;exact⟨v,A,C.tr tr λc d=>⟨d,λo q=>kp c o q (by rw[d];intro z;cases z)⟩⟩
theorem fw.set(h:fw K H₀ B bg H δ β σ)(hd:c_ K (en B bg) H d v):fw K H₀ B bg H (δ.set i (on (.sh d))) β (σ.set i (on v)):=by
 refine⟨h.fr,h.bgt,by rw[Qc,Qc,h.len],h.cov,h.new,h.lst,λj c e=>?_⟩;rw[Qm]at e;rw[Qm];by_cases q:i=j
 .subst q
  rw[OE rfl]at e⊢;split at e
  .rename_i g
   cases e;rw[OE (by rw[<-h.len];exact g)];exact⟨v,rfl,hd⟩
  .cases e
 .rw[OC q]at e⊢
  exact h.tell j c e
noncomputable def gNil:G:=λδ β=>on (.nx δ,β)
noncomputable def aN(g h:G):G:=λδ β=>match g δ β with
 |some (.nx δ1,β1)=>h δ1 β1
 |r=>r
def lD(i:Nat)(f:FD):G:=λδ β=>match f (vw δ) β with
 |some (.ok d,β1)=>on (.nx (δ.set i (on (.sh d))),β1)
 |some (.error C,β1)=>on (.ex C δ,β1)
 |none=>Om
noncomputable def pJ(f:FD):G:=λδ β=>match f (jn δ) β with
 |some (.ok _,β1)=>on (.nx δ,β1)
 |some (.error C,β1)=>on (.ex C δ,β1)
 |none=>Om
noncomputable def jd(f:FD):G:=λδ β=>match f (jn δ) β with
 |some (.ok d,β1)=>on (.rt d,β1)
 |some (.error C,β1)=>on (.ex C δ,β1)
 |none=>Om
noncomputable def y1(t:Dn->M Bool)(g h:G):G:=λδ β=>match t (jn δ) β with
 |some (.ok Oq,β1)=>g δ β1
 |some (.ok Ov,β1)=>h δ β1
 |some (.error C,β1)=>on (.ex C δ,β1)
 |none=>Om
variable{st:Qg}{sts:List Qg}
theorem bv:PSs X [] (tG X.K X.H₀ gNil E):=mq.imp λD σ H d=>by
 obtain⟨B,bg,δ,β,o,β',ok,e,h⟩:=d;cases e;exact h σ B H (hU.refl B H) ok
theorem ac(i:PS X st (tG X.K X.H₀ g E))(j:PSs X sts (tG X.K X.H₀ h E)):PSs X (st::sts) (tG X.K X.H₀ (aN g h) E):=(cr i j).imp λD σ H l=>by
 obtain⟨B,bg,δ,β,o,β',ok,e,q⟩:=l;unfold aN at e;split at e
 .rename_i δ1 β1 m
  refine⟨B,bg,δ,β,.nx δ1,β1,ok,m,λt u H' s d=>⟨u,bg,δ1,β1,o,β',d,e,gU.pre s ?_⟩⟩;exact q
 .rename_i r v
  refine⟨B,bg,δ,β,o,β',ok,e,?_⟩;cases o with
  |nx δ1=>exact O4 e (v δ1 β')
  |_=>exact q
theorem ai(d:PS X st (tG X.K X.H₀ g E)):PSs X [st] (tG X.K X.H₀ g E):=gW d
theorem aG{x:Pn}{f:FD}(h:PS X (.Assign [.Name x pos'] e pos) (fj (tV X.K f E) (dE i))):PS X (.Assign [.Name x pos'] e pos) (tG X.K X.H₀ (lD i f) E):=h.imp λD σ H m=>by
 obtain⟨B,bg,δ,β,o,β',ok,e,q⟩:=m;refine⟨en B bg,vw δ,β,ok.fr,ok.view,?_⟩;unfold lD at e;split at e
 .rename_i d β1 j
  cases e;refine⟨.ok d,_,j,λv H' t hd=>?_⟩;obtain⟨g,l⟩:=ok.to rfl t;exact q _ B H' l (g.set hd)
 .rename_i C β1 j
  cases e;refine⟨.error C,_,j,λH' t=>?_⟩;obtain⟨g,l⟩:=ok.to rfl t;exact q _ B H' l g
 .cases e
theorem oR{f:FD}(h:PS X (.Expr e pos) (wz (tV X.K f E))):PS X (.Expr e pos) (tG X.K X.H₀ (pJ f) E):=h.imp λD σ H l=>by
 obtain⟨B,bg,δ,β,o,β',ok,e,q⟩:=l;refine⟨pw B bg,jn δ,β,ok.frA,ok.viewA,?_⟩;unfold pJ at e;split at e
 .rename_i d β1 i
  cases e;refine⟨.ok d,_,i,λv H' t hd=>?_⟩;obtain⟨g,j⟩:=ok.to rfl t;exact q _ B H' j g
 .rename_i C β1 i
  cases e;refine⟨.error C,_,i,λH' t=>?_⟩;obtain⟨g,j⟩:=ok.to rfl t;exact q _ B H' j g
 .cases e
noncomputable def fZ(B:Ow):Ow:=λa=>if B a=on 0\/B a=on 1 then B a else Om
theorem Ls{B:Ow}{bg:Option (Ou×Ou)}{H:Hp}:Tr (pw B bg) H (en (fZ B) bg) H:=⟨λa h _ z=>by
 have d:fZ B a≠Om:=z;unfold fZ at d;split at d
 .rename_i q;exact h q
 .exact d rfl,λ_ _ _ h=>h,rfl⟩
theorem CU{B:Ow}{H:Hp}:hU B H (fZ B) H:=⟨λ_ _ h _=>h,λa h=>by unfold fZ;rw[OE h],λa o h n=>by unfold fZ;rw[n];simp,λ_ h=>h⟩
theorem aK{f:FD}(h:PS X (.Return (on e) pos) (np (tV X.K f E))):PS X (.Return (on e) pos) (tG X.K X.H₀ (jd f) E):=h.imp λD σ H r=>by
 obtain⟨B,bg,δ,β,o,β',ok,e,q⟩:=r;refine⟨pw B bg,jn δ,β,ok.frA,ok.viewA,?_⟩;unfold jd at e;split at e
 .rename_i d β1 j
  cases e;refine⟨.ok d,_,j,λv H' t hd=>?_⟩;obtain⟨g,m⟩:=ok.to rfl t;refine q _ (fZ B) H' (m.trans CU) ⟨λa ha=>g.fr.occ a ?_,λb l e=>?_,g.fr.bag⟩ (c_.tr Ls _ _ hd)
  .have i:fZ B a≠Om:=ha
   show B a≠Om;unfold fZ at i;split at i
   .exact i
   .exact O4 rfl i
  .refine⟨?_,?_,(g.fr.bgA b l e).2.2⟩
   .show fZ B b≠Om
    unfold fZ;rw[OE (.inr (ok.bgt b l e).1),(ok.bgt b l e).1];simp
   .show fZ B l≠Om
    unfold fZ;rw[OE (.inr (ok.bgt b l e).2),(ok.bgt b l e).2];simp
 .rename_i C β1 j
  cases e;refine⟨.error C,_,j,λH' t=>?_⟩;obtain⟨g,m⟩:=ok.to rfl t;exact q _ B H' m g
 .cases e
theorem bU{c:Expr}{a b:List Qg}(l:PT X c (g8 X.K t E))(ha:PSs X a (tG X.K X.H₀ g E))(m:PSs X b (tG X.K X.H₀ h E)):PS X (.If c a b pos) (tG X.K X.H₀ (y1 t g h) E):=(wO l ha m).imp λD σ H r=>by
 obtain⟨B,bg,δ,β,o,β',ok,e,q⟩:=r;refine⟨pw B bg,jn δ,β,ok.frA,ok.viewA,?_⟩;unfold y1 at e;split at e
 .rename_i β1 i
  refine⟨.ok Oq,_,i,λv H' t hd=>?_⟩;subst hd;obtain⟨d,j⟩:=ok.to rfl t;rw[OE rfl];exact⟨B,bg,δ,β1,o,β',d,e,gU.pre j q⟩
 .rename_i β1 i
  refine⟨.ok Ov,_,i,λv H' t hd=>?_⟩;subst hd;obtain⟨d,j⟩:=ok.to rfl t;rw[OC OH];exact⟨B,bg,δ,β1,o,β',d,e,gU.pre j q⟩
 .rename_i C β1 i
  cases e;refine⟨.error C,_,i,λH' t=>?_⟩;obtain⟨d,j⟩:=ok.to rfl t;exact q _ B H' j d
 .cases e
abbrev B6:=D->Ds->Option Ds
abbrev lU:=List D->Ds->Option Ds
def kr(K:OX)(g:TG)(tg:B6):Prop:=∀(H₀:Hp) (B:Ow) (bg:Option (Ou×Ou)) (H:Hp) (δ δ1:Ds) (β:Bg) (σ:St) (d:D) (v:V) (Q:St->Hp->Prop),fw K H₀ B bg H δ β σ->c_ K (en B bg) H d v->tg d δ=on δ1->(∀h,fw K H₀ B bg H δ1 β h->Q h H)->g v σ H Q
def pX(K:OX)(g:O2)(tg:lU):Prop:=∀(H₀:Hp) (B:Ow) (bg:Option (Ou×Ou)) (H:Hp) (δ δ1:Ds) (β:Bg) (σ:St) (ds:List D) (vs:List V) (Q:St->Hp->Prop),fw K H₀ B bg H δ β σ->bb K (en B bg) H ds vs->tg ds δ=on δ1->(∀d,fw K H₀ B bg H δ1 β d->Q d H)->g vs σ H Q
noncomputable def sgN(i:Nat):B6:=λd δ=>on (δ.set i (on (.sh d)))
noncomputable def Ky:lU:=λds δ=>match ds with
 |[]=>on δ
 |_=>Om
noncomputable def Kx(t:B6)(u:lU):lU:=λds δ=>match ds with
 |[]=>Om
 |d::r=>(t d δ).bind λδ1=>u r δ1
noncomputable def sgT(t:lU):B6:=λd δ=>match d with
 | .tup ds=>t ds δ
 |_=>Om
theorem aE:kr K (dE i) (sgN i):=λH₀ B bg H δ δ1 β σ d v Q ok hd e k=>by
 cases e;exact k _ (ok.set hd)
theorem e9:pX K L2.gNil Ky:=λH₀ B bg H δ δ1 β σ ds vs Q ok hd e k=>by
 cases ds with
 |nil=>cases e;exact⟨hd,k _ ok⟩
 |cons _ _=>cases e
theorem bE(m:kr K t tf)(o:pX K u uf):pX K (xu t u) (Kx tf uf):=λH₀ B bg H δ δ1 β σ ds vs Q ok hd e k=>by
 cases ds with
 |nil=>cases e
 |cons d r=>
  obtain⟨x,l,rfl,v,w⟩:=hd;have h:(tf d δ).bind (λδ1=>uf r δ1)=on δ1:=e;cases q:tf d δ with
  |none=>rw[q]at h;cases h
  |some g=>
   rw[q]at h;exact⟨x,l,rfl,m H₀ B bg H δ g β σ d x _ ok v q λi j=>o H₀ B bg H g δ1 β i r l Q j w h k⟩
theorem dR:∀ds δ δ1,Ky ds δ=on δ1->ds.length=0:=λds δ δ1 h=>by
 cases ds with
 |nil=>rfl
 |cons _ _=>cases h
theorem bD{n:Nat}(h:∀ds δ δ1,u ds δ=on δ1->ds.length=n):∀ds δ δ1,Kx t u ds δ=on δ1->ds.length=n+1:=λds δ δ1 e=>by
 cases ds with
 |nil=>cases e
 |cons d r=>
  have g:(t d δ).bind (λδ1=>u r δ1)=on δ1:=e;cases q:t d δ with
  |none=>rw[q]at g;cases g
  |some i=>rw[q]at g;rw[OR,h _ _ _ g]
theorem gn{n:Nat}(h:pX K t tf)(hn:∀ds δ δ1,tf ds δ=on δ1->ds.length=n):kr K (DL K n t) (sgT tf):=λH₀ B bg H δ δ1 β σ d v Q ok hd e k=>by
 cases d<;>first
  |(obtain⟨a,xs,rfl,sq,g⟩:=c_.sqT hd;exact⟨a,xs,rfl,sq,by rw[<-g.length];exact hn _ _ _ e,h H₀ B bg H δ δ1 β σ _ xs Q ok g e k⟩)
  |cases e
def xw(f:FD)(tg:B6):G:=λδ β=>match f (vw δ) β with
 |some (.ok d,β1)=>(tg d δ).map λδ1=>(.nx δ1,β1)
 |some (.error C,β1)=>on (.ex C δ,β1)
 |none=>Om
theorem HF{f:FD}{tg:B6}(l:kr X.K g tg)(h:PS X (.Assign [tgt] e pos) (fj (tV X.K f E) g)):PS X (.Assign [tgt] e pos) (tG X.K X.H₀ (xw f tg) E):=h.imp λD σ H w=>by
 obtain⟨B,bg,δ,β,o,β',ok,e,q⟩:=w;refine⟨en B bg,vw δ,β,ok.fr,ok.view,?_⟩;unfold xw at e;split at e
 .rename_i d β1 j
  cases q1:tg d δ with
  |none=>rw[q1]at e;cases e
  |some δ1=>
   rw[q1]at e;cases e;refine⟨.ok d,_,j,λv H' t hd=>?_⟩;obtain⟨i,m⟩:=ok.to rfl t;exact l X.H₀ B bg H' δ δ1 _ σ d v _ i hd q1 λr u=>q r B H' m u
 .rename_i C β1 j
  cases e;refine⟨.error C,_,j,λH' t=>?_⟩;obtain⟨i,m⟩:=ok.to rfl t;exact q _ B H' m i
 .cases e
def xv(i:Nat)(op:D->D->Option D)(f:FD):G:=λδ β=>match(vw δ).getD i Om with
 |none=>Om
 |some c=>match f (vw δ) β with
  |some (.ok d,β1)=>(op c d).map λz=>(.nx (δ.set i (on (.sh z))),β1)
  |some (.error C,β1)=>on (.ex C δ,β1)
  |none=>Om
theorem oS{f:FD}(l:aX X.K ti op)(h:PS X st (Kn i (tV X.K f E) ti)):PS X st (tG X.K X.H₀ (xv i op f) E):=h.imp λD σ H I=>by
 obtain⟨B,bg,δ,β,o,β',ok,e,q⟩:=I;unfold xv at e;split at e
 .cases e
 .rename_i c j
  have m:(vw δ)[i]?=on (on c):=by
   rw[Op]at j;cases z:(vw δ)[i]? with
   |none=>rw[z]at j;cases j
   |some w=>rw[z]at j;simp at j;rw[j]
  obtain⟨v,J,L⟩:=ok.view.tell i c m;refine⟨v,J,en B bg,vw δ,β,ok.fr,ok.view,?_⟩;split at e
  .rename_i d β1 r
   cases q1:op c d with
   |none=>rw[q1]at e;cases e
   |some z=>
    rw[q1]at e;cases e;refine⟨.ok d,_,r,λw H' t hd=>?_⟩;obtain⟨g,y⟩:=ok.to rfl t;refine l (en B bg) H' β' _ c d z v w t.fr (c_.tr (t.tr ok.fr) _ _ L) hd q1 λu N O P=>?_;obtain⟨A,Q⟩:=g.to rfl O;exact q _ B N (y.trans Q) (A.set P)
  .rename_i C β1 r
   cases e;refine⟨.error C,_,r,λH' t=>?_⟩;obtain⟨g,y⟩:=ok.to rfl t;exact q _ B H' y g
  .cases e
theorem hU.tr{B d:Ow}{H H':Hp}{bg:Option (Ou×Ou)}(s:hU B H d H'):Tr (en B bg) H (en d bg) H':=
 ⟨λa h hs z=>by
  have hn:B a=Om:=by
   cases q:B a with
   |none=>rfl
   |some t=>exact O4 (show B a≠Om by rw[q];simp) h
  cases q:H a with
  |none=>exact hs q
  |some o=>exact z (s.nn a o q hn),λa o h e=>s.kp a o e (.inl (by
  cases q:B a with
  |none=>rfl
  |some t=>exact O4 (show B a≠Om by rw[q];simp) h)),rfl⟩
noncomputable def o0(tg:B6)(g:G):List D->G
 |[],δ,β=>on (.nx δ,β)
 |d::ds,δ,β=>match tg d δ with
  |none=>Om
  |some δ1=>match g δ1 β with
   |some (.nx δ2,β2)=>o0 tg g ds δ2 β2
   |some (.ct δ2,β2)=>o0 tg g ds δ2 β2
   |some (.bk δ2,β2)=>on (.nx δ2,β2)
   |r=>r
def mJ(it:Ds->M (List D))(tg:B6)(g:G):G:=λδ β=>match it δ β with
 |some (.ok ds,β1)=>o0 tg g ds δ β1
 |some (.error C,β1)=>on (.ex C δ,β1)
 |none=>Om
abbrev Z3(it:FL):B6->G->G:=mJ λδ=>it (vw δ)
theorem yw{tg:B6}(hw:∀{B bg H δ β σ R},fw X.K X.H₀ B bg H δ β σ->run (λH' (ds:List D) (J:It)=>up X.K J (en B bg) H' ds) (en B bg) E σ (it δ) H R β->wi σ H R)(l:kr X.K tgg tg)(h:PS X (.For tgt iter body [] pos) (wy wi tgg (tG X.K X.H₀ g E))):PS X (.For tgt iter body [] pos) (tG X.K X.H₀ (mJ it tg g) E):=h.imp λD σ H h_=>by
 obtain⟨B,bg,δ,β,o,β',ok,e,q⟩:=h_;refine hw ok ?_;unfold mJ at e;split at e
 .rename_i ds β1 e1
  refine⟨.ok ds,_,e1,λJ H1 t hJ=>?_⟩;obtain⟨ok1,s1⟩:=ok.to rfl t;refine⟨λi m A T=>m+i=ds.length/\∃y I β2,hU B H1 y T/\fw X.K X.H₀ y bg T I β2 A/\o0 tg g (ds.drop i) I β2=on (o,β'),⟨ds.length,by omega,B,δ,β1,hU.refl B H1,ok1,e⟩,?_⟩;rintro i m A T ⟨hm,y,I,β2,U,u,r⟩;obtain⟨iy,is⟩:=hJ (en y bg) T β2 U.tr u.fr i;cases hi:ds[i]? with
  |none=>
   have hl:ds.length<=i:=T6.mp hi;rw[RG hl]at r;cases r;exact .inl ⟨is (by omega),q A y T (s1.trans U) u⟩
  |some d=>
   have hl:i<ds.length:=(OI.mp hi).1;obtain⟨go,yl⟩:=iy d hi;have ed:ds.drop i=d::ds.drop (i+1):=by
    rw[Qa hl];congr 1;exact Pb ((Os hl).symm.trans hi)
   rw[ed]at r;unfold o0 at r;split at r
   .cases r
   .rename_i v e3
    refine .inr ⟨go,λW H9=>∃B9 L N,hU B H1 B9 H9/\fw X.K X.H₀ B9 bg H9 L N W/\o0 tg g (ds.drop (i+1)) L N=on (o,β'),λW H9 ⟨B9,L,N,z1,z2,z3⟩=>⟨m-1,by omega,by omega,B9,L,N,z1,z2,z3⟩,λx H3 hy=>?_⟩;obtain⟨sm,dx⟩:=yl x H3 hy;obtain⟨ok3,s3⟩:=u.to rfl (u.fr.same sm);refine l X.H₀ y bg H3 I v β2 A d x _ ok3 dx e3 λσ4 O=>?_;have P:=U.trans s3;split at r
    .rename_i j β5 Y
     exact⟨y,bg,v,β2,.nx j,β5,O,Y,λQ Z H6 s6 w=>⟨Z,j,β5,P.trans s6,w,r⟩⟩
    .rename_i j β5 Y
     exact⟨y,bg,v,β2,.ct j,β5,O,Y,λQ Z H6 s6 w=>⟨Z,j,β5,P.trans s6,w,r⟩⟩
    .rename_i j β5 Y
     cases r;exact⟨y,bg,v,β2,.bk j,_,O,Y,λQ Z H6 s6 w=>q Q Z H6 (s1.trans (P.trans s6)) w⟩
    .rename_i x h1 h2 h3
     refine⟨y,bg,v,β2,o,β',O,r,?_⟩;have q2:=gU.pre (s1.trans P) q;cases o with
     |nx j=>exact O4 r (h1 _ _)
     |ct j=>exact O4 r (h2 _ _)
     |bk j=>exact O4 r (h3 _ _)
     |rt d=>exact q2
     |rg d=>exact q2
     |ex C j=>exact q2
 .rename_i C β1 e1
  cases e;refine⟨.error C,_,e1,λH' t=>?_⟩;obtain⟨u,U⟩:=ok.to rfl t;exact q _ B H' U u
 .cases e
theorem bA{tg:B6}(l:kr X.K tgg tg)(h:PS X (.For tgt iter body [] pos) (wy (iV X.K it E) tgg (tG X.K X.H₀ g E))):PS X (.For tgt iter body [] pos) (tG X.K X.H₀ (Z3 it tg g) E):=yw (λok r=>⟨_,_,_,ok.fr,ok.view,r⟩) l h
theorem fw.claim{H₀:Hp}{B:Ow}{bg:Option (Ou×Ou)}{H H':Hp}{δ:Ds}{β β':Bg}{σ:St}(S:Ou->Prop)(ok:fw K H₀ B bg H δ β σ)(t:To (en B bg) H H' β')(r:∀c,S c->H c=Om/\y4 H' c)(hd:∀{C:Ow},(∀c,S c->C c=on (i+2))->(∀c,C c≠Om->B c≠Om\/S c)->Tr (en B bg) H (en C bg) H'->lX K C bg H' i sl v):
  ∃J,fw K H₀ J bg H' (δ.set i (on sl)) β' (σ.set i (on v))/\hU B H J H':=by
 classical
 obtain⟨g,L⟩:=ok.to rfl t;have hB:∀c,S c->B c=Om:=λc m=>Ri λz=>ok.fr.occ c z (r c m).1;have u:∀c n,B c=on n->¬S c:=λc n e z=>by rw[hB c z]at e;cases e
 have A:hU B H (λc=>if S c then on (i+2)else B c) H':=⟨L.kp,λc m=>OC (m.elim (u c 0) (u c 1)),λc o h n=>(OC λz=>by rw[(r c z).1]at h;cases h).trans n,L.al⟩;have tr:Tr (en B bg) H (en (λc=>if S c then on (i+2)else B c) bg) H':=A.tr;have I:∀b l,bg=on (b,l)->(if S b then on (i+2)else B b)=on 1/\(if S l then on (i+2)else B l)=on 1:=λb l e=>by
  obtain⟨b1,b2⟩:=ok.bgt b l e;exact⟨(OC (u b 1 b1)).trans b1,(OC (u l 1 b2)).trans b2⟩
 refine⟨λc=>if S c then on (i+2)else B c,⟨⟨λc m z=>?_,λb l e=>⟨λz=>(by cases z.symm.trans (I b l e).1),λz=>(by cases z.symm.trans (I b l e).2),(ok.fr.bgA b l e).2.2⟩,g.fr.bag⟩,I,by rw[Qc,Qc,ok.len],g.cov,λc k m=>?_,λc k m=>?_,λj s e=>?_⟩,A⟩
 .by_cases q:S c
  .rcases(r c q).2 with⟨_,w⟩|⟨_,w⟩<;>(rw[w]at z;cases z)
  .exact g.fr.occ c (λy=>m ((OC q).trans y)) z
 .by_cases z:S c
  .cases w:H₀ c with
   |none=>rfl
   |some o=>exact O4 (r c z).1 (ok.cov c (by rw[w];simp))
  .exact ok.new c k ((OC z).symm.trans m)
 .by_cases z:S c
  .exact(r c z).2
  .exact g.lst c k ((OC z).symm.trans m)
 .rw[Qm]at e⊢
  by_cases q:i=j
  .subst q
   rw[OE rfl]at e⊢;split at e
   .rename_i N
    cases e;rw[OE (by rw[<-ok.len];exact N)];exact⟨_,rfl,hd (λc z=>OE z) (λc z=>Ri λy=>z ((OC λw=>y (.inr w)).trans (Ri λw=>y (.inl w)))) tr⟩
   .cases e
  .rw[OC q]at e⊢
   obtain⟨w,O,P⟩:=ok.tell j s e;exact⟨w,O,P.tr tr λc d=>⟨(OC (u c _ d)).trans d,λo h=>t.kp c o h λb l z=>⟨λy=>(by subst y;rw[(ok.bgt _ _ z).1]at d;cases d),λy=>(by subst y;rw[(ok.bgt _ _ z).2]at d;cases d)⟩⟩⟩
theorem fw.newAt{H₀:Hp}{B:Ow}{bg:Option (Ou×Ou)}{H:Hp}{δ:Ds}{β:Bg}{σ:St}{p:Ou}(ok:fw K H₀ B bg H δ β σ)(g:H p=Om)(j:y4 (upd H p u) p)(hd:∀{d:Ow},d p=on (i+2)->Tr (en B bg) H (en d bg) (upd H p u)->lX K d bg (upd H p u) i sl (.ref p)):
  ∃h,fw K H₀ h bg (upd H p u) (δ.set i (on sl)) β (σ.set i (on (.ref p)))/\hU B H h (upd H p u):=ok.claim (·=p) (ok.fr.upd u g) (λc z=>by cases z;exact⟨g,j⟩) λl _ tr=>hd (l p rfl) tr
theorem fw.writeAt{H₀:Hp}{B:Ow}{bg:Option (Ou×Ou)}{H:Hp}{δ:Ds}{β:Bg}{σ:St}{a:Ou}(ok:fw K H₀ B bg H δ β σ)(hs:σ[i]?=on (on (.ref a)))(hB:B a=on (i+2))(r:y4 (upd H a u) a)(hd:Tr (en B bg) H (en B bg) (upd H a u)->lX K B bg (upd H a u) i sl (.ref a)):
  fw K H₀ B bg (upd H a u) (δ.set i (on sl)) β σ/\hU B H B (upd H a u):=by
 have g:hU B H B (upd H a u):=by
  refine⟨λc o h n=>?_,λ_ _=>rfl,λ_ _ _ n=>n,λc m=>?_⟩
  .rw[bt]
   .exact h
   .intro z;subst z;rw[hB]at n;rcases n with n|n<;>cases n
  .by_cases z:c=a
   .subst z;rw[aj];simp
   .rw[bt z];exact m
 have tr:Tr (en B bg) H (en B bg) (upd H a u):=g.tr;refine⟨⟨⟨λc m z=>?_,ok.fr.bgA,λb l e=>?_⟩,ok.bgt,by rw[Qc,ok.len],λa ha=>g.al a (ok.cov a ha),ok.new,λc k m=>(by
  by_cases z:c=a
  .subst z;exact r
  .exact(ok.lst c k m).imp λo y=>by rw[bt z];exact y),λj s e=>?_⟩,g⟩
 .by_cases q:c=a
  .subst q;rw[aj]at z;cases z
  .rw[bt q]at z;exact ok.fr.occ c m z
 .obtain⟨b1,b2⟩:=ok.bgt b l e
  rw[bt (λz=>by subst z;rw[hB]at b1;cases b1),bt (λz=>by subst z;rw[hB]at b2;cases b2)];exact ok.fr.bag b l e
 .rw[Qm]at e
  by_cases q:i=j
  .subst q
   rw[OE rfl]at e;split at e
   .cases e
    exact⟨_,hs,hd tr⟩
   .cases e
  .rw[OC q]at e
   obtain⟨v,t,w⟩:=ok.tell j s e;exact⟨v,t,w.tr tr λc d=>⟨d,λo z=>(bt λy=>by subst y;rw[hB]at d;cases d;exact q rfl).trans z⟩⟩
theorem fw.newOwn{H₀:Hp}{B:Ow}{bg:Option (Ou×Ou)}{H:Hp}{δ:Ds}{β:Bg}{σ:St}{p:Ou}(ok:fw K H₀ B bg H δ β σ)(g:H p=Om)(hd:bb K (en B bg) H ds xs):
  ∃d,fw K H₀ d bg (upd H p (.lst xs)) (δ.set i (on (.own ds))) β (σ.set i (on (.ref p)))/\hU B H d (upd H p (.lst xs)):=ok.newAt g (.inl ⟨xs,aj⟩) λe t=>⟨p,xs,rfl,e,aj,bb.tr t _ _ hd⟩
theorem fw.writeOwn{H₀:Hp}{B:Ow}{bg:Option (Ou×Ou)}{H:Hp}{δ:Ds}{β:Bg}{σ:St}{a:Ou}(ok:fw K H₀ B bg H δ β σ)(hs:σ[i]?=on (on (.ref a)))(hB:B a=on (i+2))(ha:H a=on (.lst ys))(hd:bb K (en B bg) H ds xs):
  fw K H₀ B bg (upd H a (.lst xs)) (δ.set i (on (.own ds))) β σ/\hU B H B (upd H a (.lst xs)):=ok.writeAt hs hB (.inl ⟨xs,aj⟩) λt=>⟨a,xs,rfl,hB,aj,bb.tr t _ _ hd⟩
def xt(i:Nat)(f:FL):G:=λδ β=>match f (vw δ) β with
 |some (.ok ds,β1)=>if ds.length<=OV then on (.nx (δ.set i (on (.own ds))),β1)else Om
 |some (.error C,β1)=>on (.ex C δ,β1)
 |none=>Om
theorem ml{f:FL}(h:PS X st (fj (Kk (js X.K f E)) (dE i))):PS X st (tG X.K X.H₀ (xt i f) E):=h.imp λD σ H m=>by
 obtain⟨B,bg,δ,β,o,β',ok,e,q⟩:=m;refine⟨en B bg,vw δ,β,ok.fr,ok.view,?_⟩;unfold xt at e;split at e
 .rename_i ds β1 g
  split at e
  .rename_i r
   cases e;refine⟨.ok ds,_,g,λvs H' t hd=>⟨by rw[<-hd.length];exact r,λp u=>?_⟩⟩;obtain⟨d,j⟩:=ok.to rfl t;obtain⟨w,l,v⟩:=d.newOwn (i:=i) u hd;exact q _ _ _ (j.trans v) l
  .cases e
 .rename_i C β1 g
  cases e;refine⟨.error C,_,g,λH' t=>?_⟩;obtain⟨d,j⟩:=ok.to rfl t;exact q _ B H' j d
 .cases e
def xx(i:Nat)(f:FL):G:=λδ β=>match δ.getD i Om with
 |some (.own cs)=>match f (vw δ) β with
  |some (.ok [d],β1)=>if cs.length<OV then on (.nx (δ.set i (on (.own (cs++[d])))),β1)else Om
  |some (.error C,β1)=>on (.ex C δ,β1)
  |_=>Om
 |_=>Om
theorem getD_some{α:Type}{δ:List (Option α)}{i:Nat}{s:α}(h:δ.getD i Om=on s):δ[i]?=on (on s):=by
 rw[Op]at h;cases z:δ[i]? with
 |none=>rw[z]at h;cases h
 |some w=>rw[z]at h;simp at h;rw[h]
theorem jL{f:FL}(h:PS X st (wz (tBM X.K "list" vi (jK i) (js X.K f E)))):PS X st (tG X.K X.H₀ (xx i f) E):=h.imp λD σ H L=>by
 obtain⟨B,bg,δ,β,o,β',ok,e,q⟩:=L;unfold xx at e;split at e
 .rename_i cs J
  obtain⟨v,u,a,ys,rfl,N,O,U⟩:=ok.tell i _ (getD_some J);refine⟨_,u,.inl ⟨rfl,ys,fx.of O⟩,en B bg,vw δ,β,ok.fr,ok.view,?_⟩;split at e
  .rename_i d β1 w
   split at e
   .rename_i P
    cases e;refine⟨.ok [d],_,w,λvs H' t hd=>?_⟩;obtain⟨g,y⟩:=ok.to rfl t;obtain⟨v,rfl,Q⟩:=bb.one hd;obtain⟨W,j,Y,l,A,R,m,r⟩:=g.tell i _ (getD_some J);rw[u]at j;cases j;cases A;refine⟨a,l,v,rfl,rfl,m,by rw[<-r.length];exact P,?_⟩;obtain⟨I,T⟩:=g.writeOwn (ds:=cs++[d]) (xs:=l++[v]) u N m (bb.append r (bb.cons Q bb.nil));exact q _ _ _ (y.trans T) I
   .cases e
  .rename_i C β1 w
   cases e;refine⟨.error C,_,w,λH' t=>?_⟩;obtain⟨g,y⟩:=ok.to rfl t;exact q _ B H' y g
  .cases e
 .cases e
noncomputable def fz(i:Nat)(δ:Ds):Ds:=match δ.getD i Om with
 |some (.own ds)=>δ.set i (on (.sh (.lst ds)))
 |some (.grd ba)=>δ.set i (on (.sh (.lst (ba.map D.lst))))
 |some (.odc b ks vs)=>δ.set i (on (.sh (.dct b ks vs)))
 |_=>δ
theorem fw.letGo{H₀:Hp}{B:Ow}{bg:Option (Ou×Ou)}{H:Hp}{δ:Ds}{β:Bg}{σ:St}(S:Ou->Prop)(ok:fw K H₀ B bg H δ β σ)(y:∀c,S c->B c=on (i+2))(I:σ[i]?=on (on v))(hd:∀{r:Ow},(∀c,S c->r c=Om)->(∀c,¬S c->r c=B c)->Tr (en B bg) H (en r bg) H->lX K r bg H i sl v):∃A,fw K H₀ A bg H (δ.set i (on sl)) β σ/\hU B H A H:=by
 classical
 have hn:∀c n,(if S c then Om else B c)=on n->B c=on n:=λc n e=>by
  by_cases z:S c
  .rw[OE z]at e;cases e
  .exact(OC z).symm.trans e
 have C:∀c,B c=Om->(if S c then Om else B c)=Om:=λc e=>by rw[e];exact ite_self _
 have t:∀c,B c=on 0\/B c=on 1->¬S c:=λc h z=>by rw[y c z]at h;rcases h with h|h<;>cases h
 have m:hU B H (λc=>if S c then Om else B c) H:=⟨λ_ _ h _=>h,λc g=>OC (t c g),λc o h n=>C c n,λ_ h=>h⟩;have tr:Tr (en B bg) H (en (λc=>if S c then Om else B c) bg) H:=m.tr;have u:∀b l,bg=on (b,l)->(if S b then Om else B b)=on 1/\(if S l then Om else B l)=on 1:=λb l e=>by
  obtain⟨b1,b2⟩:=ok.bgt b l e;exact⟨(OC (t b (.inr b1))).trans b1,(OC (t l (.inr b2))).trans b2⟩
 refine⟨λc=>if S c then Om else B c,⟨⟨λc g=>ok.fr.occ c λz=>g (C c z),λb l e=>⟨λz=>(by cases z.symm.trans (u b l e).1),λz=>(by cases z.symm.trans (u b l e).2),(ok.fr.bgA b l e).2.2⟩,ok.fr.bag⟩,u,by rw[Qc,ok.len],ok.cov,λc k g=>ok.new c k (hn c _ g),λc k g=>ok.lst c k (hn c _ g),λj s e=>?_⟩,m⟩;rw[Qm]at e;by_cases q:i=j
 .subst q
  rw[OE rfl]at e;split at e
  .cases e
   exact⟨v,I,hd (λc z=>OE z) (λc z=>OC z) tr⟩
  .cases e
 .rw[OC q]at e
  obtain⟨w,J,L⟩:=ok.tell j s e;exact⟨w,J,L.tr tr λc d=>⟨(OC λz=>by rw[y c z]at d;cases d;exact q rfl).trans d,λ_ z=>z⟩⟩
theorem fw.freeze{H₀:Hp}{B:Ow}{bg:Option (Ou×Ou)}{H:Hp}{δ:Ds}{β:Bg}{σ:St}(i:Nat)(ok:fw K H₀ B bg H δ β σ):∃u,fw K H₀ u bg H (fz i δ) β σ/\hU B H u H:=by
 unfold fz;split
 .rename_i ds g
  obtain⟨v,h,a,ys,j,l,m,o⟩:=ok.tell i _ (getD_some g);exact ok.letGo (·=a) (λc z=>z▸l) h λd _ tr=>⟨a,ys,j,⟨λz=>z (d a rfl),.inl m⟩,bb.tr tr _ _ o⟩
 .rename_i ba g
  obtain⟨v,h,a,rs,j,l,m,nd,w⟩:=ok.tell i _ (getD_some g);exact ok.letGo (λc=>c=a\/c∈rs) (λc z=>z.elim (·▸l) λz=>(w.all c z).1) h λd _ tr=>⟨a,_,j,⟨λz=>z (d a (.inl rfl)),.inl m⟩,bi.den tr w λr y _ z=>z (d r (.inr y))⟩
 .rename_i b0 q t g
  obtain⟨v,h,a,j,l,ep,ys,m,o,A,C⟩:=ok.tell i _ (getD_some g);exact ok.letGo (·=a) (λc z=>z▸l) h λd _ tr=>by
   show c_ _ _ _ (.dct b0 q t) _;unfold c_;exact⟨a,ep,ys,j,⟨λz=>z (d a rfl),m⟩,o,λx I=>(A x I).tr tr,bb.tr tr _ _ C⟩
 .exact⟨B,ok,hU.refl B H⟩
noncomputable def fzG(i:Nat)(g:G):G:=λδ β=>g (fz i δ) β
theorem BM(i:Nat)(h:PSs X sts (tG X.K X.H₀ g E)):PSs X sts (tG X.K X.H₀ (fzG i g) E):=h.imp λD σ H j=>by
 obtain⟨B,bg,δ,β,o,β',ok,e,q⟩:=j;obtain⟨l,d,s⟩:=ok.freeze i;exact⟨l,bg,fz i δ,β,o,β',d,e,gU.pre s q⟩
noncomputable def m_(n:Nat)(ds:List D):Ds:=ds.map (λd=>on (Sl.sh d))++O0 (n-ds.length) Om
def fP(n:Nat)(g:G):List D->M D:=λds β=>match g (m_ n ds) β with
 |some (.rt d,β')=>on (.ok d,β')
 |some (.nx _,β')=>on (.ok .non,β')
 |some (.ex C _,β')=>on (.error C,β')
 |_=>Om
theorem oF{F:Fx}{H:Hp}{β:Bg}{N:List Pn}(fr:Fr F H β)(hd:bb K F H ds vs):∃B,fw K H B F.bg H (m_ N.length ds) β (eV N vs)/\(∀a,F.A a->B a=on 0\/B a=on 1)/\(∀a,B a=on 1->∃b l,F.bg=on (b,l)/\(a=b\/a=l))/\(∀a,B a≠Om->F.A a):=by
 classical
 refine⟨λa=>if F.A a then(if ∃b l,F.bg=on (b,l)/\(a=b\/a=l)then on 1 else on 0)else Om,⟨⟨λa ha=>fr.occ a ?_,λb l e=>?_,fr.bag⟩,λb l e=>?_,?_,λ_ h=>h,λc k o=>(by
  have g:(if F.A c then(if ∃b l,F.bg=on (b,l)/\(c=b\/c=l)then on 1 else on 0)else Om)=on (k+2):=o;split at g
  .split at g<;>cases g
  .cases g),λc k o=>(by
  have g:(if F.A c then(if ∃b l,F.bg=on (b,l)/\(c=b\/c=l)then on 1 else on 0)else Om)=on (k+2):=o;split at g
  .split at g<;>cases g
  .cases g),λi s e=>?_⟩,λa ha=>?_,λa ha=>?_,λa ha=>?_⟩
 .have j:(if F.A a then(if ∃b l,F.bg=on (b,l)/\(a=b\/a=l)then on 1 else on 0)else Om)≠(Om:Option Nat):=ha
  split at j
  .assumption
  .exact O4 rfl j
 .obtain⟨a1,a2,a3⟩:=fr.bgA b l e
  refine⟨?_,?_,a3⟩
  .show(if F.A b then(if ∃m l,F.bg=on (m,l)/\(b=m\/b=l)then on 1 else on 0)else Om)≠(Om:Option Nat)
   rw[OE a1];split<;>simp
  .show(if F.A l then(if ∃m t,F.bg=on (m,t)/\(l=m\/l=t)then on 1 else on 0)else Om)≠(Om:Option Nat)
   rw[OE a2];split<;>simp
 .obtain⟨a1,a2,a3⟩:=fr.bgA b l e
  exact⟨by rw[OE a1,OE ⟨b,l,e,.inl rfl⟩],by rw[OE a2,OE ⟨b,l,e,.inr rfl⟩]⟩
 .unfold m_ eV
  rw[OQ,OQ,Ol,Ol,Qz,Qz,hd.length]
 .unfold m_ at e
  unfold eV;rw[UT,Ol]at e;rw[UT,Ol,<-hd.length];by_cases q:i<ds.length
  .rw[OE q,Ox]at e
   rw[OE q,Ox];cases z:ds[i]? with
   |none=>rw[z]at e;cases e
   |some d=>
    rw[z]at e;cases e;obtain⟨v,w,y⟩:=hd.get z;refine⟨v,by rw[w];rfl,?_⟩;have r:Tr F H (en (λa=>if F.A a then(if ∃b l,F.bg=on (b,l)/\(a=b\/a=l)then on 1 else on 0)else Om) F.bg) H:=by
     refine⟨λa ha _ C=>?_,λ_ _ _ h=>h,rfl⟩;have u:(if F.A a then(if ∃b l,F.bg=on (b,l)/\(a=b\/a=l)then on 1 else on 0)else Om)≠(Om:Option Nat):=C;rw[OC ha]at u;exact u rfl
    exact c_.tr r _ _ y
  .rw[OC q,Q4]at e
   split at e<;>cases e
 .simp only[OE ha]
  split
  .exact .inr rfl
  .exact .inl rfl
 .simp only at ha
  split at ha
  .split at ha
   .assumption
   .cases ha
  .cases ha
 .simp only at ha
  split at ha
  .assumption
  .exact O4 rfl ha
variable{P:Pf}{w:Po}{mg:Pn->Option Oy}{base:P5}
theorem JS{x i:Pn}{st:Qg}{f:Ou}{fd:O8}{N ps:List Pn}{k:Nat}(F:d4 K x i st f fd)(S:cp N ps (af st))
  (I:∀(j:Oy) (A:PV) (outer:List VN) (s:OD) (H:Hp) (E:XK),eg k (A.deeper (SW i (af st) s.heap.objs.size f j))->
   PSs (eJ (hE P w) P w K mg base N i (af st) f j A outer s H E) (bZ st) (tG K H g (λ_=>E))):e_ P w K mg base (hE P w) (k+1) f fd ps (D_ K ps.length (fP N.length g)):=by
 refine F.okE S (λvs H Q E h=>h.1) λj A outer s H vs Q E Z h=>?_;obtain⟨hl,u,ds,β,fr,hd,r,β',e,h⟩:=h;refine⟨_,I j A outer s H E Z,?_⟩;obtain⟨B,ok,U,h1,hn⟩:=oF (N:=N) fr hd;have J:∀{y:Ow} {H':Hp},hU B H y H'->Fr (en y u.bg) H' β'->To u H H' β'/\Tr (en y u.bg) H' u H':=λ{y H'} s m=>by
  have hs:∀a,u.A a->y a≠Om:=λa ha=>by
   rw[s.tg a (U a ha)];rcases U a ha with z|z<;>rw[z]<;>simp
  refine⟨⟨λa o ha n=>s.kp a o ha ?_,λa ha=>m.occ a (hs a ha),λb l e=>fr.bgA b l e,m.bag⟩,λa ha _ z=>ha (hs a z),λ_ _ _ h=>h,rfl⟩;cases q:B a with
  |none=>exact .inl rfl
  |some t=>
   have:=U a (hn a (by rw[q];simp));rcases this with z|z
   .rw[q]at z;exact .inr z
   .obtain⟨b,l,e,w⟩:=h1 a z
    obtain⟨n1,n2⟩:=n b l e;rcases w with w|w
    .exact O4 w n1
    .exact O4 w n2
 unfold fP at e;split at e
 .rename_i d β1 R
  cases e;refine⟨B,u.bg,m_ N.length ds,β,.rt d,β',ok,R,λv y H' s m hv=>?_⟩;obtain⟨T,W⟩:=J s m;exact h v H' T (c_.tr W _ _ hv)
 .rename_i L β1 R
  cases e;refine⟨B,u.bg,m_ N.length ds,β,.nx L,β',ok,R,λY y H' s O=>?_⟩;obtain⟨T,W⟩:=J s O.fr;exact h _ H' T rfl
 .rename_i C L β1 R
  cases e;refine⟨B,u.bg,m_ N.length ds,β,.ex C L,β',ok,R,λY y H' s O=>?_⟩;obtain⟨T,W⟩:=J s O.fr;exact h H' T
 .cases e
variable{prog:Pf}{A:PV}
theorem Of(y:A.handled=Om)(it t:Ou)(ne:t≠it)(d:Array Oy):Wq prog w A it [it,t] d.size (λi v=>d[i]?=on v) (λi h=>h.IsTupleIter it t i/\h.IsTuple t d) where
 live:=λ_ _ st=>let ⟨o,e,_⟩:=st.1;⟨o,e⟩
 frame:=λ_ _ _ st k=>⟨st.1.at λo e=>k it (by simp) o e,by
  obtain⟨o,e,r⟩:=st.2;exact⟨o,k t (by simp) o e,r⟩⟩
 item:=λi s Q E I st J=>by
  obtain⟨o,j,co,g⟩:=id st.1;obtain⟨C,l,_,nt,q⟩:=st.2;have u:d[i]?=on d[i]:=by simp[I]
  unfold QC;refine My (wpAny_callSpecial?_slot (name:=Qq "__next__") st.1.typeIs Su (Ph Su st.1.typeIs Wr ?_ (Wf _)));show OK _ _ (X7 (.ref it) 0>>=_) _ _ _;refine My (Qb j g (x:= .ref t) rfl ?_);show OK _ _ (if(OP t==Pj)=Oq then _ else _) _ _ _;rw[OC (show ¬((OP t==Pj)=Oq)from OH)];show OK _ _ (X7 (.ref it) 1>>=_) _ _ _;refine My (Qb j g (x:= .int i 0) rfl ?_);show OK _ _ (seqItems? (.ref t)>>=_) _ _ _;refine My (QE l q ?_);simp only[P3,u];refine My (RQ j g (by simp) (On ⟨d[i],rfl,On (J _ _ s.toks u ⟨?_,?_⟩ (Qf ..))⟩))
  .exact⟨_,Rl _ j (S7 (Qp g _)),(Um ..).trans co,by rw[Qp g];simp[R4]⟩
  .exact⟨C,(Qf ..).extBut _ _ ne l,by assumption,nt,q⟩
 done:=λs Q E st L=>by
  obtain⟨o,j,co,g⟩:=id st.1;obtain⟨C,l,_,nt,q⟩:=st.2;have u:d[d.size]?=Om:=by simp
  unfold QC;refine My (wpAny_callSpecial?_slot (name:=Qq "__next__") st.1.typeIs Su (Ph Su st.1.typeIs Wr ?_ (Wf _)));show OK _ _ (X7 (.ref it) 0>>=_) _ _ _;refine My (Qb j g (x:= .ref t) rfl ?_);show OK _ _ (if(OP t==Pj)=Oq then _ else _) _ _ _;rw[OC (show ¬((OP t==Pj)=Oq)from OH)];show OK _ _ (X7 (.ref it) 1>>=_) _ _ _;refine My (Qb j g (x:= .int d.size 0) rfl ?_);show OK _ _ (seqItems? (.ref t)>>=_) _ _ _;refine My (QE l q ?_);simp only[P3,u];refine My (R5 (My (RQ j g (by simp) ?_)));show OK _ _ (Wn (.type "StopIteration") []>>=_) _ _ _;refine My ?_;simp only[Wn,newTuple];refine My (Pk ?_ (by size_fits));refine My (m:=RO _ _) (R0 (a:=Pj) (by first|rfl|(simp only[RO];rfl)) ?_);refine Pk ?_ (by size_fits)
  simp only[Xc];refine My (VE ?_)
  first|rw[show A.in1.handled=Om from y]|rw[y];skip
  refine My (On (Wz ?_));exact L _ _ (((Qf ..).extBut.push _).push _) ⟨_,OL _ rfl,rfl⟩
structure Ap (z TI TO i1 i2:Ou) (f1 f2:List Ou):Prop where
 a1:TI≠z
 a2:TO≠z
 a3:i1≠z
 a4:i2≠z
 a5:TI≠TO
 a6:TI≠i1
 a7:TI≠i2
 a8:TO≠i1
 a9:TO≠i2
 b1:i1≠i2
 c1:z∉f1
 c2:TO∉f1
 c3:i2∉f1
 d1:z∉f2
 d2:TO∉f2
 d3:i1∉f2
 m1:i1∈f1
 m2:i2∈f2
end
section
variable{prog:Pf}{w:Po}{A:PV}{E:Oy->OD->Prop}{s:OD}
theorem bX{it:Ou}{f:List Ou}{h h':P5}(a:Pd it h h')(n:it∉f):∀b∈f,∀o,h.get? b=on o->h'.get? b=on o:=λb c o e=>a.extBut b o (λq=>n (q▸c)) e
theorem xP{z TI TO r t:Ou}{f1 f2:List Ou}{u B k:Nat}{P1 P2:Nat->Oy->Prop}{W X:Nat->P5->Prop}{a b:Oy}{Q:Oy->OD->Prop}(L:Wq prog w A r f1 u P1 W)(N:Wq prog w A t f2 B P2 X)(d:Ap z TI TO r t f1 f2)
  (P:UC s.heap z TI TO .none) (eI:RK s.heap TI (.ref r) (.ref t)) (eO:RK s.heap TO a b) (s1:W k s.heap) (s2:X k s.heap) (k1:k<u) (k2:k<B)
  (hQ:∀h' tk x y,P1 k x->P2 k y->UC h' z TI TO (R4 s.heap.objs.size)->RK h' TO x y->W (k+1) h'->X (k+1) h'->RK h' s.heap.objs.size x y->h'.objs.size=s.heap.objs.size+1->(∀c o,c≠z->c≠TO->c≠r->c≠t->s.heap.get? c=on o->h'.get? c=on o)->Q (.ref s.heap.objs.size) {s with heap:=h',toks:=tk}):
  OK (O7 prog w) A (Builtin.«zip.__next__» ⟨[.ref z],[]⟩) (λZ s'=>∃v,Z= .done (.ret v)/\Q v s') E s:=by
 obtain⟨hp,gg,dd,tk0,os⟩:=s;show OK _ _ (X7 (.ref z) 2>>=_) _ _ _;refine My (Qb P rfl (x:= .bool Ov) rfl ?_);show OK _ _ (X7 (.ref z) 3>>=_) _ _ _;refine My (Qb P rfl (x:= .ref TI) rfl ?_);refine My (QE eI rfl ?_);show OK _ _ (QT (.ref z)>>=_) _ _ _;refine My ?_;unfold QT;refine My (Qb P rfl (x:= .none) rfl (On ?_));simp only[PN];refine My (R5 ?_);refine My (Qb P rfl (x:= .ref TO) rfl ?_);refine My (Qk P (by simp) λg1 C g=>?_)
 replace C:UC g1 z TI TO .ellipsis:=C
 replace g:Pd z hp g1:=g
 refine My ?_;simp only[List.zipIdx_cons,List.zipIdx_nil,RV,R9];refine My (My (VF ?_));show OK _ _ (QC (.ref r)>>=_) _ _ _;refine My (L.item k _ _ _ k1 (L.frame _ _ _ s1 (bX g d.c1)) λx g2 tk2 px st2 h=>On ?_)
 replace h:Pd r g1 g2:=h
 have R:RK g2 TO a b:=h.extBut _ _ d.a8 (g.extBut _ _ d.a2 eO);refine My (QE R rfl ?_);refine My (Vo R λg3 F i=>?_)
 replace F:RK g3 TO x b:=F
 replace i:Pd TO g2 g3:=i
 refine My (Wx (On ?_));refine My (My (VF ?_));show OK _ _ (QC (.ref t)>>=_) _ _ _;refine My (N.item k _ _ _ k2 (N.frame _ _ _ (N.frame _ _ _ (N.frame _ _ _ s2 (bX g d.d1)) (bX h d.d3)) (bX i d.d2)) λy g4 tk4 py st4 j=>On ?_)
 replace j:Pd t g3 g4:=j
 have T:RK g4 TO x b:=j.extBut _ _ d.a9 F;refine My (QE T rfl ?_);refine My (Vo T λf m l=>?_)
 replace m:RK f TO x y:=m
 replace l:Pd TO g4 f:=l
 refine My (Wx (On (On ?_)));refine My (QE m rfl ?_);refine My (Xe ?_);have zs:f.objs.size=hp.objs.size:=by rw[l.1,j.1,i.1,h.1,g.1]
 have U:UC f z TI TO .ellipsis:=l.extBut _ _ d.a2.symm (j.extBut _ _ d.a4.symm (i.extBut _ _ d.a2.symm (h.extBut _ _ d.a3.symm C)));have kp5:∀c o,c≠z->c≠TO->c≠r->c≠t->hp.get? c=on o->f.get? c=on o:=λc o u B n3 n4 e=>l.extBut _ _ B (j.extBut _ _ n4 (i.extBut _ _ B (h.extBut _ _ n3 (g.extBut _ _ u e))));have st1:W (k+1) f:=L.frame _ _ _ (L.frame _ _ _ (L.frame _ _ _ st2 (bX i d.c2)) (bX j d.c3)) (bX l d.c2);have st5:X (k+1) f:=N.frame _ _ _ st4 (bX l d.d2);have zl:z<f.objs.size:=O1 U;show OK _ _ (TM (.ref z) (.ref f.objs.size)>>=_) _ _ _;refine My ?_;unfold TM;have ez6:UC (f.push {cls:= .type "tuple",data:= .seq #[x,y]}) z TI TO .ellipsis:=Oo _ U;refine My (Qk ez6 (by simp) λg7 H I=>?_)
 replace H:UC g7 z TI TO (R4 f.objs.size):=H
 refine Qk H (by simp) λO p J=>?_
 replace p:UC O z TI TO (R4 f.objs.size):=p
 have Y:∀c o,c≠z->f.get? c=on o->O.get? c=on o:=λc o n e=>J.extBut _ _ n (I.extBut _ _ n (Oo _ e));have eT:RK O f.objs.size x y:=J.extBut _ _ (Rf zl) (I.extBut _ _ (Rf zl) (OL _ rfl));have z8:O.objs.size=f.objs.size+1:=by rw[J.1,I.1,Qn]
 rw[zs]at p eT z8;refine On ⟨_,rfl,?_⟩;show Q (.ref f.objs.size) ⟨O,gg,dd,_,os⟩;rw[zs];exact hQ O _ x y px py p (Y _ _ d.a2 m) (L.frame _ _ _ st1 λb hb o e=>Y b o (λq=>d.c1 (q▸hb)) e) (N.frame _ _ _ st5 λb hb o e=>Y b o (λq=>d.d1 (q▸hb)) e) eT z8 λc o u B n3 n4 e=>Y c o u (kp5 c o u B n3 n4 e)
theorem AL{z TI TO n r:Ou}{f1 f2:List Ou}(H:Wq prog w A n f1 m P1 S1)(I:Wq prog w A r f2 T P2 S2)(i:Ap z TI TO n r f1 f2)
  (u:UC s.heap z TI TO .none) (Y:RK s.heap TI (.ref n) (.ref r)) (Z:RK s.heap TO a b) (U:S1 k s.heap) (s2:S2 k s.heap) (N:k=m\/(k<m/\k=T))
  (W:∀h' e tk,(∀c o,c≠z->c≠TO->c≠n->c≠r->s.heap.get? c=on o->h'.get? c=on o)->(∃o,h'.get? e=on o/\o.cls= .type "StopIteration")->E (.ref e) {s with heap:=h',toks:=tk}):
  OK (O7 prog w) A (Builtin.«zip.__next__» ⟨[.ref z],[]⟩) Q E s:=by
 obtain⟨hp,gg,dd,tk0,os⟩:=s;show OK _ _ (X7 (.ref z) 2>>=_) _ _ _;refine My (Qb u rfl (x:= .bool Ov) rfl ?_);show OK _ _ (X7 (.ref z) 3>>=_) _ _ _;refine My (Qb u rfl (x:= .ref TI) rfl ?_);refine My (QE Y rfl ?_);show OK _ _ (QT (.ref z)>>=_) _ _ _;refine My ?_;unfold QT;refine My (Qb u rfl (x:= .none) rfl (On ?_));simp only[PN];refine My (R5 ?_);refine My (Qb u rfl (x:= .ref TO) rfl ?_);refine My (Qk u (by simp) λJ j f=>?_)
 replace j:UC J z TI TO .ellipsis:=j
 replace f:Pd z hp J:=f
 refine My ?_;simp only[List.zipIdx_cons,List.zipIdx_nil,RV,R9];refine My (My (VF ?_));show OK _ _ (QC (.ref n)>>=_) _ _ _;rcases N with rfl|⟨N,rfl⟩
 .refine My (H.done _ _ _ (H.frame _ _ _ U (bX f i.c1)) λt e d O=>?_)
  replace d:US n J t:=d
  obtain⟨P,h,v⟩:=O;have y:UC t z TI TO .ellipsis:=d _ _ i.a3.symm j;have p:e≠z:=λq=>by subst q;rw[y]at h;cases h;simp at v
  exact Qk y (by simp) λL _ g=>W L e _ (λc o m _ R _ q=>g.extBut _ _ m (d _ _ R (f.extBut _ _ m q))) ⟨P,g.extBut _ _ p h,v⟩
 .refine My (H.item k _ _ _ N (H.frame _ _ _ U (bX f i.c1)) λx t tk2 px st2 d=>On ?_)
  replace d:Pd n J t:=d
  have B:RK t TO a b:=d.extBut _ _ i.a8 (f.extBut _ _ i.a2 Z);refine My (QE B rfl ?_);refine My (Vo B λL eO3 g=>?_)
  replace g:Pd TO t L:=g
  refine My (Wx (On ?_));refine My (My (VF ?_));show OK _ _ (QC (.ref r)>>=_) _ _ _;refine My (I.done _ _ _ (I.frame _ _ _ (I.frame _ _ _ (I.frame _ _ _ s2 (bX f i.d1)) (bX d i.d3)) (bX g i.d2)) λX e l O=>?_)
  replace l:US r L X:=l
  obtain⟨P,h,v⟩:=O;have C:UC X z TI TO .ellipsis:=l _ _ i.a4.symm (g.extBut _ _ i.a2.symm (d.extBut _ _ i.a3.symm j));have p:e≠z:=λq=>by subst q;rw[C]at h;cases h;simp at v
  exact Qk C (by simp) λg5 _ F=>W g5 e _ (λc o m T R n4 q=>F.extBut _ _ m (l _ _ n4 (g.extBut _ _ T (d.extBut _ _ R (f.extBut _ _ m q))))) ⟨P,F.extBut _ _ p h,v⟩
theorem xO{z TI TO e f:Ou}{f1 f2:List Ou}(i:∀d:PV,d.handled=A.handled->Wq prog w d e f1 n1 P1 S1)(j:∀d:PV,d.handled=A.handled->Wq prog w d f f2 n2 P2 S2)(l:Ap z TI TO e f f1 f2)
  (h:UC s.heap z TI TO .none) (m:RK s.heap TI (.ref e) (.ref f)) (n:RK s.heap TO a b) (p:S1 k s.heap) (q:S2 k s.heap) (r:k<n1) (t:k<n2)
  (u:∀h' g x y,P1 k x->P2 k y->UC h' z TI TO (R4 s.heap.objs.size)->RK h' TO x y->S1 (k+1) h'->S2 (k+1) h'->RK h' s.heap.objs.size x y->h'.objs.size=s.heap.objs.size+1->(∀c o,c≠z->c≠TO->c≠e->c≠f->s.heap.get? c=on o->h'.get? c=on o)->Q (on (.ref s.heap.objs.size)) {s with heap:=h',toks:=g}):
  OK (O7 prog w) A (Sd (.ref z)) Q E s:=by
 have ty:s.TypeIs (.ref z) "zip":=⟨_,h,rfl⟩;unfold Sd;exact My (Sb (wpAny_callSpecial?_slot (name:=Qq "__next__") ty UR (Ph UR ty F.entry_zip_next (xP (i _ rfl) (j _ rfl) l h m n p q r t λh' g x y a1 a2 a3 a4 a5 a6 a7 a8 a9=>On (u h' g x y a1 a2 a3 a4 a5 a6 a7 a8 a9)) (F.args_zip_next_1 _))))
theorem AK{z TI TO f g:Ou}{f1 f2:List Ou}(j:∀d:PV,d.handled=A.handled->Wq prog w d f f1 n1 P1 S1)(l:∀d:PV,d.handled=A.handled->Wq prog w d g f2 n2 P2 S2)(m:Ap z TI TO f g f1 f2)
  (h:UC s.heap z TI TO .none) (n:RK s.heap TI (.ref f) (.ref g)) (p:RK s.heap TO a b) (q:S1 k s.heap) (r:S2 k s.heap) (t:k=n1\/(k<n1/\k=n2))
  (u:∀h' i,(∀c o,c≠z->c≠TO->c≠f->c≠g->s.heap.get? c=on o->h'.get? c=on o)->Q Om {s with heap:=h',toks:=i}):OK (O7 prog w) A (Sd (.ref z)) Q E s:=by
 have ty:s.TypeIs (.ref z) "zip":=⟨_,h,rfl⟩;unfold Sd;refine My (Sb (wpAny_callSpecial?_slot (name:=Qq "__next__") ty UR (Ph UR ty F.entry_zip_next (AL (j _ rfl) (l _ rfl) m h n p q r t λh' e i v y=>?_) (F.args_zip_next_1 _))));obtain⟨o,B,C⟩:=y;refine My (QI (T:="StopIteration") (b:=Oq) ⟨o,B,C⟩ Vm ?_);exact On (u _ _ v)
def v_(b:Bool)(h:P5)(a:Ou)(its:Array Oy):Prop:=if b=Oq then h.IsList a its else h.IsTuple a its
noncomputable def Io(b:Bool):String:=if b=Oq then "list_iterator"else "tuple_iterator"
noncomputable abbrev pz(b:Bool)(a:Ou):Pa:={cls:= .type (Io b),data:= .fields #[.ref a,.int 0 0]}
def fQ(b:Bool)(h:P5)(it a:Ou)(k:Nat):Prop:=if b=Oq then h.IsListIter it a k else h.IsTupleIter it a k
theorem v_.keep{b:Bool}{h h':P5}(x:v_ b h a its)(k:∀o,h.get? a=on o->h'.get? a=on o):v_ b h' a its:=by
 unfold v_ at x⊢;split at x
 .rename_i q;rw[OE q];exact x.at λo e=>k o e
 .rename_i q;rw[OC q]
  obtain⟨o,e,r⟩:=x;exact⟨o,k o e,r⟩
theorem oY{b:Bool}(x:v_ b s.heap a its)(h:Q (.ref s.heap.objs.size) {s with heap:=s.heap.push (pz b a)}):OK (O7 prog w) A (UZ (.ref a)) Q E s:=by
 cases b with
 |true=>exact UG (show s.heap.IsList a its from x) h
 |false=>exact VL (show s.heap.IsTuple a its from x) h
theorem se(b:Bool)(c:A.handled=Om)(it a:Ou)(ne:a≠it)(its:Array Oy):Wq prog w A it [it,a] its.size (λi v=>its[i]?=on v) (λi h=>fQ b h it a i/\v_ b h a its):=by
 cases b with
 |true=>exact Xs c it a ne its
 |false=>exact Of c it a ne its
abbrev Y2(b1:Bool)(h:P5)(a:Ou):P5:=h.push (pz b1 a)
abbrev Y1(b1 b2:Bool)(h:P5)(a b:Ou):P5:=(Y2 b1 h a).push (pz b2 b)
abbrev Y0(b1 b2:Bool)(h:P5)(a b:Ou):P5:=(Y1 b1 b2 h a b).push {cls:= .type "tuple",data:= .seq #[.ref h.objs.size,.ref (Y2 b1 h a).objs.size]}
abbrev YZ(b1 b2:Bool)(h:P5)(a b:Ou):P5:=(Y0 b1 b2 h a b).push {cls:= .type "tuple",data:= .seq #[.none,.none]}
abbrev Q_(b1 b2:Bool)(h:P5)(a b:Ou):P5:=(YZ b1 b2 h a b).push {cls:= .type "zip",data:= .fields #[.none,.bool Ov,.bool Ov,.ref (Y1 b1 b2 h a b).objs.size,.ref (Y0 b1 b2 h a b).objs.size]}
theorem wW(b1 b2:Bool)(a b:Ou)(xs ys:Array Oy):
  Meets (Builtin.«zip.__new__» ⟨[.type "zip",.ref a,.ref b],[]⟩) (λ_ R s=>v_ b1 s.heap a xs/\v_ b2 s.heap b ys/\R (.ok (.ret (.ref (YZ b1 b2 s.heap a b).objs.size))) {s with heap:=Q_ b1 b2 s.heap a b}):=
 .of_wp λprog w A R s h=>by
  obtain⟨c,g,d,f,os⟩:=s;obtain⟨j,k,q⟩:=h;have i:=sub_zip;have l:v_ b1 (Shared.heap ⟨c,g,d,f,os⟩) a xs:=j;have m:v_ b2 (Shared.heap ⟨c.push (pz b1 a),g,d,f,os⟩) b ys:=k.keep λo e=>Oo _ e
  wp_walk using oY l,oY m
  exact⟨_,rfl,q⟩
theorem z5{b1 b2:Bool}(q:v_ b1 s.heap l1 xs)(r:v_ b2 s.heap l2 ys)
  (h:∀h',UC h' (s.heap.objs.size+4) (s.heap.objs.size+2) (s.heap.objs.size+3) .none->RK h' (s.heap.objs.size+2) (.ref s.heap.objs.size) (.ref (s.heap.objs.size+1))->RK h' (s.heap.objs.size+3) .none .none->fQ b1 h' s.heap.objs.size l1 0->fQ b2 h' (s.heap.objs.size+1) l2 0->h'.objs.size=s.heap.objs.size+5->(∀c o,s.heap.get? c=on o->h'.get? c=on o)->Q (.ref (s.heap.objs.size+4)) {s with heap:=h'}):
  OK (O7 prog w) A (VI (.type "zip") [.ref l1,.ref l2]) Q E s:=by
 refine callType_new F.called_zip (by decide) (F.typeCall_zip_2 _ _) (F.newCall_zip_2 _ _) (λobj=>F.args_object_init_3 obj _ _) F.entry_zip_new (wW b1 b2 l1 l2 xs ys) ⟨q,r,?_⟩;have f:(Y2 b1 s.heap l1).objs.size=s.heap.objs.size+1:=Qn ..;have g:(Y1 b1 b2 s.heap l1 l2).objs.size=s.heap.objs.size+2:=by rw[Qn,f]
 have i:(Y0 b1 b2 s.heap l1 l2).objs.size=s.heap.objs.size+3:=by rw[Qn,g]
 have j:(YZ b1 b2 s.heap l1 l2).objs.size=s.heap.objs.size+4:=by rw[Qn,i]
 have t:(Q_ b1 b2 s.heap l1 l2).objs.size=s.heap.objs.size+5:=by rw[Qn,j]
 have k:(Q_ b1 b2 s.heap l1 l2).get? (YZ b1 b2 s.heap l1 l2).objs.size=on _:=OL _ rfl;have l:(Q_ b1 b2 s.heap l1 l2).get? (Y0 b1 b2 s.heap l1 l2).objs.size=on _:=Oo _ (OL _ rfl);have m:(Q_ b1 b2 s.heap l1 l2).get? (Y1 b1 b2 s.heap l1 l2).objs.size=on _:=Oo _ (Oo _ (OL _ rfl));have n:(Q_ b1 b2 s.heap l1 l2).get? (Y2 b1 s.heap l1).objs.size=on _:=Oo _ (Oo _ (Oo _ (OL _ rfl)));have u:(Q_ b1 b2 s.heap l1 l2).get? s.heap.objs.size=on _:=Oo _ (Oo _ (Oo _ (Oo _ (OL _ rfl))));show _/\_;rw[g,i,j]at k;rw[f,g]at m;rw[i]at l;rw[f]at n;rw[j];have d:∀(b:Bool) (h':P5) (p a:Ou),h'.get? p=on (pz b a)->fQ b h' p a 0:=λb h' p a e=>by
  cases b with
  |true=>exact⟨_,e,rfl,rfl⟩
  |false=>exact⟨_,e,rfl,rfl⟩
 exact⟨⟨_,k,rfl⟩,h _ k m l (d _ _ _ _ u) (d _ _ _ _ n) t λc o x=>Oo _ (Oo _ (Oo _ (Oo _ (Oo _ x))))⟩
def ss(b:Bool)(K:OX)(H:Hp)(a:Ou)(xs:List V):Prop:=if b=Oq then fx K H a xs else i_ K H a xs
noncomputable def Zq(b1 b2:Bool)(K:OX)(a b:Ou):It:=
 ⟨λi H=>∃xs ys x y,ss b1 K H a xs/\ss b2 K H b ys/\xs[i]?=on x/\ys[i]?=on y,
  λi H v c=>∃p x y,H p=Om/\v= .ref p/\c=upd H p (.tup [x,y])/\∀xs ys,ss b1 K H a xs->ss b2 K H b ys->xs[i]?=on x/\ys[i]?=on y,
  λi H=>∃xs ys,ss b1 K H a xs/\ss b2 K H b ys/\(xs.length=i\/(i<xs.length/\ys.length=i))⟩
variable{X:Cx}{a_:List (Ou×Pa)}{σ:St}{H:Hp}
theorem dc.src{b:Bool}(I:dc X a_ σ H s)(h:ss b X.K H a xs):∃its:List Oy,au xs its/\v_ b s.heap a its.toArray:=by
 cases b with
 |true=>
  obtain⟨its,r,p,_⟩:=I.list (show fx X.K H a xs from h);exact⟨its,r,p.isList⟩
 |false=>
  obtain⟨its,r,p,_⟩:=I.tuple (show i_ X.K H a xs from h);exact⟨its,r,p⟩
theorem dc.src_inj{b:Bool}(I:dc X a_ σ H s)(h:ss b X.K H a xs)(h':ss b X.K H a ys):xs=ys:=by
 cases b with
 |true=>exact I.list_inj (show fx X.K H a xs from h) h'
 |false=>exact I.tuple_inj (show i_ X.K H a xs from h) h'
theorem fQ.get{b:Bool}{h:P5}(x:fQ b h it a k):∃o,h.get? it=on o/\o.cls= .type (Io b)/\∃fs,o.data= .fields fs:=by
 cases b with
 |true=>obtain⟨o,e,c,d⟩:=(show h.IsListIter it a k from x);exact⟨o,e,c,_,d⟩
 |false=>obtain⟨o,e,c,d⟩:=(show h.IsTupleIter it a k from x);exact⟨o,e,c,_,d⟩
theorem fQ.keep{b:Bool}{h h':P5}(x:fQ b h it a k)(q:∀o,h.get? it=on o->h'.get? it=on o):fQ b h' it a k:=by
 cases b with
 |true=>exact(show h.IsListIter it a k from x).at λo e=>q o e
 |false=>exact(show h.IsTupleIter it a k from x).at λo e=>q o e
theorem dc.turnNew{h':P5}{t':Nat}{ch:List Ou}{p:Ou}{o:HO}(I:dc X a_ σ H s)(a:∀b∈ch,eL X a_ H b)(k:∀b u,b∉ch->s.heap.get? b=on u->h'.get? b=on u)(d:s.heap.objs.size<=p)(new:bF X.prog X.w (upd H p o) h' p o):dc X a_ σ (upd H p o) {s with heap:=h',toks:=t'}:=by
 have hn:H p=Om:=I.hok.fresh d;have nt:∀b u,H b=on u->b∉ch:=λb u e z=>by rw[(a b z).1]at e;cases e
 refine I.call' (s':={s with heap:=h',toks:=t'}) (ch:=ch) rfl ⟨λb u e _ _ hc=>k b u hc e,λb u e _ _ hc=>⟨u.slots,k b u hc e⟩,λb u e z hc=>?_,λb u e hc=>⟨u,k b u hc e⟩,λb ys e=>?_,λb u ys e=>?_,λb ys e=>⟨#[],?_⟩⟩ (λb u e=>?_) I.bare λb f=>?_
 .rw[bt (Ps (O3 (O1 e) d))];exact z
 .rw[bt (ay e hn)];exact e
 .rw[bt (ay e hn)];exact e
 .rw[bt (ay e hn),e];simp
 .by_cases z:b=p
  .subst z;rw[aj]at e;cases e;exact new
  .rw[bt z]at e
   refine(I.hok b u e).stay (λc v hc q=>k c v ?_ q) (λc q=>by rw[bt (ay q hn)];exact q) λc xs q=>by rw[bt (ay q hn)];exact q
   rcases hc with rfl|hc
   .exact nt _ _ e
   .exact nt _ _ hc
 .obtain⟨j,f1,f2,g,h,i⟩:=a b f
  exact⟨g,f1,h,i⟩
theorem dc.turnL{h':P5}{ch:List Ou}(I:dc X a_ σ H s)(a:∀b∈ch,eL X a_ H b)(k:∀b u,b∉ch->s.heap.get? b=on u->h'.get? b=on u):dc X a_ σ H {s with heap:=h',toks:=t'}:=by
 have nt:∀b u,H b=on u->b∉ch:=λb u e z=>by rw[(a b z).1]at e;cases e
 refine I.call' (s':={s with heap:=h',toks:=t'}) (ch:=ch) rfl ⟨λb u e _ _ hc=>k b u hc e,λb u e _ _ hc=>⟨u.slots,k b u hc e⟩,λb u e z hc=>z,λb u e hc=>⟨u,k b u hc e⟩,λb ys e=>e,λb u ys e=>e,λb ys e=>⟨#[],by rw[e];simp⟩⟩ (λb u e=>?_) I.bare λb d=>?_
 .refine(I.hok b u e).stay (λc v hc q=>k c v ?_ q) (λc q=>q) λc xs q=>q
  rcases hc with rfl|hc
  .exact nt _ _ e
  .exact nt _ _ hc
 .obtain⟨i,f1,f2,f,g,h⟩:=a b d
  exact⟨f,f1,g,h⟩
theorem dc.src_ne{b:Bool}(I:dc X a_ σ H s)(h:ss b X.K H a xs)(f:eL X a_ H c):a≠c:=by
 obtain⟨i,f1,f2,f3,j,k⟩:=f;have d:∀o,X.K.lookup a=on o->a≠c:=λo e z=>by
  have g:=I.ok.mod.kin a o e;subst z;rcases f3 with f3|f3
  .exact I.ok.noex a o g f3
  .exact O4 (O3 (O1 (I.ok.bs a o g).1) f3) (PH _)
 have rd:∀u,Rd H a u->a≠c:=λu r z=>by
  subst z;rcases r with r|⟨_,r⟩<;>rw[i]at r<;>cases r
 cases b with
 |true=>
  rcases(show fx X.K H a xs from h)with h|⟨o,_,_,e,_⟩
  .exact rd _ h
  .exact d o e
 |false=>
  rcases(show i_ X.K H a xs from h)with h|⟨o,_,_,e,_⟩
  .exact rd _ h
  .exact d o e
theorem AW{w:Po}{K:OX}{x1}(b1 b2:Bool)(C F z TI TO f g:Ou)(nd:[z,TI,TO,f,g].Nodup):
  nw P w K (.Tuple elts x1 pos) (Zq b1 b2 K C F) [z,TI,TO,f,g] z (λi h=>UC h z TI TO .none/\RK h TI (.ref f) (.ref g)/\(∃a b,RK h TO a b)/\fQ b1 h f C i/\fQ b2 h g F i) where
 mem:=by simp
 obj:=λi h st b j=>by
  obtain⟨p,r,⟨a,b',J⟩,L,N⟩:=st;simp only[ON,Qe,SG]at j;rcases j with rfl|rfl|rfl|rfl|rfl
  .exact⟨_,p,λv q=>by cases q⟩
  .exact⟨_,r,λv q=>by cases q⟩
  .exact⟨_,J,λv q=>by cases q⟩
  .obtain⟨o,e,_,fs,d⟩:=L.get
   exact⟨o,e,λv q=>by rw[d]at q;cases q⟩
  .obtain⟨o,e,_,fs,d⟩:=N.get
   exact⟨o,e,λv q=>by rw[d]at q;cases q⟩
 keep:=λi h h' st k=>by
  obtain⟨p,r,⟨a,b',J⟩,L,N⟩:=st;exact⟨k z (by simp) _ p,k TI (by simp) _ r,⟨a,b',k TO (by simp) _ J⟩,L.keep λo e=>k f (by simp) o e,N.keep λo e=>k g (by simp) o e⟩
 item:=by
  intro X hP hw hK n i a_ s σ H E I O st hg;subst hP hw hK;obtain⟨xs,ys,x,y,q1,q2,hx,hy⟩:=hg;obtain⟨p,r,⟨a,b',J⟩,L,N⟩:=st;obtain⟨l,r1,p1⟩:=dc.src I q1;obtain⟨m,r2,p2⟩:=dc.src I q2;have hd:=I.ok.hd n;simp only[Pw,ON,Qe,SG,Yq]at nd;obtain⟨⟨Y,z2,U,W⟩,⟨t1,t2,t3⟩,⟨Z,o2⟩,R,_⟩:=nd;have t:∀c∈[z,TI,TO,f,g],C≠c:=λc n=>dc.src_ne I q1 (O c n);have B:∀c∈[z,TI,TO,f,g],F≠c:=λc n=>dc.src_ne I q2 (O c n);have ap:Ap z TI TO f g [f,C] [g,F]:=⟨Ne.symm Y,Ne.symm z2,Ne.symm U,Ne.symm W,t1,t2,t3,Z,o2,R,by simp[U,(t z (by simp)).symm],by simp[Z,(t TO (by simp)).symm],by simp[Ne.symm R,(t g (by simp)).symm],by simp[W,(B z (by simp)).symm],by simp[o2,(B TO (by simp)).symm],by simp[R,(B f (by simp)).symm],by simp,by simp⟩;have k1:i<l.toArray.size:=by
   rw[OU,<-r1.length];exact(OI.mp hx).1
  have k2:i<m.toArray.size:=by
   rw[OU,<-r2.length];exact(OI.mp hy).1
  refine xO (λA' h'=>se b1 (h'.trans hd) f C (t f (by simp)) l.toArray) (λA' h'=>se b2 (h'.trans hd) g F (B g (by simp)) m.toArray) ap p r J ⟨L,p1⟩ ⟨N,p2⟩ k1 k2 λh' tk u v pu pv fz fO f1 f2 fT sz kp=>?_;refine⟨_,rfl,wpAny_letOwnedTupleGo_zip (s:={s with heap:=h',toks:=tk}) fz λT ez'' Q=>?_⟩
  replace Q:Pd z h' T:=Q
  have zT:s.heap.objs.size≠z:=Rf (O1 p);obtain⟨u',hu,ru⟩:=r1.get hx;obtain⟨v',hv,rv⟩:=r2.get hy;have eu:u=u':=by
   have:l[i]?=on u:=by simpa using pu
   rw[this]at hu;exact Pb hu
  have ev:v=v':=by
   have:m[i]?=on v:=by simpa using pv
   rw[this]at hv;exact Pb hv
  subst eu ev;have kk:∀b o,b∉[z,TI,TO,f,g]->s.heap.get? b=on o->T.get? b=on o:=λb o j e=>by
   simp only[ON,Qe,SG,Yq]at j;exact Q.extBut b o j.1 (kp b o j.1 j.2.2.1 j.2.2.2.1 j.2.2.2.2 e)
  have I2:dc X a_ σ (upd H s.heap.objs.size (.tup [x,y])) {s with heap:=T,toks:=tk}:=by
   refine dc.turnNew I O kk (OG _) ⟨by show 2<=OV;decide,[u,v],.cons ru (.cons rv .nil),_,Q.extBut _ _ zT fT,rfl,_,rfl⟩
  refine⟨.ref s.heap.objs.size,_,I2,rfl,⟨s.heap.objs.size,x,y,I.hok.fresh (OG _),rfl,rfl,λas bs h1 h2=>⟨by rw[dc.src_inj I h1 q1];exact hx,by rw[dc.src_inj I h2 q2];exact hy⟩⟩,⟨ez'',?_,⟨u,v,?_⟩,?_,?_⟩,λb j=>?_⟩
  .exact Q.extBut _ _ (Ne.symm Y) (kp TI _ (Ne.symm Y) t1 t2 t3 r)
  .exact Q.extBut _ _ (Ne.symm z2) fO
  .exact f1.1.keep λo e=>Q.extBut _ _ (Ne.symm U) e
  .exact f2.1.keep λo e=>Q.extBut _ _ (Ne.symm W) e
  .rw[bt]
   .exact(O b j).1
   .intro q
    have ol:∃o,s.heap.get? b=on o:=by
     simp only[ON,Qe,SG]at j;rcases j with rfl|rfl|rfl|rfl|rfl
     .exact⟨_,p⟩
     .exact⟨_,r⟩
     .exact⟨_,J⟩
     .obtain⟨o,e,_⟩:=L.get;exact⟨o,e⟩
     .obtain⟨o,e,_⟩:=N.get;exact⟨o,e⟩
    obtain⟨o,e⟩:=ol;exact O4 (O1 e) (by rw[q];exact PH _)
 done:=by
  intro X hP hw hK n i a_ s σ H E I O st hg;subst hP hw hK;obtain⟨xs,ys,q1,q2,hl⟩:=hg;obtain⟨p,r,⟨a,b',J⟩,L,N⟩:=st;obtain⟨l,r1,p1⟩:=dc.src I q1;obtain⟨m,r2,p2⟩:=dc.src I q2;have hd:=I.ok.hd n;simp only[Pw,ON,Qe,SG,Yq]at nd;obtain⟨⟨Y,z2,U,W⟩,⟨t1,t2,t3⟩,⟨Z,o2⟩,R,_⟩:=nd;have t:∀c∈[z,TI,TO,f,g],C≠c:=λc n=>dc.src_ne I q1 (O c n);have B:∀c∈[z,TI,TO,f,g],F≠c:=λc n=>dc.src_ne I q2 (O c n);have ap:Ap z TI TO f g [f,C] [g,F]:=⟨Ne.symm Y,Ne.symm z2,Ne.symm U,Ne.symm W,t1,t2,t3,Z,o2,R,by simp[U,(t z (by simp)).symm],by simp[Z,(t TO (by simp)).symm],by simp[Ne.symm R,(t g (by simp)).symm],by simp[W,(B z (by simp)).symm],by simp[o2,(B TO (by simp)).symm],by simp[R,(B f (by simp)).symm],by simp,by simp⟩;have g1:l.toArray.size=xs.length:=by rw[OU,<-r1.length]
  have g2:m.toArray.size=ys.length:=by rw[OU,<-r2.length]
  refine AK (λA' h'=>se b1 (h'.trans hd) f C (t f (by simp)) l.toArray) (λA' h'=>se b2 (h'.trans hd) g F (B g (by simp)) m.toArray) ap p r J ⟨L,p1⟩ ⟨N,p2⟩ ?_ λh' tk kp=>⟨rfl,dc.turnL I O λb o j e=>?_⟩
  .rw[g1,g2]
   rcases hl with hl|⟨h1,h2⟩
   .exact .inl hl.symm
   .exact .inr ⟨h1,h2.symm⟩
  .simp only[ON,Qe,SG,Yq]at j
   exact kp b o j.1 j.2.2.1 j.2.2.2.1 j.2.2.2.2 e
 self:=λ_ _ _ _ _ st h=>wpAny_pyIter_zip st.1 h
end
section
variable{X:Cx}{E:St->XK}{K:OX}
def iZp(K:OX)(d:TA):TI:=λe H R=>d e H λvs a=>∃b1 b2 b c xs ys,vs=[.ref b,.ref c]/\ss b1 K a b xs/\ss b2 K a c ys/\R (Zq b1 b2 K b c) a
theorem K2{x1}(y:Gl X "zip")(hm:X.mg "zip"=Om)(ha:PA X [a,b] ta)(hs:OM [a,b] X.env=[(Ov,P0 a X.env),(Ov,P0 b X.env)]:=by rfl)(g:OM [b] X.env=[(Ov,P0 b X.env)]:=by rfl):
  PI X (.Tuple elts x1 tpos) (.Call (.Name "zip" p) [a,b] [] pos) (iZp X.K ta):=by
 intro f s n H R I h;refine Call_ (fI I y hm PyProof.Rows.Boot.«zip» (Qj (eo (ha pos f s n H _ I h) λus d ⟨vs,o,i,r1,q1⟩=>?_) (by rw[hs,g]) (by rw[g];rfl)));obtain⟨b1,b2,t,u,xs,ys,e,q1,q2,q⟩:=q1;subst e;cases r1 with
 |cons r k=>
  cases k with
  |cons A k=>
   cases k;cases r;cases A;obtain⟨B,P,C⟩:=dc.src i q1;obtain⟨F,Q,J⟩:=dc.src i q2;refine z5 C J λh' v L N l m sz kp=>?_;refine wpAny_pyIter_zip (s:={d with heap:=h'}) v ?_;have O:dc X f n o {d with heap:=h'}:=i.kept (t':=d.toks) kp;refine⟨_,[d.heap.objs.size+4,d.heap.objs.size+2,d.heap.objs.size+3,d.heap.objs.size,d.heap.objs.size+1],_,Zq b1 b2 X.K t u,o,rfl,O,AW b1 b2 t u (d.heap.objs.size+4) (d.heap.objs.size+2) (d.heap.objs.size+3) d.heap.objs.size (d.heap.objs.size+1) (by simp),⟨v,L,⟨_,_,N⟩,l,m⟩,λc w=>?_,q⟩;have j:d.heap.objs.size<=c:=by
    simp only[ON,Qe,SG]at w;rcases w with rfl|rfl|rfl|rfl|rfl
    .exact RC _ _
    .exact RC _ _
    .exact RC _ _
    .exact OG _
    .exact RC _ _
   exact i.fpOk j (i.hok.fresh j)
noncomputable def db:List D->List D->List D
 |x::xs,y::ys=> .tup [x,y]::db xs ys
 |_,_=>[]
theorem sy:∀(xs ys:List D),(db xs ys).length=RP xs.length ys.length
 |[],ys=>by simp[db]
 |x::xs,[]=>by simp[db]
 |x::xs,y::ys=>by
  show(db xs ys).length+1=_;rw[sy xs ys,OR,OR];omega
theorem sB:∀{xs ys:List D} {i:Nat} {d:D},(db xs ys)[i]?=on d->∃x y,xs[i]?=on x/\ys[i]?=on y/\d= .tup [x,y]
 |[],ys,i,d,h=>by simp[db]at h
 |x::xs,[],i,d,h=>by simp[db]at h
 |x::xs,y::ys,0,d,h=>by
  simp[db]at h;exact⟨x,y,rfl,rfl,h.symm⟩
 |x::xs,y::ys,i+1,d,h=>by
  have h':(db xs ys)[i]?=on d:=by simpa[db]using h
  obtain⟨a,b,c,e,f⟩:=sB h';exact⟨a,b,by simpa using c,by simpa using e,f⟩
def AM:List D->Option (List D)
 |[a,b]=>(cY a).bind λxs=>(cY b).map λys=>db xs ys
 |_=>Om
theorem c_.sqS(h:c_ K F H d v)(e:cY d=on ds):∃b a,v= .ref a/\∀f c,Tr F H f c->∃xs,ss b K c a xs/\bb K f c ds xs:=by
 cases d<;>first
  |(cases e;obtain⟨a,xs,rfl,_⟩:=c_.sqL h;refine⟨Oq,a,rfl,λf c t=>?_⟩;obtain⟨j,ys,g,sq,i⟩:=c_.sqL (c_.tr t _ _ h);cases g;exact⟨ys,sq,i⟩)
  |(cases e;obtain⟨a,xs,rfl,_⟩:=c_.sqT h;refine⟨Ov,a,rfl,λf c t=>?_⟩;obtain⟨j,ys,g,sq,i⟩:=c_.sqT (c_.tr t _ _ h);cases g;exact⟨ys,sq,i⟩)
  |cases e
theorem JM{b1 b2:Bool}(n:∀b a,Tr F H b a->∃xs,ss b1 K a l1 xs/\bb K b a ds xs)(o:∀b a,Tr F H b a->∃xs,ss b2 K a l2 xs/\bb K b a es xs):up K (Zq b1 b2 K l1 l2) F H (db ds es):=λb a β2 t fr i=>by
 obtain⟨xs,c,d1⟩:=n b a t;obtain⟨ys,e,d2⟩:=o b a t;refine⟨λd hd=>?_,λq=>?_⟩
 .obtain⟨x,y,f,g,rfl⟩:=sB hd
  obtain⟨u,h,du⟩:=d1.get f;obtain⟨v,j,r⟩:=d2.get g;refine⟨⟨xs,ys,u,v,c,e,h,j⟩,λz B w=>?_⟩;obtain⟨p,C,I,k,rfl,rfl,A⟩:=w;obtain⟨l,m⟩:=A xs ys c e;rw[h]at l;rw[j]at m;cases l;cases m;exact⟨bJ.upd k,c_.newT fr k (bb.cons du (bb.cons r bb.nil))⟩
 .rw[sy]at q
  have f:=d1.length;have g:=d2.length;refine⟨xs,ys,c,e,?_⟩;rw[<-f,<-g];omega
def wV(g:FL):FL:=cZ AM g
theorem pF{x1}(o:Gl X "zip")(hm:X.mg "zip"=Om)(ha:PA X [a,b] (js X.K g E))(hs:OM [a,b] X.env=[(Ov,P0 a X.env),(Ov,P0 b X.env)]:=by rfl)(i:OM [b] X.env=[(Ov,P0 b X.env)]:=by rfl):
  PI X (.Tuple elts x1 tpos) (.Call (.Name "zip" p) [a,b] [] pos) (iV X.K (wV g) E):=
 (K2 o hm ha hs i).imp λI H R j=>lg j λF δ β fr q h=>⟨F,δ,β,fr,q,(run.bind (R:=bb X.K F) h).mono λvs f j=>by
  obtain⟨ds,β1,t,hd,r1⟩:=j;obtain⟨l,e,k⟩:=run.ofO r1;unfold AM at e;split at e
  .rename_i c d
   obtain⟨v,J,rfl,r,u⟩:=bb.two hd;cases q1:cY c with
   |none=>rw[q1]at e;cases e
   |some xs=>
    cases q2:cY d with
    |none=>rw[q1,q2]at e;cases e
    |some ys=>
     rw[q1,q2]at e;cases e;obtain⟨b1,w,rfl,m⟩:=c_.sqS r q1;obtain⟨b2,y,rfl,n⟩:=c_.sqS u q2;obtain⟨us,A,_⟩:=m F f (Tr.refl F f);obtain⟨B,C,_⟩:=n F f (Tr.refl F f);exact⟨b1,b2,w,y,us,B,rfl,A,C,k _ f (To.refl t.fr) (JM m n)⟩
  .cases e⟩
variable{es:List Expr}
end
section
variable{P:Pf}{w:Po}{K:OX}{mg:Pn->Option Oy}{base:P5}{N:List Pn}{qual:Pn}{scope:Scope}{f:Ou}{cd:Oy}{A:PV}{outer:List VN}{s:OD}{H:Hp}{E:XK}
end
section
variable{X:Cx}{E:St->XK}{K:OX}
variable{elt b_ iter:Expr}{ifs:List Expr}{rest:List Qs}{scope:Scope}{pos:TK}{Nc dq:List Pn}{c4:List Nat}{g:TG}{tb:Ou->TB}
theorem aL:dy X [] (g8 X.K (λ_=>M.ret Oq) E0):=λa s b H Q I c=>by obtain⟨F,δ,β,fr,d,r⟩:=c;exact tM a s b H Q I (run.ret fr r rfl)
theorem pK(a:PT X c (g8 X.K t E0)):dy X [c] (g8 X.K t E0):=BR a
theorem bf(c:X.calm=Oq)(S:dr X scope Nc dq c4)(d:PI X b_ iter (iV X.K it E))
  (e:∀(cl:List (Pn×Ou)) (C:Ou) (a:List Ou) (s:OD) (H:Hp),PG (az X Nc scope cl C a s H) b_ g/\dy (az X Nc scope cl C a s H) ifs (g8 X.K tt E0)/\∀D,PB (az X Nc scope cl C a s H) elt (⟨b_,iter,ifs,0⟩::rest) scope pos 0 D (tb D))
  (f:ck X.K g tg) (i:dm tg) (j:∀D,i5 X.K D (tb D) b) (hs:∀x,PD iter X.env x=QU x:=by intro _;rfl):PE X (.ListComp elt (⟨b_,iter,ifs,0⟩::rest) scope pos) (tV X.K (ci dq.length c4 it tg tt b) E):=
 (mr c S d e hs).imp λk H Q h=>sL f i j h
theorem sW{a c:TK}(j:X.N.Nodup)(d:X.N[i]?=on x)(k:zv X.env.scope x)(l:X.calm=Oq)(S:dr X scope Nc dq c4)(m:PI X b_ iter (iV X.K it E))
  (n:∀(cl:List (Pn×Ou)) (C:Ou) (f:List Ou) (s:OD) (H:Hp),PG (az X Nc scope cl C f s H) b_ g/\dy (az X Nc scope cl C f s H) ifs (g8 X.K tt E0)/\∀D,PB (az X Nc scope cl C f s H) elt (⟨b_,iter,ifs,0⟩::rest) scope pos 0 D (tb D))
  (o:ck X.K g tg) (p:dm tg) (q:∀D,i5 X.K D (tb D) b)
  (e:Tv (.ListComp elt (⟨b_,iter,ifs,0⟩::rest) scope pos) (on (.Name x a)) c.line X.env=QU Oq:=by rfl)
  (hs:∀x,PD iter X.env x=QU x:=by intro _;rfl) (r:X.fn x=Oq\/X.env.scope.names.lookup x=on .local:=by first|exact .inl rfl|exact .inr rfl|assumption):
  PS X (.Assign [.Name x a] (.ListComp elt (⟨b_,iter,ifs,0⟩::rest) scope pos) c) (tG X.K X.H₀ (lD i (ci dq.length c4 it tg tt b)) E):=
 aG ((vo j d k l S m n e hs r).imp λD t H h=>sL o p q h)
noncomputable def wT:D->Option D
 | .int i=>on (.int (-i))
 |_=>Om
theorem xa:ID K (rU λi=> .int (-i)) wT:=λF H β Q d1 d b fr a e k=>by
 cases d1<;>first|(cases e;exact⟨_,a,k _ H (To.refl fr) rfl⟩)|cases e
noncomputable def uP:D->Option Int
 | .int i=>on i
 |_=>Om
noncomputable def iz(xs:List D)(lo a:Option Int):List D:=(xs.drop (HT.sIx xs.length 0 lo)).take (HT.sIx xs.length xs.length a-HT.sIx xs.length 0 lo)
def slD:D->Option Int->Option Int->Option D
 | .lst xs,lo,hi=>on (.lst (iz xs lo hi))
 | .scr ns,lo,hi=>on (.lst (iz (ns.map D.int) lo hi))
 |_,_,_=>Om
def kh(f:Option (FD)):Dn->M (Option Int):=λδ=>match f with
 |none=>M.ret Om
 |some g=>M.bind (g δ) λd=>M.bind (M.ofO (uP d)) λi=>M.ret (on i)
def Z8(f:FD)(lo a:Option (FD)):FD:=λδ=>M.bind (f δ) λd=>M.bind (kh lo δ) λl=>M.bind (kh a δ) λh=>M.ofO (slD d l h)
def qC(X:Cx)(e:Option Expr)(f:Option (FD))(E:St->XK):Prop:=PO X e (λc H Q=>∃F δ β,Fr F H β/\j0 X.K F H δ c/\run (λ_ (a b:Option Int)=>b=a) F E c (kh f δ) H Q β)
theorem k9:qC X Om Om E:=λa s b H Q I c=>by obtain⟨F,δ,β,fr,d,r⟩:=c;exact vq a s b H Q I (run.ret fr r rfl)
theorem k8(h:PE X e (tV X.K f E)):qC X (on e) (on f) E:=λa s c H Q I b=>lg b λF δ β fr j r=>vp h a s c H Q I ⟨F,δ,β,fr,j,(run.bind (R:=c_ X.K F) r).mono λv l b=>by
  obtain⟨d,β1,t,hd,r1⟩:=b;obtain⟨i,e,k⟩:=run.ofO_bind r1;cases d<;>first|(cases e;exact⟨_,hd,run.ret t.fr k rfl⟩)|cases e⟩
theorem bb.cut(h:bb K F H ds vs)(lo a:Option Int):bb K F H (iz ds lo a) (je vs lo a):=by
 unfold iz je;rw[h.length];exact(h.drop _).take _
theorem l6{lo y:Option Expr}{fl A:Option (FD)}(B:PE X e (tV X.K f E))(C:qC X lo fl E)(I:qC X y A E):PE X (.Subscript e (.Slice lo y Om p2) pos) (tV X.K (Z8 f fl A) E):=
 (nM u9 B C I).imp λO H Q o=>lg o λF δ β fr q r=>⟨F,δ,β,fr,q,(run.bind (R:=c_ X.K F) r).mono λv P ⟨d,β1,t,hd,r1⟩=>
  ⟨F,δ,β1,t.fr,q.tr (t.tr fr),(run.bind (R:=λ_ (a b:Option Int)=>b=a) r1).mono λl T ⟨U,β2,n,u,J⟩=>
   ⟨F,δ,β2,n.fr,q.tr ((t.tr fr).trans (n.tr t.fr)),(run.bind (R:=λ_ (a b:Option Int)=>b=a) J).mono λh W o=>by
    obtain⟨h',β3,i,w,L⟩:=o;subst u w;obtain⟨c,e,k⟩:=run.ofO L;have j:=c_.tr ((n.tr t.fr).trans (i.tr n.fr)) _ _ hd;cases d<;>first
     |(cases e;obtain⟨a,xs,rfl,sq,N⟩:=c_.sqL j;exact⟨a,xs,rfl,sq,λp m=>k _ _ (i.fr.upd _ m) (c_.newL i.fr m (N.cut l h))⟩)
     |(cases e;obtain⟨a,rfl,sq⟩:=c_.scr j;exact⟨a,_,rfl,sq,λp m=>k _ _ (i.fr.upd _ m) (c_.newL i.fr m ((bb.ofInts _).cut l h))⟩)
     |cases e⟩⟩⟩
def Bg.ok(β:Bg):Prop:=β.cells≠[]/\β.cells.length<=64/\(∀c∈β.cells,0<=c)/\0<=β.j
end
noncomputable def Bg.pos(β:Bg):Nat:=(β.i % (β.cells.length:Int)).toNat
def Bg.cell(β:Bg):Int:=β.cells.getD β.pos 0
noncomputable def Bg.nxt(β:Bg):Int:=(β.j+β.cell % 2147483629+77)*48271 % 2147483629
noncomputable def iP(β:Bg)(lot:Int):Int:=if 10^18<=β.cell then β.cell % lot else β.nxt/64 % lot
noncomputable def jQ(β:Bg)(lot:Int):Bg:=if 10^18<=β.cell then⟨β.cells.set β.pos (β.cell/lot),β.i,β.j⟩else⟨β.cells,β.i+1,β.nxt⟩
open Classical in
def jZ:List D->M D:=λds β=>match ds with
 |[.bag,.int lot]=>if β.ok/\0<lot/\lot<1073741824 then on (Q3 (D.int (iP β lot)),jQ β lot)else Om
 |_=>Om
theorem CN{β:Bg}(h:β.ok)(a:0<lot)(b:lot<1073741824):jZ [.bag,.int lot] β=on (.ok (.int (iP β lot)),jQ β lot):=by
 unfold jZ;exact OE ⟨h,a,b⟩
theorem zh{β:Bg}(h:jZ ds β=on (r,β')):∃lot,ds=[.bag,.int lot]/\β.ok/\0<lot/\lot<1073741824/\r= .ok (.int (iP β lot))/\β'=jQ β lot:=by
 unfold jZ at h;split at h
 .split at h
  .rename_i lot q
   cases h;exact⟨lot,rfl,q.1,q.2.1,q.2.2,rfl,rfl⟩
  .cases h
 .cases h
theorem Bg.ok.at{β:Bg}(h:β.ok):β.pos<β.cells.length/\β.cells[β.pos]?=on β.cell/\0<=β.cell/\β.i % (β.cells.length:Int)=(β.pos:Int):=by
 obtain⟨c1,c2,c3,b⟩:=id h;have c:0<β.cells.length:=List.length_pos_iff.mpr c1;have a1:0<=β.i % (β.cells.length:Int):=Tq _ (by omega);have a2:β.i % (β.cells.length:Int)<β.cells.length:=TX _ (by omega);have a:β.pos<β.cells.length:=by unfold Bg.pos;omega
 have e:β.cell=β.cells[β.pos]:=by
  unfold Bg.cell;rw[Op,Os a];rfl
 refine⟨a,by rw[e];exact Os a,by rw[e];exact c3 _ (Pr a),?_⟩;unfold Bg.pos;omega
theorem vj{β:Bg}(h:β.ok)(b:0<lot):0<=iP β lot/\iP β lot<lot/\(jQ β lot).ok:=by
 obtain⟨f,_,d,_⟩:=h.at;obtain⟨c1,c2,c3,e⟩:=id h;unfold iP jQ;split
 .refine⟨Tq _ (by omega),TX _ b,?_,by rw[Qc];exact c2,λc a=>?_,e⟩
  .intro z
   have:=Py Ua z;rw[Qc]at this;exact c1 (Uw.mp this)
  .rcases QS a with a|rfl
   .exact c3 c a
   .exact Int.ediv_nonneg d (by omega)
 .exact⟨Tq _ (by omega),TX _ b,c1,c2,c3,Tq _ (by decide)⟩
end L2.Pu
namespace L2
open PySem PySem.Spec PyProof.Rows
end L2
namespace L2.Pu
open PySem PySem.Spec PyProof.Rows
section
variable{X:Cx}{E:St->XK}{K:OX}
def mW(K:OX)(mg:Pn->Option Oy)(x:Pn)(d:D):Prop:=∃u v,mg x=on u/\aI v u/\∀F H,c_ K F H d v
theorem kF(c:mW X.K X.mg x d)(a:Gl X x:=by rfl)(hd:(x==("__debug__":Pn))=Ov:=by decide):PE X (.Name x pos) (tV X.K (fC d) E):=by
 obtain⟨u,v,b,e,f⟩:=c;exact ra (Jr a b e hd) f
mutual
noncomputable def vr:D->Option WZ
 | .non=>on .none
 | .bl b=>on (.bool b)
 | .int i=>on (.int i)
 | .str x=>on (.str x)
 | .lst xs=>(toPs xs).map PyData.list
 | .tup xs=>(toPs xs).map PyData.tuple
 |_=>Om
noncomputable def toPs:List D->Option (List WZ)
 |[]=>on []
 |x::xs=>match vr x,toPs xs with
  |some p,on ps=>on (p::ps)
  |_,_=>Om
end
mutual
theorem fV{s:OD}(I:dc X a_ σ H s):∀(d:D) (v:V) (u:Oy) (p:WZ),c_ X.K F H d v->vr d=on p->aI v u->∃as,Reads s.heap u p as
 | .non,v,u,p,h,e,r=>by cases e;cases h.non;cases r;exact⟨_,.none⟩
 | .bl b,v,u,p,h,e,r=>by cases e;cases h.bl;cases r;exact⟨_,.bool b⟩
 | .int i,v,u,p,h,e,r=>by cases e;cases h.int;obtain⟨t,rfl⟩:=r;exact⟨_,.int i t⟩
 | .str x,v,u,p,h,e,r=>by cases e;cases h.str;obtain⟨t,rfl⟩:=r;exact⟨_,.str x t⟩
 | .lst xs,v,u,p,h,e,r=>by
  unfold vr at e;cases q:toPs xs with
  |none=>rw[q]at e;cases e
  |some ps=>
   rw[q]at e;cases e;obtain⟨a,ys,rfl,sq,c⟩:=c_.sqL h;cases r;obtain⟨its,f,pl,_⟩:=I.list sq;obtain⟨as,g⟩:=reads_L I xs ys its ps c q f;obtain⟨o,j,k,n,hd⟩:=pl.isList;exact⟨_,.list j k hd (by simpa using g)⟩
 | .tup xs,v,u,p,h,e,r=>by
  unfold vr at e;cases q:toPs xs with
  |none=>rw[q]at e;cases e
  |some ps=>
   rw[q]at e;cases e;obtain⟨a,ys,rfl,sq,c⟩:=c_.sqT h;cases r;obtain⟨its,f,pl,_⟩:=I.tuple sq;obtain⟨as,g⟩:=reads_L I xs ys its ps c q f;obtain⟨o,j,k,n,hd⟩:=pl;exact⟨_,.tuple j k hd (by simpa using g)⟩
 | .ty _,_,_,_,_,e,_=>by cases e
 | .txt,_,_,_,_,e,_=>by cases e
 | .scr _,_,_,_,_,e,_=>by cases e
 | .obj _ _ _,_,_,_,_,e,_=>by cases e
 | .bag,_,_,_,_,e,_=>by cases e
 | .adr _,_,_,_,_,e,_=>by cases e
 | .dct _ _ _,_,_,_,_,e,_=>by cases e
theorem reads_L{s:OD}(I:dc X a_ σ H s):∀(ds:List D) (vs:List V) (us:List Oy) (ps:List WZ),bb X.K F H ds vs->toPs ds=on ps->au vs us->∃as,ReadsAll s.heap us ps as
 |[],vs,us,ps,h,e,r=>by
  have q:vs=[]:=h;subst q;cases e;cases r;exact⟨_,.nil⟩
 |d::ds,vs,us,ps,h,e,r=>by
  obtain⟨x,a,rfl,b,c⟩:=h;unfold toPs at e;split at e
  .rename_i p pr f g
   cases e;cases r with
   |cons r1 i=>
    obtain⟨as,j⟩:=fV I d x _ p b f r1;obtain⟨bs,k⟩:=reads_L I ds a _ pr c g i;exact⟨_,.cons j k⟩
  .cases e
end
def nY(a b:D):Option Bool:=match vr a,vr b with
 |some p,on q=>if(Vk p&&Vk q)=Oq then on (RF p q)else Om
 |_,_=>Om
def nX(a b:D):Option D:=match Ze a b with
 |some c=>on (.bl c)
 |none=>(nY a b).map D.bl
def jc(a b:D):Option D:=match Ze a b with
 |some c=>on (.bl (!c))
 |none=>(nY a b).map λc=>D.bl (!c)
def qd(X:Cx)(g:Bool->Bool):R2:=λx y H Q=>∃(F:Fx) (a b:D) (c:Bool),c_ X.K F H a x/\c_ X.K F H b y/\nY a b=on c/\Q (.bl (g c)) H
theorem rh{c:Bool}(h:nY a b=on c):∃p q,vr a=on p/\vr b=on q/\Vk p=Oq/\Vk q=Oq/\c=RF p q:=by
 unfold nY at h;split at h
 .rename_i p q d e
  split at h
  .rename_i hs
   rw[Pc]at hs;cases h;exact⟨p,q,d,e,hs.1,hs.2,rfl⟩
  .cases h
 .cases h
theorem Lf(f:eg k X.A):gs X (P7 .Eq) (qd X id):=by
 intro d s t H x y v u Q I g i h;obtain⟨F,a,b,c,d1,d2,e,q⟩:=h;obtain⟨p,j,l,m,n,o,rfl⟩:=rh e;obtain⟨as,r1⟩:=fV I a x v p d1 l g;obtain⟨bs,r⟩:=fV I b y u j d2 m i;exact eq_dataH r1 r n o f.units ⟨.bl _,H,I,rfl,q⟩
theorem Ld(f:eg k X.A):gs X (P7 .NotEq) (qd X not):=by
 intro d s t H x y v u Q I g i h;obtain⟨F,a,b,c,d1,d2,e,q⟩:=h;obtain⟨p,j,l,m,n,o,rfl⟩:=rh e;obtain⟨as,r1⟩:=fV I a x v p d1 l g;obtain⟨bs,r⟩:=fV I b y u j d2 m i;exact ne_dataH r1 r n o f.units ⟨.bl _,H,I,rfl,q⟩
theorem dU(a:eg k X.A):gs X (P7 .Eq) (λx y H Q=>ZJ x y H Q\/qd X id x y H Q):=NF.or (Lf a)
theorem gj(a:eg k X.A):gs X (P7 .NotEq) (λx y H Q=>ZH x y H Q\/qd X not x y H Q):=NE.or (Ld a)
theorem fJ:aX X.K (λx y H Q=>ZJ x y H Q\/qd X id x y H Q) nX:=λF H β Q d1 d2 d h i fr a b e k=>by
 unfold nX at e;split at e
 .rename_i c q
  cases e;obtain⟨f,g⟩:=zW q a b;exact .inl ⟨f,by rw[g];exact k _ H (To.refl fr) rfl⟩
 .cases q:nY d1 d2 with
  |none=>rw[q]at e;cases e
  |some c=>rw[q]at e;cases e;exact .inr ⟨F,d1,d2,c,a,b,q,k _ H (To.refl fr) rfl⟩
theorem iS:aX X.K (λx y H Q=>ZH x y H Q\/qd X not x y H Q) jc:=λF H β Q d1 d2 d h i fr a b e k=>by
 unfold jc at e;split at e
 .rename_i c q
  cases e;obtain⟨f,g⟩:=zW q a b;exact .inl ⟨f,by rw[g];exact k _ H (To.refl fr) rfl⟩
 .cases q:nY d1 d2 with
  |none=>rw[q]at e;cases e
  |some c=>rw[q]at e;cases e;exact .inr ⟨F,d1,d2,c,a,b,q,k _ H (To.refl fr) rfl⟩
theorem Oe(i j:Int):nX (.int i) (.int j)=on (.bl (decide (i=j))):=rfl
theorem Od(i j:Int):jc (.int i) (.int j)=on (.bl (!decide (i=j))):=rfl
theorem HX{C:Int->Int->Prop}{c:Int->Int->Bool}{g:Int->Int->Int}(b:∀i j,c i j=Oq->C i j):aX K (YR C g) (n_ λi j=>if c i j=Oq then on (.int (g i j))else Om):=λF H β Q d1 d2 d l m fr f h e k=>by
 obtain⟨i,j,rfl,rfl,a⟩:=il e;split at a
 .cases a
  exact⟨i,j,f,h,b _ _ (by assumption),k _ H (To.refl fr) rfl⟩
 .cases a
def addI:D->D->Option D:=n_ λi j=>on (.int (i+j))
theorem vM:aX K (ipI λi j=>i+j) addI:=λF H β Q d1 d2 d f g fr a b e k=>by
 obtain⟨i,j,rfl,rfl,c⟩:=il e;cases c;exact⟨i,j,a,b,k _ H (To.refl fr) rfl⟩
theorem vP:Zl X .Mult (YR sr λi j=>i*j):=by
 intro a s e H x y v u Q I b d h;obtain⟨i,j,rfl,rfl,c,q⟩:=h;obtain⟨t,rfl⟩:=b;obtain⟨t',rfl⟩:=d;exact imul_int ⟨.int _,H,I.tok _,⟨_,rfl⟩,q⟩ (Xj (iY c.1) (iY c.2))
theorem vL:aX K (YR sr λi j=>i*j) CI:=HX λi j h=>by
 simp only[Pc,gf,Pq]at h;exact h
theorem CZ:aX K (YR su λi j=>i/j) xA:=HX λi j h=>by
 simp only[Pc,Pq]at h;exact h
abbrev fm:=BC
theorem z7(b:X.calm=Oq):cP X (.builtin "sum") (λxs H Q=>∃(a:Ou) (ns:List Int),xs=[.ref a]/\fx X.K H a (ns.map V.int)/\Q (.int ns.sum) H):=rj b
theorem Ly:dF K (λxs H Q=>∃(a:Ou) (ns:List Int),xs=[.ref a]/\fx K H a (ns.map V.int)/\Q (.int ns.sum) H) fm:=NS
def IE(H:Hp)(b l:Ou):Prop:=∃(cells:List Int) (i j:Int),H b=on (.lst [.ref l,.int i,.int j])/\H l=on (.lst (cells.map V.int))/\cells≠[]/\cells.length<=64/\(∀c∈cells,0<=c)/\0<=j
theorem JL(h:k<n):qk n (k:Int)=on k:=by
 unfold qk;rw[OE (by omega),OE (by omega)];simp
theorem Og(ns:List Int):∃a:List Int,je (ns.map V.int) Om (on 63)=a.map V.int/\a.length<=63:=by
 refine⟨(ns.drop (HT.sIx ns.length 0 Om)).take (HT.sIx ns.length ns.length (on 63)-HT.sIx ns.length 0 Om),?_,?_⟩
 .unfold je
  rw[Ol,Vb,Rz]
 .rw[Qi]
  have:HT.sIx ns.length ns.length (on 63)<=63:=by
   unfold HT.sIx;simp;omega
  omega
def Nq(K:OX):Sp:=λvs H Q _=>∃(a:Ou) (ns:List Int),vs=[.ref a]/\fx K H a (ns.map V.int)/\∀(b l:Ou) (c:Hp),H b=Om->H l=Om->IE c b l->bJ H c->Q (.ref b) c
def GZ(K:OX):Sp:=λvs H Q _=>∃(a:Ou) (ns:List Int),vs=[.ref a]/\fx K H a (ns.map V.int)/\ns.length<=63/\∀b,Q (.bl Oq) b
theorem J3(sm:bJ H₀ H)(A:H₀ b=Om)(C:H₀ l=Om)(B:IE H b l):∃β,β.ok/\fw K H₀ (λc=>if c=b\/c=l then on 1 else Om) (on (b,l)) H (Om::on (.sh .bag)::O0 n Om) β (on (.ref a)::on (.ref b)::O0 n Om):=by
 obtain⟨cells,i,j,g,h,p,v,w,y⟩:=B;have m:b≠l:=NM g h (by
  intro z;cases cells with
  |nil=>exact p rfl
  |cons c r=>simp at z)
 refine⟨⟨cells,i,j⟩,⟨p,v,w,y⟩,⟨⟨λc f=>?_,λt u e=>?_,λt u e=>?_⟩,λt u e=>?_,by simp,λc f=>?_,λc k f=>(by
  have d:(if c=b\/c=l then on 1 else Om)=on (k+2):=f;split at d<;>cases d),λc k f=>(by
  have d:(if c=b\/c=l then on 1 else Om)=on (k+2):=f;split at d<;>cases d),λk s e=>?_⟩⟩
 .have d:(if c=b\/c=l then on 1 else Om)≠(Om:Option Nat):=f
  split at d
  .rename_i q
   rcases q with rfl|rfl
   .rw[g];simp
   .rw[h];simp
  .exact O4 rfl d
 .cases e
  refine⟨?_,?_,m⟩
  .show(if b=b\/b=l then on 1 else Om)≠(Om:Option Nat)
   rw[OE (.inl rfl)];simp
  .show(if l=b\/l=l then on 1 else Om)≠(Om:Option Nat)
   rw[OE (.inr rfl)];simp
 .cases e
  exact⟨g,h⟩
 .cases e
  exact⟨OE (.inl rfl),OE (.inr rfl)⟩
 .cases q:H₀ c with
  |none=>exact O4 q f
  |some o=>rw[sm c o q];simp
 .match k with
  |0=>simp at e
  |1=>
   simp at e;subst e;exact⟨.ref b,rfl,b,l,rfl,rfl⟩
  |k+2=>
   simp only[WC,Q4]at e;split at e<;>cases e
variable{P:Pf}{w:Po}{mg:Pn->Option Oy}{base:P5}
theorem bq{st:Qg}{N ps:List Pn}(n m:Nat)(g:G)(F:d4 K x qual st f fd)(S:cp N ps (af st))(hn:ps.length=n)(hm:N.length=m)
  (a:∀(b:Oy) (A:PV) (outer:List VN) (s:OD) (H:Hp) (E:XK),eg k (A.deeper (SW qual (af st) s.heap.objs.size f b))->
   PSs (eJ (hE P w) P w K mg base N qual (af st) f b A outer s H E) (bZ st) (tG K H g (λ_=>E))):e_ P w K mg base (hE P w) (k+1) f fd ps (D_ K n (fP m g)):=by
 subst hn hm;exact JS F S a
end
end L2.Pu
namespace L2
open PySem PySem.Spec PyProof.Rows
theorem dr.ofB{X:Cx}{scope:Scope}{c4:List Nat}(k:scope.kind= .function)(nd:(scope.names.map (·.1)).Nodup)
  (fr:(scope.names.all λy=>y.2 != .free||(X.env.scope.names.lookup y.1==on .cell||X.env.scope.names.lookup y.1==on .free))=Oq) (a:Nc=dq++c4.map (λj=>X.N.getD j Sw))
  (b:(c4.all λj=>decide (j<X.N.length)&&scope.names.lookup (X.N.getD j Sw)==on .free)=Oq):dr X scope Nc dq c4:=by
 refine⟨k,nd,λy c e=>?_,a,λj d=>?_⟩
 .have:=Sf.mp fr y c
  rw[e]at this;simp only[RZ,Bool.false_or,Bool.or_eq_true,Sy]at this;exact this
 .have:=Sf.mp b j d
  simp only[Pc,Pq,Sy]at this;exact this
end L2
namespace L2.Pu
end L2.Pu
namespace L2.Pu
open PySem PySem.Spec
theorem qv{ds os:List D}(a:it δ β=on (.ok ds,β1))(c:nj tg tt b ds (lj nv c4 δ) β1=on (.ok os,β2))(d:os.length<=OV):ci nv c4 it tg tt b δ β=on (.ok (.lst os),β2):=by
 unfold ci;simp only[a,c,d,PN]
end L2.Pu
namespace L2.Pu
open PySem PySem.Spec PyProof.Rows
section
variable{X:Cx}{E:St->XK}{K:OX}{a b:Expr}{es:List Expr}{pos:TK}
theorem To.none(t:To F H H1 β1)(h:H1 p=Om):H p=Om:=by
 cases q:H p with
 |none=>rfl
 |some o=>
  have:H1 p=on o:=t.kp p o q λb l e=>by
   obtain⟨c,d⟩:=t.fr.bag b l e;exact⟨λw=>(by subst w;rw[c]at h;cases h),λw=>(by subst w;rw[d]at h;cases h)⟩
  rw[this]at h;cases h
noncomputable def Fx.but(F:Fx)(a:Ou):Fx:=⟨λc=>F.A c\/c=a,F.bg⟩
theorem Fx.tr_but{F:Fx}(fr:Fr F H β1)(d:H p=Om)(hs:∀c o,H c=on o->H1 c=on o):Tr F H (F.but p) H1:=⟨λc e f z=>by
 rcases z with z|z
 .exact e z
 .subst z;exact f d,λc o _ h=>hs c o h,rfl⟩
theorem Fx.tr_of{F:Fx}:Tr (F.but p) H F H:=⟨λc h _ z=>h (Q1 z),λ_ _ _ h=>h,rfl⟩
def cy(K:OX)(F:Fx)(H0 H:Hp)(ds:List D)(v:V):Prop:=∃a xs,v= .ref a/\H0 a=Om/\H a=on (.lst xs)/\bb K (F.but a) H ds xs
def w_(K:OX)(f:FL)(E:St->XK):TE:=λc H Q=>∃F δ β,Fr F H β/\j0 K F H δ c/\run (cy K F H) F E c (f δ) H Q β
def YL(K:OX)(f:Dn->M (List (List D)))(E:St->XK):TE:=λc H Q=>∃F δ β,Fr F H β/\j0 K F H δ c/\run (gy K F H) F E c (f δ) H Q β
noncomputable def YD(ds:List D):Option (List D):=if ds.length<=OV then on ds else Om
def NJ(op:List D->Option (List D))(g:FL):FL:=λδ=>M.bind (g δ) λds=>M.ofO (op ds)
theorem cy.new(t:To F H H1 β1)(d:H1 p=Om)(hd:bb K F H1 ds xs):cy K F H (upd H1 p (.lst xs)) ds (.ref p):=
 ⟨p,xs,rfl,t.none d,aj,bb.tr (Fx.tr_but t.fr d λc o h=>by rw[bt (ay h d)];exact h) _ _ hd⟩
theorem NH(h:PA X es (js X.K g E)):PE X (.List es pos) (w_ X.K (NJ YD g) E):=
 (dT h).imp λi H Q d=>lg d λF δ β fr f r=>⟨F,δ,β,fr,f,(run.bind (R:=bb X.K F) r).mono λvs j d=>by
  obtain⟨ds,β1,t,hd,r1⟩:=d;obtain⟨d3,c,k⟩:=run.ofO r1;unfold YD at c;split at c
  .cases c
   exact⟨by rw[<-hd.length];assumption,λp e=>k _ _ (t.fr.upd _ e) (cy.new t e hd)⟩
  .cases c⟩
theorem bb.rep(h:bb K F H ds xs):∀n:Nat,bb K F H (O0 n ds).flatten (O0 n xs).flatten
 |0=>rfl
 |n+1=>by
  rw[Qv,Rv,Qv,Rv];exact bb.append h (bb.rep h n)
noncomputable def tE(ds:List D)(d:D):Option (List D):=match d with
 | .int k=>if(decide (-(2^63)<=k)&&decide (k<2^63)&&decide (ds.length<=OV)&&decide (ds.length*k.toNat<=OV))=Oq then on (O0 k.toNat ds).flatten else Om
 |_=>Om
def CC(g:FL)(f:FD):FL:=λδ=>M.bind (g δ) λds=>M.bind (M.ofO (YD ds)) λds=>M.bind (f δ) λd=>M.ofO (tE ds d)
theorem NG(ha:PA X es (js X.K g E))(O:PE X b (tV X.K f E)):PE X (.BinOp (.List es pos') .Mult b pos) (w_ X.K (CC g f) E):=
 (dC Lb (dT ha) O).imp λT H Q j=>lg j λF δ β fr B r=>⟨F,δ,β,fr,B,(run.bind (R:=bb X.K F) r).mono λvs U j=>by
  obtain⟨ds,β1,t,hd,r1⟩:=j;obtain⟨W,n,Y⟩:=run.ofO_bind r1;unfold YD at n;split at n
  .rename_i Z
   cases n;refine⟨by rw[<-hd.length];exact Z,λp I=>?_⟩;have m:=t.fr.upd (.lst vs) I;have J:=t.fr.fresh I;refine⟨F,δ,β1,m.fr,(B.tr (t.tr fr)).tr (m.tr t.fr),?_⟩;obtain⟨L,β2,e,h⟩:=Y;have u:run (cy X.K F H) F E T (M.bind (f δ) λd=>M.ofO (tE ds d)) (upd U p (.lst vs)) Q β1:=by
    refine⟨L,β2,e,?_⟩;cases L with
    |ok d=>exact λv y c=>h v y (m.trans c)
    |error C=>exact λy c=>h y (m.trans c)
   refine(run.bind (R:=c_ X.K F) u).mono λw H2 j=>oa j λd β3 c hw r3=>?_;obtain⟨os,i,k⟩:=run.ofO r3;unfold tE at i;split at i
   .split at i
    .rename_i kk o
     cases i;simp only[Pc,Pq]at o;cases hw;have A:H2 p=on (.lst vs):=c.kp p _ aj λb l q=>⟨λz=>J (z▸(fr.bgA b l q).1),λz=>J (z▸(fr.bgA b l q).2.1)⟩;have tt:=m.trans c;exact⟨p,_,vs,rfl,rfl,A,o.1.1.1,o.1.1.2,by rw[<-hd.length];exact o.2,λq N=>k _ _ (c.fr.upd _ N) (cy.new (t.trans tt) N ((bb.tr (tt.tr t.fr) _ _ hd).rep _))⟩
    .cases i
   .cases i
  .cases n⟩
def eS(nv:Nat)(c4:List Nat)(it:Dn->M (List Pu.D))(tg:mm)(tt:Dn->M Bool)(b:Dn->M (List Pu.D)):Dn->M (List Pu.D):=λδ β=>match it δ β with
 |none=>Om
 |some (.error C,β1)=>on (.error C,β1)
 |some (.ok ds,β1)=>match nj tg tt b ds (lj nv c4 δ) β1 with
  |some (.ok os,β2)=>if os.length<=OV then on (.ok os,β2)else Om
  |_=>Om
theorem ya{dq:List Pn}{c4:List Nat}{it:Dn->M (List Pu.D)}{g:TG}{tg:mm}{tt:Dn->M Bool}{I:Ou->TB}{b:Dn->M (List Pu.D)}(U:ck K g tg)(W:dm tg)(Y:∀D,i5 K D (I D) b){L:St}{H:Hp}{Q:VK}(h:w_ K (eS dq.length c4 it tg tt b) E L H Q):
  oC dq c4 (iV K it E) (λD J=>cN J g (g8 K tt E0) (I D)) L H Q:=by
 obtain⟨F,δ,β,fr,N,r,k,e,h⟩:=h;unfold eS at e;refine⟨F,δ,β,fr,N,?_⟩;split at e
 .cases e
 .rename_i C β1 q
  cases e;exact⟨.error C,_,q,h⟩
 .rename_i ds β1 q
  split at e
  .rename_i os β2 q2
   split at e
   .rename_i Z
    cases e;refine⟨.ok ds,β1,q,λJ j t hJ D c=>?_⟩;have d:¬F.A D:=t.fr.fresh c;have nb:∀b l,F.bg=on (b,l)->D≠b/\D≠l:=λb l z=>⟨λw=>d (w▸(fr.bgA b l z).1),λw=>d (w▸(fr.bgA b l z).2.1)⟩;have O:=t.fr.upd (.lst []) c;have m:Fr ⟨λa=>F.A a\/a=D,F.bg⟩ (upd j D (.lst [])) β1:=by
     refine⟨λa ha z=>?_,λb l z=>let ⟨x,y,w⟩:=fr.bgA b l z;⟨.inl x,.inl y,w⟩,O.fr.bag⟩
     rcases ha with ha|ha
     .exact O.fr.occ a ha z
     .subst ha;rw[aj]at z;cases z
    have f:Tr F j ⟨λa=>F.A a\/a=D,F.bg⟩ (upd j D (.lst [])):=⟨λa ha hs z=>by
     rcases z with z|z
     .exact ha z
     .subst z;exact hs c,λa o ha z=>by rw[bt (ay z c)];exact z,rfl⟩
    refine mC (R:=RL K) (D:=D) (as:=[]) (os:=os) U W (Y D) m (.inr rfl) nb (pU (N.tr ((t.tr fr).trans f))) ⟨[],aj,rfl⟩ (hJ.tr f) q2 (show os.length<=OV from Z) λσ1 T p vk3 u=>?_;obtain⟨i,v,B⟩:=u;have tf:To F j T k:=by
     refine⟨λa o z n=>p.kp a o (by rw[bt (ay z c)];exact z) (ay z c) n,λa ha z=>p.fr.occ a (Q1 ha) z,fr.bgA,p.fr.bag⟩
    exact h _ T (t.trans tf) ⟨D,i,rfl,t.none c,v,B⟩
   .cases e
  .cases e
def n6(tg:mm)(tt:Dn->M Bool)(b:Dn->M (List (List Pu.D))):List Pu.D->Dn->M (List (List Pu.D))
 |[],_=>M.ret []
 |d::ds,δ=>match tg d δ with
  |none=>M.fail
  |some δ1=>M.bind (tt δ1) λc=>M.bind (if c=Oq then b δ1 else M.ret []) λo=>M.bind (n6 tg tt b ds δ) λos=>M.ret (o++os)
def H_(K:OX)(F:Fx)(D:Ou)(H0 H:Hp)(as:List (List Pu.D))(acc:List V):Prop:=(∀c,H0 c≠Om->H c≠Om)/\∃rs,acc=rs.map V.ref/\(D::rs).Nodup/\bi K F H (λr=>H0 r=Om) as rs
theorem H_.mono{F:Fx}{D:Ou}(g:F.A D)(i:∀b l,F.bg=on (b,l)->H0 b≠Om/\H0 l≠Om)(fr:Fr F H β)(t:ms F D H H1 β1)(h:H_ K F D H0 H as acc):H_ K F D H0 H1 as acc:=by
 obtain⟨cv,rs,e,nd,j⟩:=h;refine⟨λc k z=>?_,rs,e,nd,bi.tr (t.tr fr g) j λr xs m p q=>⟨p,t.kp r _ q (λz=>?_) λb l w=>⟨λz=>?_,λz=>?_⟩⟩⟩
 .cases q:H c with
  |none=>exact cv c k q
  |some o=>
   by_cases hd:c=D
   .subst hd;exact t.fr.occ _ g z
   .by_cases d:∃b l,F.bg=on (b,l)/\(c=b\/c=l)
    .obtain⟨b,l,w,f⟩:=d
     rcases f with rfl|rfl
     .exact t.fr.occ _ (fr.bgA _ _ w).1 z
     .exact t.fr.occ _ (fr.bgA _ _ w).2.1 z
    .rw[t.kp c o q hd λb l w=>⟨λy=>d ⟨b,l,w,.inl y⟩,λy=>d ⟨b,l,w,.inr y⟩⟩]at z
     cases z
 .subst z;exact(Pw.mp nd).1 m
 .subst z;exact(i _ _ w).1 p
 .subst z;exact(i _ _ w).2 p
def pY(K:OX)(D:Ou)(i:TB)(f:Dn->M (List (List Pu.D))):Prop:=∀(F:Fx) (H0 H:Hp) (δ:Dn) (β d:Bg) (h:St) (acc:List V) (as os:List (List Pu.D)) (Q:St->Hp->Prop),Fr F H β->F.A D->(∀b l,F.bg=on (b,l)->D≠b/\D≠l)->(∀b l,F.bg=on (b,l)->H0 b≠Om/\H0 l≠Om)->j0 K F H δ h->H D=on (.lst acc)->H_ K F D H0 H as acc->
 f δ β=on (.ok os,d)->as.length+os.length<=OV->(∀e g c,ms F D H g d->j0 K F g δ e->g D=on (.lst c)->H_ K F D H0 g (as++os) c->Q e g)->i h H Q
def uM(f:Dn->M (List Pu.D)):Dn->M (List (List Pu.D)):=λδ=>M.bind (f δ) λd=>M.ret [d]
theorem bi.snoc{P:Ou->Prop}(p:P r)(c:H r=on (.lst xs))(d:bb K F H ds xs):∀{ba:List (List Pu.D)} {rs:List Ou},bi K F H P ba rs->bi K F H P (ba++[ds]) (rs++[r])
 |[],[],_=>⟨p,⟨xs,c,d⟩,trivial⟩
 |_::_,_::_,h=>⟨h.1,h.2.1,bi.snoc p c d h.2.2⟩
 |[],_::_,h=>h.elim
 |_::_,[],h=>h.elim
theorem vJ{D:Ou}:pY K D (xK D (w_ K f E0)) (uM f):=λF H0 H δ β j σ acc as os Q fr m p T U W hd e hz k=>by
 obtain⟨d,β1,e1,e2⟩:=M.bind_inv e;cases e2;refine⟨F,δ,β,fr,U,E0.run e1 λv Y t hv=>?_⟩;have u:=t.kp D _ W p;have A:=hd.mono m T fr (t.toD D);obtain⟨r,xs,rfl,g,n1,n2⟩:=hv;obtain⟨cv,rs,B,nd,Z⟩:=A;obtain⟨C,c,I,J,L⟩:=hd;have i:acc.length=as.length:=by rw[B,Ol,Z.len]
 have N:c=rs:=by
  have:c.map V.ref=rs.map V.ref:=I.symm.trans B;exact Vg (λa b q=>by cases q;rfl)|>.mp this
 subst N;have nD:r≠D:=λz=>by subst z;rw[W]at g;cases g
 have nr:r∉c:=λz=>by
  obtain⟨_,ys,q⟩:=L.all r z;rw[q]at g;cases g
 have O:H0 r=Om:=by
  cases q:H0 r with
  |none=>rfl
  |some o=>exact O4 g (C r (by rw[q];simp))
 refine⟨acc,u,by rw[i];simp at hz;omega,?_⟩;have R:ms F D Y (upd Y D (.lst (acc++[.ref r]))) j:=by
  refine⟨λa o h n _=>by rw[bt n];exact h,λa h q=>?_,fr.bgA,λb l q=>?_⟩
  .by_cases z:a=D
   .subst z;rw[aj]at q;cases q
   .rw[bt z]at q;exact t.fr.occ a h q
  .rw[bt (p b l q).1.symm,bt (p b l q).2.symm]
   exact t.fr.bag b l q
 have tt:=R.tr t.fr m;refine k σ _ _ ((t.toD D).trans R) (U.tr ((t.tr fr).trans tt)) aj (H_.mono m T t.fr R ⟨cv,c++[r],by rw[B,Pg];rfl,?_,bi.snoc O n1 (bb.tr Fx.tr_of _ _ n2) Z⟩);rw[<-Sg,Ub];refine⟨J,by simp,λx hx y hy=>?_⟩;obtain rfl:y=r:=by simpa using hy
 rcases ON.mp hx with rfl|hx
 .exact nD.symm
 .exact λz=>nr (z▸hx)
end
section
variable{X:Cx}{E:St->XK}{K:OX}
theorem JE{D:Ou}(hg:ck K g tg)(sg:dm tg)(hb:pY K D tb b){F:Fx}{as os:List (List Pu.D)}(fr:Fr F H β)(Z:F.A D)(hn:∀b l,F.bg=on (b,l)->D≠b/\D≠l)(h0:∀b l,F.bg=on (b,l)->H0 b≠Om/\H0 l≠Om)(vk:j0 K F H δ σ)(hD:H D=on (.lst acc))(hd:H_ K F D H0 H as acc)
  (it:up K J F H ds) (e:n6 tg tt b ds δ β=on (.ok os,β')) (hz:as.length+os.length<=OV) (k:∀f n a,ms F D H n β'->j0 K F n δ f->n D=on (.lst a)->H_ K F D H0 n (as++os) a->Q f n):cN J g (g8 K tt E0) tb σ H Q:=by
 refine⟨λi m f n=>m+i=ds.length/\∃β1 a j t,ms F D H n β1/\j0 K F n δ f/\n D=on (.lst a)/\H_ K F D H0 n j a/\n6 tg tt b (ds.drop i) δ β1=on (.ok t,β')/\j++t=as++os,
  ⟨ds.length,by omega,β,acc,as,os,⟨λ_ _ h _ _=>h,fr⟩,vk,hD,hd,e,rfl⟩,?_⟩
 rintro i m f n ⟨hm,β1,a,j,t,u,B,C,I,r,ea⟩;have tr1:=u.tr fr Z;obtain⟨iy,is⟩:=it F n β1 tr1 u.fr i;cases hi:ds[i]? with
 |none=>
  have hl:ds.length<=i:=T6.mp hi;rw[RG hl]at r;cases r;refine .inl ⟨is (by omega),k f n a u B C ?_⟩;rw[<-ea,Pi];exact I
 |some d=>
  have hl:i<ds.length:=(OI.mp hi).1;obtain⟨go,yl⟩:=iy d hi;have ed:ds.drop i=d::ds.drop (i+1):=by
   rw[Qa hl];congr 1;exact Pb ((Os hl).symm.trans hi)
  rw[ed]at r;unfold n6 at r;cases q:tg d δ with
  |none=>rw[q]at r;cases r
  |some δ1=>
   rw[q]at r;obtain⟨c,β2,e2,e3⟩:=M.bind_inv r;obtain⟨o,β3,e4,e5⟩:=M.bind_inv e3;obtain⟨L,β4,e6,e7⟩:=M.bind_inv e5;cases e7;obtain⟨s1,s2⟩:=sg _ _ _ q;refine .inr ⟨go,λN O=>∃p,ms F D H O β3/\j0 K F O δ N/\O D=on (.lst p)/\H_ K F D H0 O (j++o) p,?_,λx H2 hy=>?_⟩
   .rintro N O ⟨p,t9,vk9,hD9,hd9⟩
    exact⟨m-1,by omega,by omega,β3,p,j++o,L,t9,vk9,hD9,hd9,e6,by rw[PZ];exact ea⟩
   .obtain⟨sm,dx⟩:=yl x H2 hy
    have y:To F n H2 β1:=u.fr.same sm;have tr2:=y.tr u.fr;refine hg F H2 δ δ1 f d x _ (B.tr tr2) dx q λσ2 v=>⟨F,δ1,β1,y.fr,v,E0.run e2 λc' H3 R ec=>?_⟩;subst ec;have hD2:=sm _ _ C;have T:=R.kp D _ hD2 hn;have U:=R.tr y.fr;have d3:=(I.mono Z h0 u.fr (y.toD D)).mono Z h0 y.fr (R.toD D);have W:ms F D H H3 β2:=u.trans ((y.trans R).toD D);have hle:j.length+(o++L).length<=OV:=by
     have:=Py Ua ea;simp only[OQ]at this⊢;omega
    cases c' with
    |true=>
     rw[OE rfl]at e4⊢;refine hb F H0 H3 δ1 β2 β3 σ2 a j o _ R.fr Z hn h0 (v.tr U) T d3 e4 (by rw[OQ]at hle;omega) λσ4 H4 Y t4 vk4 hD4 hd4=>?_;exact⟨Y,W.trans t4,vk4.sub s1 s2,hD4,hd4⟩
    |false=>
     rw[OC OH]at e4⊢;cases e4;exact⟨a,W,(v.tr U).sub s1 s2,T,by rw[Pi];exact d3⟩
def iw(nv:Nat)(c4:List Nat)(it:Dn->M (List Pu.D))(tg:mm)(tt:Dn->M Bool)(b:Dn->M (List (List Pu.D))):Dn->M (List (List Pu.D)):=λδ β=>match it δ β with
 |none=>Om
 |some (.error C,β1)=>on (.error C,β1)
 |some (.ok ds,β1)=>match n6 tg tt b ds (lj nv c4 δ) β1 with
  |some (.ok os,β2)=>if os.length<=OV then on (.ok os,β2)else Om
  |_=>Om
theorem qG{dq:List Pn}{c4:List Nat}{it:Dn->M (List Pu.D)}{g:TG}{tg:mm}{tt:Dn->M Bool}{I:Ou->TB}{b:Dn->M (List (List Pu.D))}(U:ck K g tg)(W:dm tg)(Y:∀D,pY K D (I D) b){L:St}{H:Hp}{Q:VK}(h:YL K (iw dq.length c4 it tg tt b) E L H Q):
  oC dq c4 (iV K it E) (λD J=>cN J g (g8 K tt E0) (I D)) L H Q:=by
 obtain⟨F,δ,β,fr,N,r,k,e,h⟩:=h;unfold iw at e;refine⟨F,δ,β,fr,N,?_⟩;split at e
 .cases e
 .rename_i C β1 q
  cases e;exact⟨.error C,_,q,h⟩
 .rename_i ds β1 q
  split at e
  .rename_i os β2 q2
   split at e
   .rename_i Z
    cases e;refine⟨.ok ds,β1,q,λJ f t hJ D d=>?_⟩;have i:¬F.A D:=t.fr.fresh d;have nb:∀b l,F.bg=on (b,l)->D≠b/\D≠l:=λb l z=>⟨λw=>i (w▸(fr.bgA b l z).1),λw=>i (w▸(fr.bgA b l z).2.1)⟩;have O:=t.fr.upd (.lst []) d;have m:Fr ⟨λa=>F.A a\/a=D,F.bg⟩ (upd f D (.lst [])) β1:=by
     refine⟨λa ha z=>?_,λb l z=>let ⟨x,y,w⟩:=fr.bgA b l z;⟨.inl x,.inl y,w⟩,O.fr.bag⟩
     rcases ha with ha|ha
     .exact O.fr.occ a ha z
     .subst ha;rw[aj]at z;cases z
    have j:Tr F f ⟨λa=>F.A a\/a=D,F.bg⟩ (upd f D (.lst [])):=⟨λa ha hs z=>by
     rcases z with z|z
     .exact ha z
     .subst z;exact hs d,λa o ha z=>by rw[bt (ay z d)];exact z,rfl⟩
    have cv:∀c,H c≠Om->upd f D (.lst []) c≠Om:=λc hc z=>by
     by_cases w:c=D
     .subst w;rw[aj]at z;cases z
     .rw[bt w]at z;exact hc (t.none z)
    refine JE (D:=D) (H0:=H) (as:=[]) (os:=os) U W (Y D) m (.inr rfl) nb (λb l z=>⟨fr.occ _ (fr.bgA b l z).1,fr.occ _ (fr.bgA b l z).2.1⟩) (pU (N.tr ((t.tr fr).trans j))) aj ⟨cv,[],rfl,by simp,trivial⟩ (hJ.tr j) q2 (by simpa using Z) λσ1 R T u vk3 v B=>?_;have tf:To F f R k:=by
     refine⟨λa o z n=>u.kp a o (by rw[bt (ay z d)];exact z) (ay z d) n,λa ha z=>u.fr.occ a (Q1 ha) z,fr.bgA,u.fr.bag⟩
    obtain⟨_,rs,ea,nd,rl⟩:=B;subst ea;exact h _ R (t.trans tf) ⟨D,rs,rfl,t.none d,v,nd,bi.tr (F:=⟨λa=>F.A a\/a=D,F.bg⟩) ⟨λa ha _ z=>ha (Q1 z),λa o _ z=>z,rfl⟩ rl λr xs _ p q=>⟨p,q⟩⟩
   .cases e
  .cases e
section
variable{elt b_ iter:Expr}{ifs:List Expr}{rest:List Qs}{scope:Scope}{pos:TK}{Nc dq:List Pn}{c4:List Nat}{g:TG}{tb:Ou->TB}
theorem y6(c:X.calm=Oq)(S:dr X scope Nc dq c4)(d:PI X b_ iter (iV X.K it E))
  (e:∀(cl:List (Pn×Ou)) (C:Ou) (a:List Ou) (s:OD) (H:Hp),PG (az X Nc scope cl C a s H) b_ g/\dy (az X Nc scope cl C a s H) ifs (g8 X.K tt E0)/\∀D,PB (az X Nc scope cl C a s H) elt (⟨b_,iter,ifs,0⟩::rest) scope pos 0 D (tb D))
  (f:ck X.K g tg) (i:dm tg) (j:∀D,i5 X.K D (tb D) b) (hs:∀x,PD iter X.env x=QU x:=by intro _;rfl):PE X (.ListComp elt (⟨b_,iter,ifs,0⟩::rest) scope pos) (w_ X.K (eS dq.length c4 it tg tt b) E):=
 (mr c S d e hs).imp λk H Q h=>ya f i j h
theorem LK(c:X.calm=Oq)(S:dr X scope Nc dq c4)(d:PI X b_ iter (iV X.K it E))
  (e:∀(cl:List (Pn×Ou)) (C:Ou) (a:List Ou) (s:OD) (H:Hp),PG (az X Nc scope cl C a s H) b_ g/\dy (az X Nc scope cl C a s H) ifs (g8 X.K tt E0)/\∀D,PB (az X Nc scope cl C a s H) elt (⟨b_,iter,ifs,0⟩::rest) scope pos 0 D (tb D))
  (f:ck X.K g tg) (i:dm tg) (j:∀D,pY X.K D (tb D) b) (hs:∀x,PD iter X.env x=QU x:=by intro _;rfl):PE X (.ListComp elt (⟨b_,iter,ifs,0⟩::rest) scope pos) (YL X.K (iw dq.length c4 it tg tt b) E):=
 (mr c S d e hs).imp λk H Q h=>qG f i j h
end
mutual
noncomputable def noL:D->Bool
 | .int _=>Oq
 | .bl _=>Oq
 | .str _=>Oq
 | .non=>Oq
 | .tup ds=>noLs ds
 |_=>Ov
noncomputable def noLs:List D->Bool
 |[]=>Oq
 |d::ds=>noL d&&noLs ds
end
mutual
theorem vF{F b:Fx}(hF:∀c,b.A c->F.A c\/y4 H c):∀(d:D) (v:V),noL d=Oq->c_ K F H d v->c_ K b H d v
 | .int i,v,_,h=>h
 | .bl i,v,_,h=>h
 | .str i,v,_,h=>h
 | .non,v,_,h=>h
 | .tup ds,v,n,h=>by
  obtain⟨a,xs,e,h1,f⟩:=h;refine⟨a,xs,e,?_,noLs_den hF ds xs (by simpa[noL]using n) f⟩;rcases h1 with⟨h1,r⟩|h1
  .refine .inl ⟨λz=>?_,r⟩
   rcases hF a z with z|⟨ys,z⟩|⟨ys,z⟩
   .exact h1 z
   .rcases r with r|⟨o,r⟩<;>rw[z]at r<;>cases r
   .rcases r with r|⟨o,r⟩<;>rw[z]at r<;>cases r
  .exact .inr h1
 | .lst _,_,n,_=>by simp[noL]at n
 | .scr _,_,n,_=>by simp[noL]at n
 | .ty _,_,n,_=>by simp[noL]at n
 | .txt,_,n,_=>by simp[noL]at n
 | .obj _ _ _,_,n,_=>by simp[noL]at n
 | .bag,_,n,_=>by simp[noL]at n
 | .adr _,_,n,_=>by simp[noL]at n
 | .dct _ _ _,_,n,_=>by simp[noL]at n
theorem noLs_den{F a:Fx}(hF:∀c,a.A c->F.A c\/y4 H c):∀(ds:List D) (xs:List V),noLs ds=Oq->bb K F H ds xs->bb K a H ds xs
 |[],xs,_,h=>h
 |d::ds,xs,n,h=>by
  have b:noL d=Oq/\noLs ds=Oq:=by simpa[noLs]using n
  obtain⟨x,f,e,g,i⟩:=h;exact⟨x,f,e,vF hF d x b.1 g,noLs_den hF ds f b.2 i⟩
end
theorem bi.noL{F b:Fx}{P d:Ou->Prop}(hF:∀c,b.A c->F.A c\/y4 H c):∀{ba:List (List D)} {rs:List Ou},(∀ds∈ba,noLs ds=Oq)->bi K F H P ba rs->(∀r∈rs,d r)->bi K b H d ba rs
 |[],[],_,_,_=>trivial
 |ds::ba,r::rs,n,h,p=>by
  obtain⟨i,⟨xs,e,f⟩,g⟩:=h;exact⟨p r Oz,⟨xs,e,noLs_den hF _ _ (n ds Oz) f⟩,bi.noL hF (λx a=>n x (Ot _ a)) g λx a=>p x (Ot _ a)⟩
 |[],_::_,_,h,_=>h.elim
 |_::_,[],_,h,_=>h.elim
theorem fw.newGrd{δ:Ds}{d:St}(ok:fw K H₀ B bg H δ β d)(t:To (en B bg) H H' β')(hn:∀ds∈ba,noLs ds=Oq)(j:gy K (en B bg) H H' ba v):
  ∃e,fw K H₀ e bg H' (δ.set i (on (.grd ba))) β' (d.set i (on v))/\hU B H e H':=by
 obtain⟨a,rs,rfl,k,f,nd,b⟩:=j;have g:∀c,c=a\/c∈rs->H c=Om/\y4 H' c:=λc hc=>by
  rcases hc with rfl|hc
  .exact⟨k,.inl ⟨_,f⟩⟩
  .exact⟨(b.all c hc).1,.inl (b.all c hc).2⟩
 exact ok.claim (λc=>c=a\/c∈rs) t g λh l _=>⟨a,rs,rfl,h a (.inl rfl),f,nd,bi.noL (F:=en B bg) (λc hc=>(l c hc).imp id λw=>(g c w).2) hn b λr m=>h r (.inr m)⟩
end
section
variable{X:Cx}{E:St->XK}{K:OX}{st:Qg}{H₀:Hp}{B:Ow}{bg:Option (Ou×Ou)}{H H':Hp}{δ:Ds}{β β':Bg}{σ:St}
theorem fw.newOwnE(ok:fw K H₀ B bg H δ β σ)(t:To (en B bg) H H' β')(e:cy K (en B bg) H H' ds v):
  ∃b,fw K H₀ b bg H' (δ.set i (on (.own ds))) β' (σ.set i (on v))/\hU B H b H':=by
 obtain⟨a,xs,rfl,f,d,g⟩:=e;exact ok.claim (·=a) t (λc z=>by cases z;exact⟨f,.inl ⟨xs,d⟩⟩) λ{j} k l _=>⟨a,xs,rfl,k a rfl,d,bb.tr (show Tr ((en B bg).but a) H' (en j bg) H' from⟨λc h _ z=>h (l c z),λ_ _ _ h=>h,rfl⟩) _ _ g⟩
def rZ(i:Nat)(f:FL):G:=λδ β=>match f (vw δ) β with
 |some (.ok ds,β1)=>on (.nx (δ.set i (on (.own ds))),β1)
 |some (.error C,β1)=>on (.ex C δ,β1)
 |none=>Om
theorem KA(h:PS X st (fj (w_ X.K f E) (dE i))):PS X st (tG X.K X.H₀ (rZ i f) E):=h.imp λD σ H d=>by
 obtain⟨B,bg,δ,β,o,β',ok,e,q⟩:=d;refine⟨en B bg,vw δ,β,ok.fr,ok.view,?_⟩;unfold rZ at e;split at e
 .rename_i ds β1 b
  cases e;refine⟨.ok ds,_,b,λv H' t hd=>?_⟩;obtain⟨g,a,c⟩:=ok.newOwnE (i:=i) t hd;exact q _ _ _ c a
 .rename_i C β1 b
  cases e;refine⟨.error C,_,b,λH' t=>?_⟩;obtain⟨a,c⟩:=ok.to rfl t;exact q _ B H' c a
 .cases e
def uv(i:Nat)(f:Dn->M (List (List D))):G:=λδ β=>match f (vw δ) β with
 |some (.ok ba,β1)=>if(ba.all noLs)=Oq then on (.nx (δ.set i (on (.grd ba))),β1)else Om
 |some (.error C,β1)=>on (.ex C δ,β1)
 |none=>Om
theorem HE(h:PS X st (fj (YL X.K f E) (dE i))):PS X st (tG X.K X.H₀ (uv i f) E):=h.imp λD σ H g=>by
 obtain⟨B,bg,δ,β,o,β',ok,e,q⟩:=g;refine⟨en B bg,vw δ,β,ok.fr,ok.view,?_⟩;unfold uv at e;split at e
 .rename_i ba β1 b
  split at e
  .rename_i hn
   cases e;refine⟨.ok ba,_,b,λv H' t hd=>?_⟩;obtain⟨j,a,c⟩:=ok.newGrd (i:=i) t (λds d=>Sf.mp hn ds d) hd;exact q _ _ _ c a
  .cases e
 .rename_i C β1 b
  cases e;refine⟨.error C,_,b,λH' t=>?_⟩;obtain⟨a,c⟩:=ok.to rfl t;exact q _ B H' c a
 .cases e
theorem bi.put{H:Hp}{P:Ou->Prop}(t:Tr F H F (upd H r (.lst xs)))(hd:bb K F (upd H r (.lst xs)) ds xs):∀{ba:List (List D)} {rs:List Ou} (j:Nat),bi K F H P ba rs->rs.Nodup->rs[j]?=on r->bi K F (upd H r (.lst xs)) P (ba.set j ds) rs
 |d0::ba,r0::rs,0,h,nd,e=>by
  obtain rfl:r0=r:=by simpa using e
  have ne:∀a∈rs,a≠r0:=λa b z=>(Pw.mp nd).1 (z▸b);exact⟨h.1,⟨xs,aj,hd⟩,bi.tr t h.2.2 λa ys b p q=>⟨p,by rw[bt (ne a b)];exact q⟩⟩
 |d0::ba,r0::rs,j+1,h,nd,e=>by
  have c:rs[j]?=on r:=by simpa using e
  obtain⟨d,⟨ys,f,g⟩,i⟩:=h;have ne:r0≠r:=λz=>(Pw.mp nd).1 (z▸OT c);exact⟨d,⟨ys,by rw[bt ne];exact f,bb.tr t _ _ g⟩,bi.put t hd j i (Pw.mp nd).2 c⟩
 |[],[],_,_,_,e=>by simp at e
 |[],_::_,_,h,_,_=>h.elim
 |_::_,[],_,h,_,_=>h.elim
theorem bi.at{H:Hp}{P:Ou->Prop}:∀{ba:List (List D)} {rs:List Ou} {j:Nat} {ds:List D},bi K F H P ba rs->ba[j]?=on ds->∃r xs,rs[j]?=on r/\P r/\H r=on (.lst xs)/\bb K F H ds xs
 |d0::ba,r0::rs,0,ds,h,e=>by
  obtain rfl:d0=ds:=by simpa using e
  obtain⟨a,⟨ys,b,c⟩,g⟩:=h;exact⟨r0,ys,rfl,a,b,c⟩
 |d0::ba,r0::rs,j+1,ds,h,e=>by
  obtain⟨r,xs,d,f⟩:=bi.at h.2.2 (j:=j) (ds:=ds) (by simpa using e);exact⟨r,xs,by simpa using d,f⟩
 |[],[],_,_,_,e=>by simp at e
 |[],_::_,_,_,h,_=>h.elim
 |_::_,[],_,_,h,_=>h.elim
theorem fw.writeRow{rs:List Ou}{ba:List (List D)}(ok:fw K H₀ B bg H δ β σ)(hs:σ[i]?=on (on (.ref a)))(hB:B a=on (i+2))(ha:H a=on (.lst (rs.map V.ref)))(nd:(a::rs).Nodup)(u:bi K (en B bg) H (λr=>B r=on (i+2)) ba rs)(A:rs[j]?=on r)(I:H r=on (.lst ys))(hd:bb K (en B bg) H ds xs):
  fw K H₀ B bg (upd H r (.lst xs)) (δ.set i (on (.grd (ba.set j ds)))) β σ/\hU B H B (upd H r (.lst xs)):=by
 have m:r∈rs:=OT A;have f:B r=on (i+2):=(u.all r m).1;have g:hU B H B (upd H r (.lst xs)):=by
  refine⟨λc o h n=>?_,λ_ _=>rfl,λ_ _ _ n=>n,λc p=>?_⟩
  .rw[bt]
   .exact h
   .intro z;subst z;rw[f]at n;rcases n with n|n<;>cases n
  .by_cases z:c=r
   .subst z;rw[aj];simp
   .rw[bt z];exact p
 have tr:Tr (en B bg) H (en B bg) (upd H r (.lst xs)):=g.tr;refine⟨⟨⟨λc p z=>?_,ok.fr.bgA,λb l e=>?_⟩,ok.bgt,by rw[Qc,ok.len],λa ha=>g.al a (ok.cov a ha),ok.new,λc k p=>(by
  by_cases z:c=r
  .subst z;exact .inl ⟨xs,aj⟩
  .exact(ok.lst c k p).imp λo y=>by rw[bt z];exact y),λk s e=>?_⟩,g⟩
 .by_cases q:c=r
  .subst q;rw[aj]at z;cases z
  .rw[bt q]at z;exact ok.fr.occ c p z
 .obtain⟨b1,b2⟩:=ok.bgt b l e
  rw[bt (λz=>by subst z;rw[f]at b1;cases b1),bt (λz=>by subst z;rw[f]at b2;cases b2)];exact ok.fr.bag b l e
 .rw[Qm]at e
  by_cases q:i=k
  .subst q
   rw[OE rfl]at e;split at e
   .cases e
    have t:a≠r:=λz=>(Pw.mp nd).1 (z▸m);exact⟨_,hs,a,rs,rfl,hB,by rw[bt t];exact ha,nd,bi.put tr (bb.tr tr _ _ hd) j u (Pw.mp nd).2 A⟩
   .cases e
  .rw[OC q]at e
   obtain⟨v,C,F⟩:=ok.tell k s e;exact⟨v,C,F.tr tr λc d=>⟨d,λo z=>(bt λy=>by subst y;rw[f]at d;cases d;exact q rfl).trans z⟩⟩
def lE(f:Dn->M (List (List D))):G:=λδ β=>match f (vw δ) β with
 |some (.ok ba,β1)=>on (.rg ba,β1)
 |some (.error C,β1)=>on (.ex C δ,β1)
 |none=>Om
theorem Jg(h:PS X (.Return (on e) pos) (np (YL X.K f E))):PS X (.Return (on e) pos) (tG X.K X.H₀ (lE f) E):=h.imp λD σ H j=>by
 obtain⟨B,bg,δ,β,o,β',ok,e,q⟩:=j;refine⟨en B bg,vw δ,β,ok.fr,ok.view,?_⟩;unfold lE at e;split at e
 .rename_i ba β1 d
  cases e;refine⟨.ok ba,_,d,λv H' t hd=>?_⟩;obtain⟨b,g⟩:=ok.to rfl t;have i:∀c,H c=Om->X.H₀ c=Om:=λc k=>by
   cases w:X.H₀ c with
   |none=>rfl
   |some o=>exact O4 k (ok.cov c (by rw[w];simp))
  obtain⟨a,rs,rfl,l,m,nd,n⟩:=hd;exact q _ B H' g b.fr ⟨a,rs,rfl,i a l,m,nd,bi.tr (Tr.refl _ _) n λr xs _ p y=>⟨i r p,y⟩⟩
 .rename_i C β1 d
  cases e;refine⟨.error C,_,d,λH' t=>?_⟩;obtain⟨b,g⟩:=ok.to rfl t;exact q _ B H' g b
 .cases e
def ZC(K:OX)(n:Nat)(m:List D->M (List (List D))):Sp:=λvs H Q E=>vs.length=n/\∃F ds β,Fr F H β/\bb K F H ds vs/\run (gy K F H) F (λ_=>E) [] (m ds) H Q β
def mS(n:Nat)(g:G):List D->M (List (List D)):=λds β=>match g (m_ n ds) β with
 |some (.rg ba,β')=>on (.ok ba,β')
 |some (.ex C _,β')=>on (.error C,β')
 |_=>Om
variable{P:Pf}{w:Po}{mg:Pn->Option Oy}{base:P5}
theorem JU{st:Qg}{N ps:List Pn}(n m:Nat)(g:G)(F:d4 K x qual st f fd)(S:cp N ps (af st))(L:ps.length=n)(O:N.length=m)
  (j:∀(c:Oy) (A:PV) (outer:List VN) (s:OD) (H:Hp) (E:XK),eg k (A.deeper (SW qual (af st) s.heap.objs.size f c))->
   PSs (eJ (hE P w) P w K mg base N qual (af st) f c A outer s H E) (bZ st) (tG K H g (λ_=>E))):e_ P w K mg base (hE P w) (k+1) f fd ps (ZC K n (mS m g)):=by
 subst L O;refine F.okE S (λvs H Q E h=>h.1) λc A outer s H vs Q E hr h=>?_;obtain⟨hl,u,ds,β,fr,hd,r,β',e,h⟩:=h;refine⟨_,j c A outer s H E hr,?_⟩;obtain⟨B,ok,R,h1,hn⟩:=oF (N:=N) fr hd;have J:∀{I:Ow} {H':Hp},hU B H I H'->Fr (en I u.bg) H' β'->To u H H' β'/\Tr (en I u.bg) H' u H':=λ{I H'} s i=>by
  have hs:∀a,u.A a->I a≠Om:=λa ha=>by
   rw[s.tg a (R a ha)];rcases R a ha with z|z<;>rw[z]<;>simp
  refine⟨⟨λa o ha n=>s.kp a o ha ?_,λa ha=>i.occ a (hs a ha),λb l e=>fr.bgA b l e,i.bag⟩,λa ha _ z=>ha (hs a z),λ_ _ _ h=>h,rfl⟩;cases q:B a with
  |none=>exact .inl rfl
  |some t=>
   have:=R a (hn a (by rw[q];simp));rcases this with z|z
   .rw[q]at z;exact .inr z
   .obtain⟨b,l,e,w⟩:=h1 a z
    obtain⟨T,n2⟩:=n b l e;rcases w with w|w
    .exact O4 w T
    .exact O4 w n2
 unfold mS at e;split at e
 .rename_i d β1 U
  cases e;refine⟨B,u.bg,m_ N.length ds,β,.rg d,β',ok,U,λv I H' s i hv=>?_⟩;obtain⟨W,t2⟩:=J s i;obtain⟨a,rs,ev,n0,T,nd,rl⟩:=hv;exact h v H' W ⟨a,rs,ev,n0,T,nd,bi.tr t2 rl λr xs _ p y=>⟨p,y⟩⟩
 .rename_i C Y β1 U
  cases e;refine⟨B,u.bg,m_ N.length ds,β,.ex C Y,β',ok,U,λσ' I H' s Z=>?_⟩;obtain⟨W,t2⟩:=J s Z.fr;exact h H' W
 .cases e
variable{e:Expr}{es:List Expr}{pos p:TK}{x:Pn}{k n:Nat}{f:Ou}{fd:O8}{ps:List Pn}
def uC(m:List D->M (List (List D)))(g:FL):Dn->M (List (List D)):=λδ=>M.bind (g δ) λas=>m as
theorem gy.pre{K:OX}{H b H':Hp}(t:To F H b β1)(h:gy K F b H' ba v):gy K F H H' ba v:=by
 obtain⟨a,rs,c,d,g,nd,i⟩:=h;exact⟨a,rs,c,t.none d,g,nd,bi.tr (Tr.refl _ _) i λr xs _ p y=>⟨t.none p,y⟩⟩
theorem LL(G:e_ X.prog X.w X.K X.mg X.base (hE X.prog X.w) k f fd ps (ZC X.K n m))(q:eg k X.A)(u:Gl X x)(hm:X.mg x=on (.ref f))(y:Us X.K (.ref f)=Oq)(I:aC X.K fd ps [])(J:cM (hE X.prog X.w) X E)
  (ha:PA X (e::es) (js X.K g E)) (hn:∀δ β r β',g δ β=on (.ok r,β')->r.length=n) (a:(x==("__debug__":Pn))=Ov:=by decide) (L:OM (e::es) X.env=(Ov,P0 e X.env)::OM es X.env:=by rfl) (b:(Q0 pos (OM es X.env)).any (·.1)=Ov:=by rfl):
  PE X (.Call (.Name x p) (e::es) [] pos) (YL X.K (uC m g) E):=
 (mv G q u hm y I .nil J ha a L b).imp λσ H Q N=>lg N λF δ β fr O r=>⟨F,δ,β,fr,O,by
  obtain⟨r0,c,h,i⟩:=run.bind (R:=bb X.K F) r;refine⟨r0,c,h,?_⟩;cases r0 with
  |error C=>exact i
  |ok ds=>
   intro vs T t hd;obtain⟨d',β1,j,d,r1⟩:=i vs T t hd;have U:=hn _ _ _ _ h;refine⟨by rw[Pi,<-hd.length,U],F,d',β1,j.fr,by rw[Pi];exact d,?_⟩;obtain⟨l,β2,W,o⟩:=r1;refine⟨l,β2,W,?_⟩;cases l with
   |ok ba=>exact λv H' Y Z=>o v H' Y (gy.pre j Z)
   |error C=>exact o⟩
variable{elt b_ iter:Expr}{ifs:List Expr}{rest:List Qs}{scope:Scope}{Nc dq:List Pn}{c4:List Nat}{g:TG}{tb:Ou->TB}
theorem KC{x:Pn}{a c:TK}(m:X.N.Nodup)(d:X.N[i]?=on x)(o:zv X.env.scope x)(q:X.calm=Oq)(S:dr X scope Nc dq c4)(r:PI X b_ iter (iV X.K it E))
  (t:∀(cl:List (Pn×Ou)) (C:Ou) (l:List Ou) (s:OD) (H:Hp),PG (az X Nc scope cl C l s H) b_ g/\dy (az X Nc scope cl C l s H) ifs (g8 X.K tt E0)/\∀D,PB (az X Nc scope cl C l s H) elt (⟨b_,iter,ifs,0⟩::rest) scope pos 0 D (tb D))
  (u:ck X.K g tg) (v:dm tg) (y:∀D,pY X.K D (tb D) b)
  (j:Tv (.ListComp elt (⟨b_,iter,ifs,0⟩::rest) scope pos) (on (.Name x a)) c.line X.env=QU Oq:=by rfl)
  (hs:∀x,PD iter X.env x=QU x:=by intro _;rfl) (A:X.fn x=Oq\/X.env.scope.names.lookup x=on .local:=by first|exact .inl rfl|exact .inr rfl|assumption):
  PS X (.Assign [.Name x a] (.ListComp elt (⟨b_,iter,ifs,0⟩::rest) scope pos) c) (tG X.K X.H₀ (uv i (iw dq.length c4 it tg tt b)) E):=
 HE ((vo m d o q S r t j hs A).imp λD σ H h=>qG u v y h)
end
end L2.Pu
namespace L2
open PySem PySem.Spec PyProof.Rows
section
variable{X:Cx}
theorem EA{bs:List Bool}{its:List Oy}(r:au (bs.map V.bl) its){i:Nat}{v:Oy}(h:its.toArray[i]?=on v):v= .bool (bs.getD i Ov):=by
 have h':its[i]?=on v:=by simpa using h
 have a:=r.length;rw[Ol]at a;have b:i<bs.length:=by rw[a];exact(OI.mp h').1
 obtain⟨u,c,d⟩:=r.get (i:=i) (x:=V.bl bs[i]) (by rw[Ox,Os b];rfl);rw[h']at c;cases c;rw[Op,Os b];exact d
theorem yE{α:Type}(f:Bool->Bool)(bs:List Bool):(OB bs.length).map (λi=>bs.getD i Ov)=bs:=by
 apply Yg;intro i;rw[Ox];by_cases h:i<bs.length
 .rw[Pz h,Os h]
  simp[Op,Os h]
 .rw[SY (by simpa using h),SY (by omega)];rfl
theorem yF(bs:List Bool):((OB bs.length).any λi=>bs.getD i Ov)=bs.any id:=by
 conv=>rhs;rw[<-yE (α:=Bool) id bs]
 rw[WL];rfl
theorem lP(l:X.calm=Oq):cP X (.builtin "any") (λxs H Q=>∃(a:Ou) (bs:List Bool),xs=[.ref a]/\fx X.K H a (bs.map V.bl)/\Q (.bl (bs.any id)) H):=by
 intro j s B H xs us Q I r h;obtain⟨a,bs,rfl,m,q⟩:=h;cases r with
 |cons r1 n=>
  cases r1;cases n;obtain⟨its,k,p,C⟩:=I.list m;have f:=p.isList;have c:its.toArray.size=bs.length:=by rw[OU,<-k.length,Ol]
  have d:∀b o,s.heap.get? b=on o->b≠s.heap.objs.size:=λb o e z=>by
   rw[z,Xi (OG _)]at e;cases e
  have g:a≠s.heap.objs.size:=by
   obtain⟨o,e,_⟩:=f;exact d a o e
  have W:=Walks.list (prog:=X.prog) (w:=X.w) (A:=X.A.in1) (show X.A.in1.handled=Om from I.ok.hd l) s.heap.objs.size a g its.toArray;refine call_any_walk (UG f ⟨s.heap.objs.size,[s.heap.objs.size,a],[s.heap.objs.size],its.toArray.size,_,_,λi=>bs.getD i Ov,rfl,W,⟨⟨_,OL s.heap rfl,rfl,rfl⟩,f.push _⟩,λi v s' F J t u=>?_,λh' L y=>?_⟩)
  .rw[EA k t]
   exact P8 u
  .rw[c,yF]
   exact⟨.bl (bs.any id),H,I.kept λb o e=>y b o (λz=>d b o e (by simpa using z)) (Oo _ e),rfl,q⟩
end
end L2
namespace L2.Pu
open PySem PySem.Spec PyProof.Rows
noncomputable def dM:List D->Option (List Bool)
 |[]=>on []
 | .bl b::r=>(dM r).map (b::·)
 |_=>Om
theorem nc{K:OX}:∀{ds:List D} {xs:List V} {bs:List Bool},dM ds=on bs->bb K F H ds xs->xs=bs.map V.bl
 |[],xs,bs,e,h=>by
  cases e;cases h;rfl
 |d::ds,xs,bs,e,h=>by
  obtain⟨x,f,rfl,a,c⟩:=h;cases d<;>first
   |(rename_i b
     cases q:dM ds with
     |none=>simp[dM,q]at e
     |some r=>
     simp[dM,q]at e;subst e;cases a.bl;rw[nc q c];rfl)
   |simp[dM]at e
def xL:List D->Option D
 |[.lst ds]=>(dM ds).map λbs=> .bl (bs.any id)
 |_=>Om
variable{K:OX}
theorem xh:dF K (λxs H Q=>∃(a:Ou) (bs:List Bool),xs=[.ref a]/\fx K H a (bs.map V.bl)/\Q (.bl (bs.any id)) H) xL:=λF H β Q ds d vs fr h e k=>by
 unfold xL at e;split at e
 .obtain⟨v,rfl,g⟩:=bb.one h
  obtain⟨a,xs,rfl,r,b⟩:=c_.sqL g;obtain⟨bs,q,e⟩:=Uy.mp e;subst e;rw[nc q b]at r;exact⟨a,bs,rfl,r,k _ H (To.refl fr) rfl⟩
 .cases e
end L2.Pu
namespace L2
open PySem PySem.Spec PyProof.Rows
section
variable{X:Cx}{a b c d:Expr}{ta tb tc td:TE}{pos:TK}
def Nj(i e:R2)(tc td:TE)(y:V):TE:=λf H Q=>tc f H λw j=>i y w j λk g=>∃h,k= .bl h/\(if h=Oq then td f g λl m=>e w l m Q else Q (.bl Ov) g)
def u4(r h e:R2)(ta tb tc td:TE):TE:=λf H Q=>ta f H λx i=>tb f i λy j=>r x y j λz g=>∃k,z= .bl k/\(if k=Oq then Nj h e tc td y f g Q else Q (.bl Ov) g)
theorem yK(J:gs X (P7 op) r)(l:gs X (P7 op') r')(i:gs X (P7 op'') r'')(ha:PE X a ta)(L:PE X b tb)(N:PE X c tc)(hd:PE X d td)
  (hm:X8 [op,op',op''] [b,c,d]=Ov:=by with_unfolding_all rfl):PT X (.Compare a [op,op',op''] [b,c,d] pos) (ww (u4 r r' r'' ta tb tc td)):=by
 intro f s g H Q I h;refine isTrue_chain (eo (ha f s g H _ I h) λv O ⟨x,R,T,r1,q1⟩=>test_link (eo (L f O g R _ T q1) λu U ⟨y,W,Y,o,q2⟩=>
  eo (J f U g W x y v u _ Y r1 o q2) λZ s3 ⟨z,p,q,r3,k,e,q3⟩=>?_)) hm
 subst e;cases r3;refine P8 ?_;cases k with
 |false=>
  obtain⟨m,j,n⟩:=q3;cases j;exact ite_ff ⟨p,q,n⟩
 |true=>
  refine ite_tt (test_link (eo (N f s3 g p _ q q3) λt s4 ⟨A,H4,I4,B,q4⟩=>eo (l f s4 g H4 y A u t _ I4 o B q4) λZ s5 ⟨z',C,F,r5,m,j,q5⟩=>?_));subst j;cases r5;refine P8 ?_;cases m with
  |false=>
   obtain⟨m,j,n⟩:=q5;cases j;exact ite_ff ⟨C,F,n⟩
  |true=>
   refine ite_tt (test_last (eo (hd f s5 g C _ F q5) λw' s6 ⟨z2,H6,I6,r6,q6⟩=>eo (i f s6 g H6 A z2 t w' _ I6 B r6 q6) λd' s7 ⟨z3,H7,I7,r7,k3,e3,q7⟩=>?_));subst e3;cases r7;exact P8 ⟨H7,I7,q7⟩
end
end L2
namespace L2.Pu
open PySem PySem.Spec PyProof.Rows
section
variable{X:Cx}{E:St->XK}{a b c d:Expr}{pos:TK}{K:OX}
def Iy(f e:D->D->Option D)(h i:FD)(y:D):FD:=λδ=>M.bind (h δ) λw=>M.bind (M.ofO (f y w)) λz=>M.bind (M.ofO (asB z)) λc=>if c=Oq then M.bind (i δ) (λg=>M.ofO (e w g))else M.ret (.bl Ov)
def mP(o j e:D->D->Option D)(f g h i:FD):FD:=λδ=>M.bind (f δ) λa=>M.bind (g δ) λb=>M.bind (M.ofO (o a b)) λz=>M.bind (M.ofO (asB z)) λc=>if c=Oq then Iy j e h i b δ else M.ret (.bl Ov)
theorem run.later{α i:Type}{R:Hp->α->i->Prop}{F:Fx}{j:St}{m:M α}{H k:Hp}{Q:i->Hp->Prop}{β:Bg}(t:To F H k β)(h:run R F E j m H Q β):run R F E j m k Q β:=by
 obtain⟨l,f,e,q⟩:=h;refine⟨l,f,e,?_⟩;cases l with
 |ok d=>exact λv g tt=>q v g (t.trans tt)
 |error C=>exact λg tt=>q g (t.trans tt)
theorem wA(l:aX K r o)(l':aX K r' o')(O:aX K r'' o'')(T:tV K (mP o o' o'' f g h i) E σ H Q):u4 r r' r'' (tV K f E) (tV K g E) (tV K h E) (tV K i E) σ H Q:=by
 obtain⟨F,δ,β,fr,U,T⟩:=T;refine⟨F,δ,β,fr,U,(run.bind (R:=c_ K F) T).mono λv H1 n=>oa n λd β1 t hd r1=>⟨F,δ,β1,t.fr,U.tr (t.tr fr),(run.bind (R:=c_ K F) r1).mono λv2 H2 n=>oa n λd2 β2 p u r2=>?_⟩⟩;obtain⟨z,ez,r3⟩:=run.ofO_bind r2;obtain⟨c,ec,L⟩:=run.ofO_bind r3;rw[iC ec]at ez;have W:=U.tr ((t.tr fr).trans (p.tr t.fr));refine l F H2 β2 _ d d2 _ v v2 p.fr (c_.tr (p.tr t.fr) _ _ hd) u ez λvz H3 j hz=>⟨c,hz,?_⟩;cases c with
 |true=>
  rw[OE rfl]at L;have Y:=c_.tr (j.tr p.fr) _ _ u;have y:=W.tr (j.tr p.fr);have r5:=run.later j L;refine⟨F,δ,β2,j.fr,y,(run.bind (R:=c_ K F) r5).mono λw H4 n=>oa n λdw A B C r6=>?_⟩;obtain⟨z',I,r7⟩:=run.ofO_bind r6;obtain⟨c',Z,N⟩:=run.ofO_bind r7;rw[iC Z]at I;refine l' F H4 A _ d2 dw _ v2 w B.fr (c_.tr (B.tr j.fr) _ _ Y) C I λvz' H5 m hz'=>⟨c',hz',?_⟩;cases c' with
  |true=>
   rw[OE rfl]at N;refine⟨F,δ,A,m.fr,y.tr ((B.tr j.fr).trans (m.tr B.fr)),(run.bind (R:=c_ K F) (run.later m N)).mono λw' H6 ⟨dw',β6,t6,J,r9⟩=>?_⟩;obtain⟨d3,e3,k⟩:=run.ofO r9;exact O F H6 β6 Q dw dw' d3 w w' t6.fr (c_.tr ((m.tr B.fr).trans (t6.tr m.fr)) _ _ C) J e3 k
  |false=>
   rw[OC OH]at N;obtain⟨rr,β',e,q⟩:=N;cases e;exact q _ H5 m rfl
 |false=>
  rw[OC OH]at L;obtain⟨rr,β',e,q⟩:=L;cases e;exact q _ H3 j rfl
theorem AZ(m:gs X (P7 op) r)(j:gs X (P7 op') r')(e:gs X (P7 op'') r'')(l:aX X.K r o)(n:aX X.K r' o')(k:aX X.K r'' o'')(ha:PE X a (tV X.K f E))(p:PE X b (tV X.K g E))(t:PE X c (tV X.K h E))(hd:PE X d (tV X.K i E))(hm:X8 [op,op',op''] [b,c,d]=Ov:=by with_unfolding_all rfl):
  PT X (.Compare a [op,op',op''] [b,c,d] pos) (g8 X.K (fB (mP o o' o'' f g h i)) E):=(yK m j e ha p t hd hm).imp λu H Q q=>wA l n k (nl q)
variable{st:Qg}{H₀:Hp}{B:Ow}{bg:Option (Ou×Ou)}{H H':Hp}{δ:Ds}{β β':Bg}{σ:St}
theorem fw.AtoB(ok:fw K H₀ B bg H δ β σ):∀c,(en B bg).A c->(pw B bg).A c\/y4 H c:=λc f=>by
 have e:B c≠Om:=f;cases q:B c with
 |none=>exact O4 q e
 |some k=>
  match k,q with
  |0,q=>exact .inl (.inl q)
  |1,q=>exact .inl (.inr q)
  |k+2,q=>exact .inr (ok.lst c k q)
theorem fw.noB{d:D}(ok:fw K H₀ B bg H δ β σ)(hn:noL d=Oq)(h:c_ K (pw B bg) H d v):c_ K (en B bg) H d v:=vF ok.AtoB d v hn h
def rY(i:Nat)(f:FD):G:=λδ β=>match f (jn δ) β with
 |some (.ok d,β1)=>if noL d=Oq then on (.nx (δ.set i (on (.sh d))),β1)else Om
 |some (.error C,β1)=>on (.ex C δ,β1)
 |none=>Om
theorem Kz(h:PS X st (fj (tV X.K f E) (dE i))):PS X st (tG X.K X.H₀ (rY i f) E):=h.imp λD σ H l=>by
 obtain⟨B,bg,δ,β,o,β',ok,e,q⟩:=l;refine⟨pw B bg,jn δ,β,ok.frA,ok.viewA,?_⟩;unfold rY at e;split at e
 .rename_i d β1 j
  split at e
  .rename_i hn
   cases e;refine⟨.ok d,_,j,λv H' t hd=>?_⟩;obtain⟨g,k⟩:=ok.to rfl t;exact q _ B H' k (g.set (g.noB hn hd))
  .cases e
 .rename_i C β1 j
  cases e;refine⟨.error C,_,j,λH' t=>?_⟩;obtain⟨g,k⟩:=ok.to rfl t;exact q _ B H' k g
 .cases e
def pI(i:Nat)(e f g:FD):G:=λδ β=>match g (jn δ) β with
 |some (.ok d,β1)=>match e (jn δ) β1 with
  |some (.ok (.int ka),β2)=>match f (jn δ) β2 with
   |some (.ok (.int kb),β3)=>match δ.getD i Om with
    |some (.grd ba)=>match qk ba.length ka with
     |some ja=>match ba[ja]? with
      |some ds=>match qk ds.length kb with
       |some jb=>if noL d=Oq then on (.nx (δ.set i (on (.grd (ba.set ja (ds.set jb d))))),β3)else Om
       |none=>Om
      |none=>Om
     |none=>Om
    |_=>Om
   |_=>Om
  |_=>Om
 |_=>Om
theorem tu(h:PS X st (fj (tV X.K fv E) (DM (S_ (tJ X.K) (jK i) (tV X.K fa E)) (tV X.K fb E) HI))):PS X st (tG X.K X.H₀ (pI i fa fb fv) E):=h.imp λD σ H h_=>by
 obtain⟨B,bg,δ,β,o,β',ok,e,q⟩:=h_;refine⟨pw B bg,jn δ,β,ok.frA,ok.viewA,?_⟩;unfold pI at e;split at e
 .rename_i d β1 e1
  refine⟨.ok d,_,e1,λv H1 t1 hd=>?_⟩;obtain⟨f,s1⟩:=ok.to rfl t1;split at e
  .rename_i ka β2 e2
   split at e
   .rename_i kb β3 e3
    split at e
    .rename_i ba Q
     split at e
     .rename_i ja ea
      split at e
      .rename_i ds er
       split at e
       .rename_i jb eb
        split at e
        .rename_i R
         cases e;have hd:=f.noB R hd;obtain⟨w,N,a,rs,rfl,hB,ha,nd,rl⟩:=f.tell i _ (getD_some Q);refine⟨_,N,pw B bg,jn δ,β1,f.frA,f.viewA,.ok (.int ka),β2,e2,λy H2 t2 hy=>?_⟩;cases hy;obtain⟨j,s2⟩:=f.to (F:=pw B bg) rfl t2;obtain⟨w2,h2,a2,g,ew,k,m,nd2,n⟩:=j.tell i _ (getD_some Q);rw[N]at h2;cases h2;cases ew;obtain⟨r,xs,T,hp,hx,dl⟩:=n.at er;refine⟨a,g.map V.ref,ka,.ref r,rfl,rfl,fx.of m,?_,?_⟩
         .unfold ot
          rw[Ol,<-n.len,ea];show(g.map V.ref)[ja]?=_;rw[Ox,T];rfl
         .refine⟨pw B bg,jn δ,β2,j.frA,j.viewA,.ok (.int kb),_,e3,λz H3 t3 hz=>?_⟩
          cases hz;obtain⟨p,s3⟩:=j.to (F:=pw B bg) rfl t3;obtain⟨w3,h3,a3,t,U,W,u,Y,A⟩:=p.tell i _ (getD_some Q);rw[N]at h3;cases h3;cases U;have Z:g=t:=by
           have O:H3 a=on (.lst (g.map V.ref)):=t3.kp a _ m (λb l y=>⟨λw=>(by subst w;rw[(ok.bgt _ _ y).1]at k;cases k),λw=>(by subst w;rw[(ok.bgt _ _ y).2]at k;cases k)⟩);rw[u]at O;have k2:t.map V.ref=g.map V.ref:=by injection O with O;injection O
           exact(Vg (λa b q=>by cases q;rfl)|>.mp k2).symm
          subst Z;obtain⟨r',C,I,hp',J,L⟩:=A.at er;rw[T]at I;cases I;have hv3:c_ X.K (en B bg) H3 d v:=c_.tr (s3.tr) _ _ (c_.tr (s2.tr) _ _ hd);refine⟨r,C,kb,jb,rfl,rfl,J,by rw[<-L.length];exact eb,?_⟩;obtain⟨ok4,s4⟩:=p.writeRow (ds:=ds.set jb d) (xs:=C.set jb v) N W u Y A T J (bb.set jb L hv3);exact q _ _ _ (s1.trans (s2.trans (s3.trans s4))) ok4
        .cases e
       .cases e
      .cases e
     .cases e
    .cases e
   .cases e
  .cases e
 .cases e
variable{e:Expr}{es:List Expr}
def o2(op:D->D->Option (List D))(f g:FD):FL:=λδ=>M.bind (f δ) λa=>M.bind (g δ) λb=>M.ofO (op a b)
noncomputable def Zr(K:OX)(l:Ou):It:=
 ⟨λi H=>∃xs x,fx K H l xs/\xs[i]?=on x,
  λi H v H'=>∃p x,H p=Om/\v= .ref p/\H'=upd H p (.tup [.int (i:Int),x])/\∀xs,fx K H l xs->xs[i]?=on x,
  λi H=>∃xs,fx K H l xs/\xs.length=i⟩
theorem x4{P:Pf}{w:Po}{K:OX}{x1}{pos:TK}(l e it:Ou)(t:e≠it):
  nw P w K (.Tuple elts x1 pos) (Zr K l) [e,it] e (λi h=>(∃f,IsEnum h e it (i:Int) f)/\h.IsListIter it l i) where
 mem:=by simp
 obj:=λi h st b j=>by
  obtain⟨⟨f,m⟩,p⟩:=st;simp only[ON,Qe,SG]at j;rcases j with rfl|rfl
  .exact⟨_,m,λv q=>by cases q⟩
  .obtain⟨o,q,_,d⟩:=p
   exact⟨o,q,λv z=>by rw[d]at z;cases z⟩
 keep:=λi h h' st k=>by
  obtain⟨⟨f,m⟩,p⟩:=st;exact⟨⟨f,k e (by simp) _ m⟩,p.at λo q=>k it (by simp) o q⟩
 item:=by
  intro X L N O Q i r s σ H E I y st R;subst L N O;obtain⟨xs,x,q1,T⟩:=R;obtain⟨⟨f,m⟩,p⟩:=st;obtain⟨g,r1,U⟩:=dc.src (b:=Oq) I q1;have hd:=I.ok.hd Q;have ne:l≠e:=dc.src_ne (b:=Oq) I q1 (y e (by simp));have W:l≠it:=dc.src_ne (b:=Oq) I q1 (y it (by simp));have k1:i<g.toArray.size:=by
   rw[OU,<-r1.length];exact(OI.mp T).1
  refine wpAny_pyNext_enum_itemD (Xs (show(X.A.in1).handled=Om from hd) it l W g.toArray) m ⟨p,U⟩ k1 t (by simp[t,ne.symm]) λu h' Y pu fo f1 fT sz kp=>?_;refine⟨_,rfl,wpAny_letOwnedTupleGo_enum (s:={s with heap:=h',toks:=Y+1}) fo λC F J=>?_⟩
  replace J:Pd e h' C:=J
  have zT:s.heap.objs.size≠e:=Rf (O1 m);obtain⟨u',Z,ru⟩:=r1.get T;have eu:u=u':=by
   have:g[i]?=on u:=by simpa using pu
   rw[this]at Z;exact Pb Z
  subst eu;have kk:∀b o,b∉[e,it]->s.heap.get? b=on o->C.get? b=on o:=λb o j q=>by
   simp only[ON,Qe,SG,Yq]at j;exact J.extBut b o j.1 (kp b o j.1 j.2 q)
  have I2:dc X r σ (upd H s.heap.objs.size (.tup [.int (i:Int),x])) {s with heap:=C,toks:=Y+1}:=by
   refine dc.turnNew I y kk (OG _) ⟨by show 2<=OV;decide,[.int i Y,u],.cons ⟨_,rfl⟩ (.cons ru .nil),_,J.extBut _ _ zT fT,rfl,_,rfl⟩
  refine⟨.ref s.heap.objs.size,_,I2,rfl,⟨s.heap.objs.size,x,I.hok.fresh (OG _),rfl,rfl,λas h1=>by rw[dc.src_inj (b:=Oq) I h1 q1];exact T⟩,⟨⟨_,by simpa using F⟩,?_⟩,λb j=>?_⟩
  .exact f1.1.at λo q=>J.extBut _ _ t.symm q
  .rw[bt]
   .exact(y b j).1
   .intro q
    have ol:∃o,s.heap.get? b=on o:=by
     simp only[ON,Qe,SG]at j;rcases j with rfl|rfl
     .exact⟨_,m⟩
     .obtain⟨o,z,_⟩:=p;exact⟨o,z⟩
    obtain⟨o,z⟩:=ol;exact O4 (O1 z) (by rw[q];exact PH _)
 done:=by
  intro X L N O Q i r s σ H E I y st R;subst L N O;obtain⟨xs,q1,hl⟩:=R;obtain⟨⟨f,m⟩,p⟩:=st;obtain⟨g,r1,U⟩:=dc.src (b:=Oq) I q1;have hd:=I.ok.hd Q;have W:l≠it:=dc.src_ne (b:=Oq) I q1 (y it (by simp));have g1:g.toArray.size=i:=by rw[OU,<-r1.length,hl]
  refine wpAny_pyNext_enum_endD (n:=g.toArray.size) (Xs (show(X.A.in1).handled=Om from hd) it l W g.toArray) m (by rw[g1];exact⟨p,U⟩) λh' kp=>⟨rfl,?_⟩;refine dc.turnL (t':=s.toks) I y λb o j q=>?_;simp only[ON,Qe,SG,Yq]at j;exact kp b o j.2 q
 self:=λ_ _ _ _ _ st h=>by
  obtain⟨⟨f,m⟩,p⟩:=st;exact wpAny_pyIter_enum m h
def iEn(K:OX)(g:TA):TI:=λσ H R=>g σ H λvs f=>∃l xs,vs=[.ref l]/\fx K f l xs/\R (Zr K l) f
theorem Jp{a:Expr}{p pos:TK}{x1}(o:Gl X "enumerate")(hm:X.mg "enumerate"=Om)(ha:PA X [a] ta)(hs:OM [a] X.env=[(Ov,P0 a X.env)]:=by rfl):
  PI X (.Tuple elts x1 tpos) (.Call (.Name "enumerate" p) [a] [] pos) (iEn X.K ta):=by
 intro f s σ H R I h;refine Call_ (fI I o hm PyProof.Rows.Boot.«enumerate» (Qj (eo (ha pos f s σ H _ I h) λus g ⟨vs,k,j,r1,q1⟩=>?_) (by rw[hs];rfl) (by rfl)));obtain⟨l,xs,e,q1,q⟩:=q1;subst e;cases r1 with
 |cons r t=>
  cases t;cases r;obtain⟨u,C,v⟩:=dc.src (b:=Oq) j q1;refine call_enumerate_list v λh' m y sz kp=>?_;refine wpAny_pyIter_enum (s:={g with heap:=h'}) m ?_;have A:dc X f σ k {g with heap:=h'}:=j.kept (t':=g.toks) kp;refine⟨_,[g.heap.objs.size+1,g.heap.objs.size],_,Zr X.K l,k,rfl,A,x4 l (g.heap.objs.size+1) g.heap.objs.size (Nat.succ_ne_self _),⟨⟨_,m⟩,y⟩,λc n=>?_,q⟩;have i:g.heap.objs.size<=c:=by
   simp only[ON,Qe,SG]at n;rcases n with rfl|rfl
   .exact RC _ _
   .exact OG _
  exact j.fpOk i (j.hok.fresh i)
noncomputable def cj:Nat->List D->List D
 |_,[]=>[]
 |n,x::xs=> .tup [.int (n:Int),x]::cj (n+1) xs
theorem iW:∀(n:Nat) (xs:List D),(cj n xs).length=xs.length
 |_,[]=>rfl
 |n,x::xs=>by
  show(cj (n+1) xs).length+1=xs.length+1;rw[iW (n+1) xs]
theorem lI:∀{n:Nat} {xs:List D} {i:Nat} {d:D},(cj n xs)[i]?=on d->∃x,xs[i]?=on x/\d= .tup [.int ((n+i:Nat):Int),x]
 |n,[],i,d,h=>by simp[cj]at h
 |n,x::xs,0,d,h=>by
  simp[cj]at h;exact⟨x,rfl,by rw[<-h];simp⟩
 |n,x::xs,i+1,d,h=>by
  have h':(cj (n+1) xs)[i]?=on d:=by simpa[cj]using h
  obtain⟨a,f,g⟩:=lI h';exact⟨a,by simpa using f,by rw[g,show n+1+i=n+(i+1) by omega]⟩
def Iz:List D->Option (List D)
 |[.lst xs]=>on (cj 0 xs)
 |_=>Om
theorem DE{H:Hp}(o:∀g f,Tr F H g f->∃xs,fx K f l xs/\bb K g f ds xs):up K (Zr K l) F H (cj 0 ds):=λg f β2 t fr i=>by
 obtain⟨xs,h,d1⟩:=o g f t;refine⟨λd hd=>?_,λj=>?_⟩
 .obtain⟨x,q,rfl⟩:=lI hd
  obtain⟨u,k,du⟩:=d1.get q;refine⟨⟨xs,u,h,k⟩,λz y r=>?_⟩;obtain⟨p,A,m,rfl,rfl,v⟩:=r;have n:=v xs h;rw[k]at n;cases n;rw[QN];exact⟨bJ.upd m,c_.newT fr m (bb.cons rfl (bb.cons du bb.nil))⟩
 .rw[iW]at j
  exact⟨xs,h,by rw[<-d1.length,j]⟩
def HR(g:FL):FL:=cZ Iz g
theorem jx{a:Expr}{p pos:TK}{x1}(q:Gl X "enumerate")(hm:X.mg "enumerate"=Om)(ha:PA X [a] (js X.K g E))(hs:OM [a] X.env=[(Ov,P0 a X.env)]:=by rfl):
  PI X (.Tuple elts x1 tpos) (.Call (.Name "enumerate" p) [a] [] pos) (iV X.K (HR g) E):=
 (Jp q hm ha hs).imp λσ H R j=>lg j λF δ β fr r h=>⟨F,δ,β,fr,r,(run.bind (R:=bb X.K F) h).mono λvs f j=>by
  obtain⟨ds,β1,t,hd,r1⟩:=j;obtain⟨l,e,k⟩:=run.ofO r1;unfold Iz at e;split at e
  .rename_i xs
   cases e;obtain⟨v,rfl,o⟩:=bb.one hd;have z:∃a,v= .ref a/\∀m i,Tr F f m i->∃ys,fx X.K i a ys/\bb X.K m i xs ys:=by
    obtain⟨a,ys,rfl,_⟩:=c_.sqL o;refine⟨a,rfl,λm i u=>?_⟩;obtain⟨I,n,y,sq,A⟩:=c_.sqL (c_.tr u _ _ o);cases y;exact⟨n,sq,A⟩
   obtain⟨a,rfl,z⟩:=z;obtain⟨us,C,_⟩:=z F f (Tr.refl F f);exact⟨a,us,rfl,C,k _ f (To.refl t.fr) (DE z)⟩
  .cases e⟩
def dG(K:OX)(g:O8)(ps:List Pn)(h:List D):Prop:=∃ds f,aC K g ps ds/\au f ds/\∀F H,bb K F H h f
inductive Sr (α:Type) where
 |kw (j:Nat)|df (a:α)
noncomputable def Sr.pick{α:Type}(z:α)(f:List α):Sr α->α
 | .kw j=>f.getD j z
 | .df a=>a
def gK{α:Type}(z:α)(n k:Nat)(src:List (Sr α))(us f:List α):List α:=if us.length=n/\f.length=k then us++src.map (Sr.pick z f)else[]
inductive lw {α γ:Type} (R:α->γ->Prop):List (Sr α)->List (Sr γ)->Prop where
 |nil:lw R [] []
 |kw {j:Nat} {a:List (Sr α)} {c:List (Sr γ)}:lw R a c->lw R (.kw j::a) (.kw j::c)
 |df {x:α} {y:γ} {a:List (Sr α)} {c:List (Sr γ)}:R x y->lw R a c->lw R (.df x::a) (.df y::c)
theorem au.getD:∀{f:List V} {g:List Oy} (j:Nat),au f g->aI (f.getD j .non) (g.getD j .none)
 |_,_,_,.nil=>rfl
 |_,_,0,.cons r _=>r
 |_,_,j+1,.cons _ t=>au.getD j t
theorem lw.vals(r:au zs ws):∀{a:List (Sr V)} {c:List (Sr Oy)},lw aI a c->au (a.map (Sr.pick .non zs)) (c.map (Sr.pick .none ws))
 |_,_,.nil=> .nil
 |_,_,.kw (j:=j) h=> .cons (au.getD j r) (lw.vals r h)
 |_,_,.df q h=> .cons q (lw.vals r h)
theorem bb.getD{K:OX}{H:Hp}:∀{ds:List D} {f:List V} (j:Nat),bb K F H ds f->c_ K F H (ds.getD j .non) (f.getD j .non)
 |[],f,j,h=>by have q:f=[]:=h;subst q;rfl
 |d::ds,f,0,h=>by
  obtain⟨x,r,e,g,i⟩:=h;subst e;exact g
 |d::ds,f,j+1,h=>by
  obtain⟨x,r,e,g,i⟩:=h;subst e;exact bb.getD j i
theorem lw.den{K:OX}{H:Hp}(r:bb K F H ds zs):∀{a:List (Sr D)} {c:List (Sr V)},lw (λd v=>∀F H,c_ K F H d v) a c->bb K F H (a.map (Sr.pick .non ds)) (c.map (Sr.pick .non zs))
 |_,_,.nil=>bb.nil
 |_,_,.kw (j:=j) h=>bb.cons (bb.getD j r) (lw.den r h)
 |_,_,.df q h=>bb.cons (q F H) (lw.den r h)
theorem lw.len{α f:Type}{R:α->f->Prop}:∀{a:List (Sr α)} {c:List (Sr f)},lw R a c->a.length=c.length
 |_,_,.nil=>rfl
 |_,_,.kw h=>by rw[OR,OR,lw.len h]
 |_,_,.df _ h=>by rw[OR,OR,lw.len h]
structure C_ (K:OX) (fd:O8) (ps ks:List Pn) (n:Nat) (src:List (Sr D)):Prop where
 ex:∃(sv:List (Sr Oy)) (sx:List (Sr V)),lw aI sx sv/\lw (λd v=>∀F H,c_ K F H d v) src sx/\∀(s:OD) (us ws:List Oy),K.In s.heap->us.length=n->ws.length=ks.length->Vp s fd ⟨us,ks.zip ws⟩ (ps.zip (us++sv.map (Sr.pick .none ws)))
 len:ps.length=n+src.length
 pos:0<ps.length
theorem C_.kb{K:OX}{ps ks:List Pn}(h:C_ K fd ps ks n src):∃(sv:List (Sr Oy)) (f:List (Sr V)),lw (λd v=>∀F H,c_ K F H d v) src f/\D1 K fd ps ks (gK .none n ks.length sv) (gK .non n ks.length f):=by
 obtain⟨sv,f,r1,l,b⟩:=h.ex;refine⟨sv,f,l,λs us k m g=>?_,λ{vs us o k} i j=>?_⟩
 .unfold gK at g⊢
  split at g
  .rename_i q
   rw[OE q];exact b s us k m q.1 q.2
  .exact O4 g (by have:=h.pos;simp;omega)
 .unfold gK
  by_cases q:vs.length=n/\o.length=ks.length
  .rw[OE q,OE (by rw[<-i.length,<-j.length];exact q)]
   exact i.append (lw.vals j r1)
  .rw[OC q,OC (by rw[<-i.length,<-j.length];exact q)]
   exact .nil
variable{p kpos:TK}{x:Pn}{k n:Nat}{f:Ou}{fd:O8}{ps ks:List Pn}{kws:List Vr}{nm:Option Pn}
def LS(m:List D->M D)(g:FL)(h:List D):FD:=λδ=>M.bind (g δ) λas=>m (as++h)
theorem IO{h:List D}(G:e_ X.prog X.w X.K X.mg X.base (hE X.prog X.w) k f fd ps (D_ X.K n m))(y:eg k X.A)(I:Gl X x)(hm:X.mg x=on (.ref f))(J:Us X.K (.ref f)=Oq)(L:dG X.K fd ps h)(N:cM (hE X.prog X.w) X E)
  (ha:PA X (e::es) (js X.K g E)) (hn:∀δ β r β',g δ β=on (.ok r,β')->r.length+h.length=n) (i:(x==("__debug__":Pn))=Ov:=by decide) (O:OM (e::es) X.env=(Ov,P0 e X.env)::OM es X.env:=by rfl) (j:(Q0 pos (OM es X.env)).any (·.1)=Ov:=by rfl):
  PE X (.Call (.Name x p) (e::es) [] pos) (tV X.K (LS m g h) E):=by
 obtain⟨ds,T,b,U,rd⟩:=L;refine(mv G y I hm J b U N ha i O j).imp λσ H Q W=>lg W λF δ β fr Y r=>⟨F,δ,β,fr,Y,?_⟩;obtain⟨r0,l,u,v⟩:=run.bind (R:=bb X.K F) r;refine⟨r0,l,u,?_⟩;cases r0 with
 |error C=>exact v
 |ok as=>
  intro vs o t hd;obtain⟨d',β1,Z,q,r1⟩:=v vs o t hd;have hl:=hn _ _ _ _ u;have hz:=(rd F o).length;refine⟨by rw[OQ,<-hd.length,<-hz,hl],F,d'++h,β1,Z.fr,bb.append q (rd F o),run.toE r1⟩
theorem Kc:PK X [] (js X.K aF E):=λpos g s σ H Q I h=>by obtain⟨F,δ,β,fr,i,r⟩:=h;exact K1 pos g s σ H Q I (run.ret fr r bb.nil)
theorem IJ{f:FD}(ha:PE X e (tV X.K f E))(m:PK X kws (js X.K g E)):PK X (⟨nm,e,kpos⟩::kws) (js X.K (ag f g) E):=λpos h s σ H Q I ⟨F,δ,β,fr,j,r⟩=>
 Jn ha m pos h s σ H Q I ⟨F,δ,β,fr,j,(run.bind (R:=c_ X.K F) r).mono λv u ⟨d,β1,t,hd,r1⟩=>
  ⟨F,δ,β1,t.fr,j.tr (t.tr fr),(run.bind (R:=bb X.K F) r1).mono λvs y o=>oa o λds β2 l i q=>run.ret l.fr q (bb.cons (c_.tr (l.tr t.fr) _ _ hd) i)⟩⟩
def Gw(g:G)(δ:Ds)(β:Bg)(Q:sA->Bg->Prop):Prop:=∃o β',g δ β=on (o,β')/\Q o β'
end
section
variable{g h a b g1 g2:G}{δ δ1:Ds}{β β1 β2 β3:Bg}{Q R:sA->Bg->Prop}{i:Nat}{f fa fb fv:FD}{fl:FL}{fg:Dn->M (List (List D))}{d x y z:D}{ds as:List D}{t:Dn->M Bool}{c:Bool}{C:Ou}{K:OX}
theorem Gw.mono(k:Gw g δ β R)(q:∀o β,R o β->Q o β):Gw g δ β Q:=let ⟨o,β',e,r⟩:=k;⟨o,β',e,q _ _ r⟩
theorem Je:aN g gNil=g:=by
 funext δ β;unfold aN gNil;split
 .rename_i δ1 β1 e;exact e.symm
 .rfl
theorem aq(k:Gw (aN g gNil) δ β Q):Gw g δ β Q:=by rw[Je]at k;exact k
theorem aY(q:Q (.nx δ) β):Gw gNil δ β Q:=⟨_,_,rfl,q⟩
theorem dz(e:g δ β=on (.nx δ1,β1))(k:Gw h δ1 β1 Q):Gw (aN g h) δ β Q:=by
 obtain⟨o,j,l,q⟩:=k;exact⟨o,j,by unfold aN;rw[e];exact l,q⟩
theorem ji(k:Gw (aN a (aN b h)) δ β Q):Gw (aN (aN a b) h) δ β Q:=by
 obtain⟨o,j,l,q⟩:=k;refine⟨o,j,?_,q⟩;rw[<-l];unfold aN;split<;>rename_i e<;>(split at e<;>simp_all)
theorem bo(k:Gw h δ β Q):Gw (aN gNil h) δ β Q:=dz rfl k
theorem wo(k:Gw g (fz i δ) β Q):Gw (fzG i g) δ β Q:=k
theorem aB(e:f (vw δ) β=on (.ok d,β1))(k:Gw h (δ.set i (on (.sh d))) β1 Q):Gw (aN (lD i f) h) δ β Q:=dz (by unfold lD;rw[e]) k
theorem J8(e:f (jn δ) β=on (.ok d,β1))(k:Gw h (δ.set i (on (.sh d))) β1 Q)(j:noL d=Oq:=by rfl):Gw (aN (rY i f) h) δ β Q:=dz (by unfold rY;simp only[e,j,PN]) k
theorem ou(e:f (jn δ) β=on (.ok d,β1))(k:Gw h δ β1 Q):Gw (aN (pJ f) h) δ β Q:=dz (by unfold pJ;rw[e]) k
theorem gz(e:t (jn δ) β=on (.ok c,β1))(k:Gw (aN (if c=Oq then g1 else g2) h) δ β1 Q):Gw (aN (y1 t g1 g2) h) δ β Q:=by
 obtain⟨o,j,l,q⟩:=k;refine⟨o,j,?_,q⟩;rw[<-l];unfold aN y1;rw[e];cases c<;>rfl
theorem M8(e:t (jn δ) β=on (.ok Oq,β1))(k:Gw (aN g1 h) δ β1 Q):Gw (aN (y1 t g1 g2) h) δ β Q:=gz e k
theorem dA(e:t (jn δ) β=on (.ok Ov,β1))(k:Gw (aN g2 h) δ β1 Q):Gw (aN (y1 t g1 g2) h) δ β Q:=gz e k
theorem aT(e:f (jn δ) β=on (.ok d,β1))(q:Q (.rt d) β1):Gw (aN (jd f) h) δ β Q:=⟨_,_,by unfold aN jd;rw[e],q⟩
theorem II(e:fg (vw δ) β=on (.ok ba,β1))(q:Q (.rg ba) β1):Gw (aN (lE fg) h) δ β Q:=⟨_,_,by unfold aN lE;rw[e],q⟩
theorem GP{ba:List (List D)}(e:fg (vw δ) β=on (.ok ba,β1))(hn:ba.all noLs=Oq)(k:Gw h (δ.set i (on (.grd ba))) β1 Q):Gw (aN (uv i fg) h) δ β Q:=dz (by unfold uv;simp only[e,hn,PN]) k
theorem GO{ba:List (List D)}(e:fv (jn δ) β=on (.ok d,β1))(j:fa (jn δ) β1=on (.ok (.int ka),β2))(l:fb (jn δ) β2=on (.ok (.int kb),β3))(m:δ.getD i Om=on (.grd ba))
  (n:qk ba.length ka=on ja) (o:ba[ja]?=on ds) (p:qk ds.length kb=on jb) (hn:noL d=Oq) (k:Gw h (δ.set i (on (.grd (ba.set ja (ds.set jb d))))) β3 Q):Gw (aN (pI i fa fb fv) h) δ β Q:=
 dz (by unfold pI;simp only[e,j,l,m,n,o,p,hn,PN]) k
theorem lZ(e:fl (vw δ) β=on (.ok ds,β1))(j:ds.length<=OV)(k:Gw h (δ.set i (on (.own ds))) β1 Q):Gw (aN (xt i fl) h) δ β Q:=dz (by unfold xt;simp only[e,j,PN]) k
theorem jH{cs:List D}(j:δ.getD i Om=on (.own cs))(e:fl (vw δ) β=on (.ok [d],β1))(l:cs.length<OV)(k:Gw h (δ.set i (on (.own (cs++[d])))) β1 Q):Gw (aN (xx i fl) h) δ β Q:=
 dz (by unfold xx;simp only[j,e,l,PN]) k
theorem GQ(e:f (vw δ) β=on (.ok d,β1))(j:tg d δ=on δ1)(k:Gw h δ1 β1 Q):Gw (aN (xw f tg) h) δ β Q:=dz (by unfold xw;simp only[e,j,QO]) k
def Tn(I:Ds->Bg->Prop)(h:G)(Q:sA->Bg->Prop):sA->Bg->Prop:=λo β=>match o with
 | .nx δ=>I δ β
 | .ct δ=>I δ β
 | .bk δ=>Gw h δ β Q
 |o=>Q o β
theorem bu(e:it δ β=on (.ok ds,β1))(u:Nat->Ds->Bg->Prop)(N:u 0 δ β1)(step:∀i d δ β,ds[i]?=on d->u i δ β->∃δ1,tg d δ=on δ1/\Gw g δ1 β (Tn (u (i+1)) h Q))(k:∀δ β,u ds.length δ β->Gw h δ β Q):
  Gw (aN (mJ it tg g) h) δ β Q:=by
 have gen:∀(es:List D) (j:Nat) (δ:Ds) (β:Bg),es=ds.drop j->j+es.length=ds.length->u j δ β->Gw (aN (o0 tg g es) h) δ β Q:=by
  intro es
  induction es with
  |nil=>
   intro j δ β _ B F;simp at B;exact dz (g:=o0 tg g []) rfl (k δ β (B▸F))
  |cons d es ih=>
   intro j δ β L B F;have O:ds[j]?=on d:=by
    have:=Py (λl=>l[0]?) L;simpa[TR]using this.symm
   obtain⟨δ1,v,o,β2,A,q⟩:=step j d δ β O F;have H:es=ds.drop (j+1):=by
    have:=Py List.tail L;simpa[List.tail_drop]using this
   have go:∀m,u (j+1) m β2->Gw (aN (o0 tg g es) h) m β2 Q:=λm I=>ih (j+1) m β2 H (by simp at B;omega) I;have n:∀{r:G} {m:Ds},Gw (aN r h) m β2 Q->o0 tg g (d::es) δ β=r m β2->Gw (aN (o0 tg g (d::es)) h) δ β Q:=λ{r m} ⟨T,p,J,U⟩ W=>⟨T,p,by rw[<-J];unfold aN;rw[W],U⟩;cases o with
   |nx m=>exact n (r:=o0 tg g es) (go m q) (by rw[o0];simp only[v,A])
   |ct m=>exact n (r:=o0 tg g es) (go m q) (by rw[o0];simp only[v,A])
   |bk m=>exact n (r:=gNil) (bo q) (by rw[o0];simp only[v,A];rfl)
   |rt d'=>exact⟨_,β2,by unfold aN;rw[o0];simp only[v,A],q⟩
   |rg d'=>exact⟨_,β2,by unfold aN;rw[o0];simp only[v,A],q⟩
   |ex C m=>exact⟨_,β2,by unfold aN;rw[o0];simp only[v,A],q⟩
 obtain⟨o,p,J,q⟩:=gen ds 0 δ β1 (by simp) (by simp) N;refine⟨o,p,?_,q⟩;rw[<-J];unfold aN mJ;rw[e]
theorem pV{S:Except Ou D->Bg->Prop}(k:Gw g (m_ n ds) β (λo j=>match o with| .rt d=>S (.ok d) j| .nx _=>S (.ok .non) j| .ex C _=>S (.error C) j|_=>False)):∃r j,fP n g ds β=on (r,j)/\S r j:=by
 obtain⟨o,j,e,q⟩:=k;cases o with
 |rt d=>exact⟨.ok d,j,by unfold fP;rw[e],q⟩
 |nx δ=>exact⟨.ok .non,j,by unfold fP;rw[e],q⟩
 |ex C δ=>exact⟨.error C,j,by unfold fP;rw[e],q⟩
 |_=>exact q.elim
theorem J1{S:List (List D)->Bg->Prop}(k:Gw g (m_ n ds) β (λo j=>match o with| .rg d=>S d j|_=>False)):∃r j,mS n g ds β=on (.ok r,j)/\S r j:=by
 obtain⟨o,j,e,q⟩:=k;cases o with
 |rg d=>exact⟨d,j,by unfold mS;rw[e],q⟩
 |_=>exact q.elim
theorem aO(k:Gw g (m_ n ds) β (λo j=>j=β/\(match o with| .rt d=>r= .ok d| .nx _=>r= .ok .non| .ex C _=>r= .error C|_=>False))):fP n g ds β=on (r,β):=by
 obtain⟨l,j,e,q1,q2⟩:=pV (S:=λl j=>j=β/\r=l) (n:=n) (ds:=ds) (β:=β) (k.mono λo j h=>by
  cases o<;>first|exact h|exact h.2)
 subst q1 q2;exact e
theorem J2(k:Gw g (m_ n ds) β (λo j=>j=β/\(match o with| .rg d=>r=d|_=>False))):mS n g ds β=on (.ok r,β):=by
 obtain⟨l,j,e,q1,q2⟩:=J1 (S:=λl j=>j=β/\r=l) (n:=n) (ds:=ds) (β:=β) (k.mono λo j h=>by
  cases o<;>first|exact h|exact h.2)
 subst q1 q2;exact e
theorem ak{δ:Dn}(e:fl δ β=on (.ok as,β1))(j:m as β1=on r):eX m fl δ β=on r:=by unfold eX M.bind;rw[e];exact j
theorem IF{δ:Dn}(e:fl δ β=on (.ok as,β1))(j:m as β1=on r):uC m fl δ β=on r:=by unfold uC M.bind;rw[e];exact j
theorem d_{δ:Dn}(e:fa δ β=on (.ok x,β1))(j:fb δ β1=on (.ok y,β2))(k:op x y=on z):f2 op fa fb δ β=on (.ok z,β2):=by unfold f2 M.bind;rw[e];simp only[j,M.ofO,k]
theorem x_1{δ:Dn}(e:fa δ β=on (.ok x,β1))(j:op x=on z):f1 op fa δ β=on (.ok z,β1):=by unfold f1 M.bind;rw[e];simp only[M.ofO,j]
theorem ae{δ:Dn}(e:fl δ β=on (.ok as,β1))(j:op as=on z):aP op fl δ β=on (.ok z,β1):=by unfold aP M.bind;rw[e];simp only[M.ofO,j]
theorem aa{δ:Dn}(e:fa δ β=on (.ok x,β1))(j:fl δ β1=on (.ok as,β2)):ag fa fl δ β=on (.ok (x::as),β2):=by unfold ag M.bind;rw[e];simp only[j,M.ret]
theorem bz{δ:Dn}(e:fl δ β=on (.ok as,β1))(j:op as=on ds):cZ op fl δ β=on (.ok ds,β1):=by unfold cZ M.bind;rw[e];simp only[j,M.ofO]
theorem cI{δ:Dn}(e:fa δ β=on (.ok x,β1))(j:cY x=on ds):di fa δ β=on (.ok ds,β1):=by unfold di M.bind;rw[e];simp only[j,M.ofO]
theorem h8{δ:Dn}(e:fa δ β=on (.ok (.bl c),β1)):fB fa δ β=on (.ok c,β1):=by unfold fB M.bind;rw[e];rfl
theorem lY{δ:Dn}(e:fa δ β=on (.ok x,β1))(j:AX x=on c):uB fa δ β=on (.ok c,β1):=by unfold uB M.bind;rw[e];simp only[M.ofO,j]
theorem oo{δ:Dn}(e:t δ β=on (.ok c,β1)):xC t δ β=on (.ok (!c),β1):=by unfold xC M.bind;rw[e];rfl
theorem bB(ok:β.ok)(k:0<lot)(l:lot<1073741824):∃v e,jZ [.bag,.int lot] β=on (.ok (.int v),e)/\0<=v/\v<lot/\e.ok:=by
 obtain⟨m,a1,j⟩:=vj ok k;exact⟨_,_,CN ok k l,m,a1,j⟩
theorem lA{n:Nat}{k:Int}(e:0<=k)(j:k<n):qk n k=on k.toNat:=by unfold qk;rw[OE e,OE j]
theorem zD{k:Int}{d:D}(e:0<=k)(h:xs[k.toNat]?=on d):ko (.lst xs) (.int k)=on d:=by
 have j:k.toNat<xs.length:=(OI.mp h).1;show ot xs k=on d;unfold ot;rw[lA e (by omega)];exact h
theorem uj{x y:D}:ko (.tup [x,y]) (.int 0)=on x:=rfl
theorem LA{x y:D}:ko (.tup [x,y]) (.int 1)=on y:=rfl
end
section
variable{β β1 β2:Bg}{f g h i:FD}{t u:Dn->M Bool}{δ:Dn}{c e:Bool}{x y z w:Int}{d:D}
theorem M4(a:t δ β=on (.ok Oq,β1)):lH t u δ β=on (.ok Oq,β1):=by
 unfold lH M.bind;rw[a];rfl
theorem oj(a:t δ β=on (.ok Ov,β1))(b:u δ β1=on (.ok e,β2)):lH t u δ β=on (.ok e,β2):=by
 unfold lH M.bind;rw[a];simp[b]
theorem xS(a:t δ β=on (.ok Ov,β1)):mQ t u δ β=on (.ok Ov,β1):=by
 unfold mQ M.bind;rw[a];rfl
theorem sC(a:t δ β=on (.ok Oq,β1))(b:u δ β1=on (.ok e,β2)):mQ t u δ β=on (.ok e,β2):=by
 unfold mQ M.bind;rw[a];simp[b]
theorem uW(a:f δ β=on (.ok (.bl Oq),β1))(b:g δ β1=on (.ok d,β2)):xD f g δ β=on (.ok d,β2):=by
 unfold xD M.bind;rw[a];simp[asB,M.ofO,b]
theorem le_int:U_ (.int x) (.int y)=on (.bl (decide (x<=y))):=rfl
theorem lt_int:YO (.int x) (.int y)=on (.bl (decide (x<y))):=rfl
theorem gt_int:gtD (.int x) (.int y)=on (.bl (decide (y<x))):=rfl
theorem ge_int:Z2 (.int x) (.int y)=on (.bl (decide (y<=x))):=rfl
theorem uX(a:f δ β=on (.ok (.int x),β))(b:g δ β=on (.ok (.int y),β))(j:h δ β=on (.ok (.int z),β)):pL U_ U_ f g h δ β=on (.ok (.bl (decide (x<=y)&&decide (y<=z))),β):=by
 unfold pL M.bind;rw[a];simp only[b,le_int,M.ofO,asB];by_cases q:x<=y
 .simp only[q,decide_true,PN,j,le_int,S8]
 .simp only[q,decide_false,OW,PF,M.ret,TL]
theorem AO(a:f δ β=on (.ok (.int x),β))(b:g δ β=on (.ok (.int y),β))(j:h δ β=on (.ok (.int z),β))(k:i δ β=on (.ok (.int w),β)):mP U_ U_ U_ f g h i δ β=on (.ok (.bl (decide (x<=y)&&decide (y<=z)&&decide (z<=w))),β):=by
 unfold mP Iy M.bind;rw[a];simp only[b,le_int,M.ofO,asB];by_cases q:x<=y
 .simp only[q,decide_true,PN,j,le_int,S8]
  by_cases q2:y<=z
  .simp only[q2,decide_true,PN,k,le_int,S8]
  .simp only[q2,decide_false,OW,PF,M.ret,TL]
 .simp only[q,decide_false,OW,PF,M.ret,TL]
theorem GN{g h:G}{δ:Ds}{β:Bg}(P:Ds->Bg->Prop)(a:Gw g δ β (λo β1=>∃δ1,o= .nx δ1/\P δ1 β1))(b:∀δ1 β1,P δ1 β1->Gw h δ1 β1 Q):Gw (aN g h) δ β Q:=by
 obtain⟨o,β1,e,δ1,rfl,p⟩:=a;exact dz e (b δ1 β1 p)
theorem hZ{δ:Ds}{β:Bg}{P:Ds->Bg->Prop}(p:P δ β):Gw gNil δ β (λo β1=>∃δ1,o= .nx δ1/\P δ1 β1):=aY ⟨_,rfl,p⟩
noncomputable abbrev gI(ba:LI):List (List D):=ba.map λr=>r.map D.int
noncomputable abbrev lG(ba:List (List D)):D:= .lst (ba.map D.lst)
abbrev f0(ba:LI):D:=lG (gI ba)
noncomputable def pD(p:Int×Int):D:= .tup [.int p.1,.int p.2]
abbrev gP(b:LP):List (List D):=b.map λr=>r.map pD
abbrev c9(b:LP):D:=lG (gP b)
def j_{α:Type}(r c:Nat)(m:List (List α)):Prop:=m.length=r/\∀row∈m,row.length=c
noncomputable def tot(ba:LI):Int:=(ba.map Qt).sum
theorem bp(h:n<=1000):n<=OV:=OS h (by decide)
theorem iQ:∀r:List Int,noLs (r.map D.int)=Oq
 |[]=>rfl
 |x::r=>by
  show(noL (.int x)&&noLs (r.map D.int))=Oq;rw[iQ r];rfl
theorem o6:∀r:List (Int×Int),noLs (r.map pD)=Oq
 |[]=>rfl
 |x::r=>by
  show(noL (pD x)&&noLs (r.map pD))=Oq;rw[o6 r];rfl
theorem Lj(b:LP):(gP b).all noLs=Oq:=by
 rw[Sf];intro x a;obtain⟨r,_,rfl⟩:=OF.mp a;exact o6 r
theorem j_.map{α a:Type}{f:α->a}{r c:Nat}{m:List (List α)}(h:j_ r c m):j_ r c (m.map λx=>x.map f):=⟨by rw[Ol,h.1],λrow b=>by
 obtain⟨x,j,rfl⟩:=OF.mp b;rw[Ol];exact h.2 x j⟩
theorem j_.set{α:Type}{r c i j:Nat}{m:List (List α)}{row:List α}{v:α}(h:j_ r c m)(b:m[i]?=on row):j_ r c (m.set i (row.set j v)):=⟨by rw[Qc,h.1],λx a=>by
 rcases QS a with a|rfl
 .exact h.2 x a
 .rw[Qc];exact h.2 row (OT b)⟩
theorem j_.at{α:Type}{r c i:Nat}{m:List (List α)}(h:j_ r c m)(b:i<r):∃row,m[i]?=on row/\row.length=c:=by
 have a:i<m.length:=by rw[h.1];exact b
 exact⟨m[i],Os a,h.2 _ (Pr a)⟩
theorem IB{α:Type}{l:List α}{i:Nat}(h:i<l.length):∃x,l[i]?=on x:=⟨l[i],Os h⟩
theorem jk:∀{xs:List Int} {j:Nat} {x v:Int},xs[j]?=on x->(xs.set j v).sum=xs.sum-x+v
 |[],j,x,v,h=>by simp at h
 |y::xs,0,x,v,h=>by
  simp at h;subst h;simp only[List.set_cons_zero,O6];omega
 |y::xs,j+1,x,v,h=>by
  have h':xs[j]?=on x:=by simpa using h
  simp only[List.set_cons_succ,O6,jk h'];omega
theorem IR{ba:LI}{i j:Nat}{row:List Int}{x v:Int}(a:ba[i]?=on row)(b:row[j]?=on x):tot (ba.set i (row.set j v))=tot ba-x+v:=by
 unfold tot;rw[Tz,jk (x:=row.sum) (by rw[Ox,a];rfl),jk b];omega
theorem Lk{ba:LI}{i j:Nat}{row:List Int}(h:∀r∈ba,∀x∈r,0<=x)(k:ba[i]?=on row)(l:0<=v):∀r∈ba.set i (row.set j v),∀x∈r,0<=x:=λr a x b=>by
 rcases QS a with a|rfl
 .exact h r a x b
 .rcases QS b with b|rfl
  .exact h row (OT k) x b
  .exact l
theorem kI:∀{xs:List Int},(∀x∈xs,0<=x)->0<=xs.sum
 |[],_=>by simp
 |y::xs,h=>by
  have:=kI (xs:=xs) λx a=>h x (Ot _ a);have:=h y Oz;simp only[O6];omega
theorem uh:∀{xs:List Int},(∀x∈xs,0<=x)->∀x∈xs,x<=xs.sum
 |[],_,x,hx=>by cases hx
 |y::xs,h,x,hx=>by
  have:=kI (xs:=xs) λx hx=>h x (Ot _ hx);have:=h y Oz;rcases ON.mp hx with rfl|hx
  .simp only[O6];omega
  .have:=uh (xs:=xs) (λx hx=>h x (Ot _ hx)) x hx
   simp only[O6];omega
theorem Lu(h:∀r∈ba,∀x∈r,0<=x):∀r∈ba,∀x∈r,x<=tot ba:=λr a x b=>by
 have k:=uh (h r a) x b;have l:=uh (xs:=ba.map Qt) (λs hs=>by
  obtain⟨q,j,rfl⟩:=OF.mp hs;exact kI (h q j)) r.sum (OF.mpr ⟨r,a,rfl⟩)
 unfold tot;omega
structure YA (r c:Nat) (ba:LI):Prop where
 shp:j_ r c ba
 nn:∀row∈ba,∀x∈row,0<=x
 tot:tot ba<=40
 r0:1<=r
 r1:r<=4
 c0:1<=c
 c1:c<=6
theorem d9(ns:List Int):fm [.lst (ns.map D.int)]=on (.int ns.sum):=by
 show((dY (ns.map D.int)).map λl=>D.int l.sum)=_;have:∀ns:List Int,dY (ns.map D.int)=on ns:=λns=>by
  induction ns with
  |nil=>rfl
  |cons n ns ih=>simp[dY,ih]
 rw[this];rfl
theorem E_{n:Int}(a:0<=n)(h:n<=10^9):fU [.int n]=on (aZ 0 n.toNat):=by
 have q:(decide (-(2^62)<=n)&&decide (n<2^62))=Oq:=by
  simp only[Pc,Pq];omega
 show(if(decide (-(2^62)<=n)&&decide (n<2^62))=Oq then on (aZ 0 n.toNat)else Om)=_;rw[OE q]
theorem HG{d:D}(h:(aZ 0 n)[k]?=on d):k<n/\d= .int (k:Int):=by
 unfold aZ at h;have a:k<n:=by
  have:=(OI.mp h).1;simpa using this
 rw[Ox,Pz a]at h;exact⟨a,by cases h;simp⟩
theorem tz(n:Nat):(aZ 0 n).length=n:=by simp[aZ]
theorem bh{α:Type}{f:FD}{δ:Dn}{β:Bg}(xs:List α)(u v:α->D)(a:it δ β=on (.ok (xs.map u),β))
  (b:∀x∈xs,∃δ1,tg (u x) (lj nv c4 δ)=on δ1/\f δ1 β=on (.ok (v x),β)) (j:xs.length<=OV):ci nv c4 it tg (λ_=>M.ret Oq) (ln f) δ β=on (.ok (.lst (xs.map v)),β):=by
 refine qv a ?_ (by rw[Ol];exact j);have gen:∀xs:List α,(∀x∈xs,∃δ1,tg (u x) (lj nv c4 δ)=on δ1/\f δ1 β=on (.ok (v x),β))->nj tg (λ_=>M.ret Oq) (ln f) (xs.map u) (lj nv c4 δ) β=on (.ok (xs.map v),β):=by
  intro xs
  induction xs with
  |nil=>intro _;rfl
  |cons x xs ih=>
   intro h;obtain⟨δ1,k,l⟩:=h x Oz;have m:=ih λy n=>h y (Ot _ n);rw[OJ,nj];simp only[k,M.bind,M.ret,reduceIte,ln,l,m,OJ,Sg,Q6]
 exact gen xs b
theorem rf{α:Type}{f:FL}{δ:Dn}{β:Bg}(xs:List α)(u:α->D)(v:α->List D)(a:it δ β=on (.ok (xs.map u),β))
  (b:∀x∈xs,∃δ1,tg (u x) (lj nv c4 δ)=on δ1/\f δ1 β=on (.ok (v x),β)) (j:xs.length<=OV):iw nv c4 it tg (λ_=>M.ret Oq) (uM f) δ β=on (.ok (xs.map v),β):=by
 have gen:∀xs:List α,(∀x∈xs,∃δ1,tg (u x) (lj nv c4 δ)=on δ1/\f δ1 β=on (.ok (v x),β))->n6 tg (λ_=>M.ret Oq) (uM f) (xs.map u) (lj nv c4 δ) β=on (.ok (xs.map v),β):=by
  intro xs
  induction xs with
  |nil=>intro _;rfl
  |cons x xs ih=>
   intro h;obtain⟨δ1,k,l⟩:=h x Oz;have m:=ih λy n=>h y (Ot _ n);rw[OJ,n6];simp only[k,M.bind,M.ret,reduceIte,uM,l,m,OJ,Sg,Q6]
 unfold iw;simp only[a,gen xs b,Ol,j,PN]
theorem z0{α:Type}{f:FD}{δ:Dn}{β:Bg}(xs:List α)(u:α->D)(v:α->D)(a:it δ β=on (.ok (xs.map u),β))
  (b:∀x∈xs,∃δ1,tg (u x) (lj nv c4 δ)=on δ1/\f δ1 β=on (.ok (v x),β)) (j:xs.length<=OV):eS nv c4 it tg (λ_=>M.ret Oq) (ln f) δ β=on (.ok (xs.map v),β):=by
 have gen:∀xs:List α,(∀x∈xs,∃δ1,tg (u x) (lj nv c4 δ)=on δ1/\f δ1 β=on (.ok (v x),β))->nj tg (λ_=>M.ret Oq) (ln f) (xs.map u) (lj nv c4 δ) β=on (.ok (xs.map v),β):=by
  intro xs
  induction xs with
  |nil=>intro _;rfl
  |cons x xs ih=>
   intro h;obtain⟨δ1,k,l⟩:=h x Oz;have m:=ih λy n=>h y (Ot _ n);rw[OJ,nj];simp only[k,M.bind,M.ret,reduceIte,ln,l,m,OJ,Sg,Q6]
 unfold eS;simp only[a,gen xs b,Ol,j,PN]
theorem KP{ds:List D}{c:Nat}(a:ds.length<=OV)(b:ds.length*c<=OV)(j:c<=1000000):tE ds (.int (c:Int))=on (O0 c ds).flatten:=by
 have q:(decide (-(2^63)<=(c:Int))&&decide ((c:Int)<2^63)&&decide (ds.length<=OV)&&decide (ds.length*(c:Int).toNat<=OV))=Oq:=by
  simp only[Pc,Pq];exact⟨⟨⟨by omega,by omega⟩,a⟩,by rw[P3];exact b⟩
 unfold tE;simp only[q,PN];rw[P3]
theorem uy{α:Type}(x:α):∀c:Nat,(O0 c [x]).flatten=O0 c x
 |0=>rfl
 |c+1=>by rw[Qv,Rv,uy x c];rfl
theorem NI{f:FD}{g:FD}{x:D}{c:Nat}{δ:Dn}{β:Bg}(b:f δ β=on (.ok x,β))(j:g δ β=on (.ok (.int (c:Int)),β))(k:c<=1000):CC (ag f aF) g δ β=on (.ok (O0 c x),β):=by
 have a:[x].length<=OV:=by rw[PL];decide
 have l:[x].length*c<=OV:=by rw[PL,Nat.one_mul];exact bp k
 have r:=KP (ds:=[x]) (c:=c) a l (by omega);rw[uy]at r;have s:YD [x]=on [x]:=by
  unfold YD;rw[OE a]
 have m:ag f aF δ β=on (.ok [x],β):=aa b rfl;unfold CC;rw[M.bind_ok m,s,M.bind_some,M.bind_ok j,r];rfl
theorem AD(bs:List Bool):dM (bs.map D.bl)=on bs:=by
 induction bs with
 |nil=>rfl
 |cons b bs ih=>simp[dM,ih]
theorem any_map{α:Type}(xs:List α)(p:α->Bool):xL [.lst (xs.map λx=>D.bl (p x))]=on (.bl (xs.any p)):=by
 show(dM _).map _=_;rw[show(xs.map λx=>D.bl (p x))=(xs.map p).map D.bl by rw[OA];rfl,AD];simp only[QO,WL];rfl
theorem iR{α:Type}(r:Nat)(x:α):(OB r).map (λ_=>x)=O0 r x:=by rw[List.map_const',OZ]
theorem cE{xs:List D}(h:xs.length=r):e8 [.lst xs]=on (.int (r:Int)):=by subst h;rfl
theorem zu{ba:List (List D)}(h:ba.length=r):e8 [lG ba]=on (.int (r:Int)):=cE (by rw[Ol,h])
theorem rS{ba:List (List D)}{k:Nat}{row:List D}(h:ba[k]?=on row):ko (lG ba) (.int (k:Int))=on (.lst row):=zD (by omega) (by rw[P3,Ox,h];rfl)
theorem bT{xs:List D}{k:Nat}{d:D}(h:xs[k]?=on d):ko (.lst xs) (.int (k:Int))=on d:=zD (by omega) (by rw[P3];exact h)
theorem eF{x y:D}:fG [x,y]=on (.tup [x,y]):=by
 unfold fG;rw[OE (show[x,y].length<=OV by rw[OR,PL];decide)]
theorem CP:jX []=on (.lst []):=by
 unfold jX;rw[OE (show([]:List D).length<=OV by rw[VR];decide)]
theorem j3{x:D}:jX [x]=on (.lst [x]):=by
 unfold jX;rw[OE (show[x].length<=OV by rw[PL];decide)]
theorem t8{x y:Int}:t0 [.int x,.int y]=on (.int (RP x y)):=by
 unfold t0;simp only;congr 2;split<;>omega
theorem CJ{x y:Int}:wX [.int x,.int y]=on (.int (WQ x y)):=by
 unfold wX;simp only;congr 2;split<;>omega
theorem eq_int{x y:Int}:nX (.int x) (.int y)=on (.bl (decide (x=y))):=by rw[Oe]
theorem ne_int{x y:Int}:jc (.int x) (.int y)=on (.bl (!decide (x=y))):=by rw[Od]
theorem mR{i:Nat}{d:D}(h:(cj 0 xs)[i]?=on d):∃x,xs[i]?=on x/\d= .tup [.int (i:Int),x]:=by
 obtain⟨x,b,a⟩:=lI h;rw[QN]at a;exact⟨x,b,a⟩
theorem bx{α a:Type}{f:α->a}{xs:List α}{i:Nat}{d:a}(h:(xs.map f)[i]?=on d):∃x,xs[i]?=on x/\d=f x:=by
 rw[Ox]at h;cases q:xs[i]? with
 |none=>rw[q]at h;cases h
 |some x=>rw[q]at h;exact⟨x,rfl,by cases h;rfl⟩
noncomputable abbrev mK(r c:Nat):LP:=O0 r (O0 c (0,40))
theorem zS(r c:Nat):j_ r c (mK r c):=⟨by simp,λrow h=>by rw[(QW.mp h).2];simp⟩
noncomputable def y2{α:Type}(m:List (List α))(i j:Nat):Option α:=(m[i]?).bind λrow=>row[j]?
theorem N_{α:Type}{m:List (List α)}{i j k l:Nat}{row:List α}{v x:α}(a:m[i]?=on row)(h:y2 (m.set i (row.set j v)) k l=on x):(k=i/\l=j/\x=v)\/(y2 m k l=on x/\¬(k=i/\l=j)):=by
 unfold y2 at h⊢;rw[Qm]at h;by_cases q:i=k
 .subst q
  rw[OE rfl]at h;split at h
  .simp only[Rc]at h
   rw[Qm]at h;by_cases w:j=l
   .subst w
    rw[OE rfl]at h;split at h
    .exact .inl ⟨rfl,rfl,(Pb h).symm⟩
    .cases h
   .rw[OC w]at h
    exact .inr ⟨by rw[a];exact h,λz=>w z.2.symm⟩
  .cases h
 .rw[OC q]at h
  exact .inr ⟨h,λz=>q z.1.symm⟩
theorem wf{α:Type}{m:List (List α)}{i j:Nat}{x:α}(h:y2 m i j=on x):∃row∈m,x∈row:=by
 unfold y2 at h;cases q:m[i]? with
 |none=>rw[q]at h;cases h
 |some row=>rw[q]at h;exact⟨row,OT q,OT h⟩
theorem lS{α:Type}{m:List (List α)}{i j:Nat}{row:List α}{x:α}(a:m[i]?=on row)(b:row[j]?=on x):y2 m i j=on x:=by unfold y2;rw[a];exact b
structure o1 (p:Int×Int):Prop where
 l:0<=p.1
 m:p.1<=p.2
 h:p.2<=40
def Kp(ba:LI)(b:LP):Prop:=∀i j x p,y2 ba i j=on x->y2 b i j=on p->p.1<=x/\x<=p.2
structure t7 (r c:Nat) (b:LP):Prop where
 shp:j_ r c b
 ok:∀row∈b,∀p∈row,o1 p
theorem t7.set{r c i j:Nat}{b:LP}{row:List (Int×Int)}(h:t7 r c b)(l:b[i]?=on row)(m:o1 p):t7 r c (b.set i (row.set j p)):=⟨h.shp.set l,λq k x a=>by
 rcases QS k with k|rfl
 .exact h.ok q k x a
 .rcases QS a with a|rfl
  .exact h.ok row (OT l) x a
  .exact m⟩
theorem t7.free(r c:Nat):t7 r c (mK r c):=⟨zS r c,λrow b p a=>by
 rw[(QW.mp b).2]at a;rw[(QW.mp a).2];exact⟨by decide,by decide,by decide⟩⟩
theorem YA.le40{r c:Nat}(t:YA r c ba):∀row∈ba,∀x∈row,0<=x/\x<=40:=λrow a x b=>⟨t.nn row a x b,by
 have:=Lu t.nn row a x b;have:=t.tot;omega⟩
theorem Kp.free{r c:Nat}(t:YA r c ba):Kp ba (mK r c):=λi j x p k l=>by
 obtain⟨row,m,b⟩:=wf k;obtain⟨q,n,a⟩:=wf l;rw[(QW.mp n).2]at a;rw[(QW.mp a).2];exact t.le40 row m x b
theorem Kp.set{b:LP}{i j:Nat}{row:List (Int×Int)}{p:Int×Int}{x:Int}(h:Kp ba b)(n:b[i]?=on row)(o:y2 ba i j=on x)(r:p.1<=x)(v:x<=p.2):Kp ba (b.set i (row.set j p)):=λk l y q a m=>by
 rcases N_ n m with⟨rfl,rfl,rfl⟩|⟨m,_⟩
 .rw[o]at a
  cases a;exact⟨r,v⟩
 .exact h k l y q a m
theorem JY{α:Type}{δ:Dn}{β:Bg}(xs:List α)(u:α->D)(o:α->List D)(a:it δ β=on (.ok (xs.map u),β))
  (j:∀x∈xs,∃δ1,tg (u x) (lj nv c4 δ)=on δ1/\b δ1 β=on (.ok (o x),β)) (k:(xs.flatMap o).length<=OV):ci nv c4 it tg (λ_=>M.ret Oq) b δ β=on (.ok (.lst (xs.flatMap o)),β):=by
 refine qv a ?_ k;have gen:∀xs:List α,(∀x∈xs,∃δ1,tg (u x) (lj nv c4 δ)=on δ1/\b δ1 β=on (.ok (o x),β))->nj tg (λ_=>M.ret Oq) b (xs.map u) (lj nv c4 δ) β=on (.ok (xs.flatMap o),β):=by
  intro xs
  induction xs with
  |nil=>intro _;rfl
  |cons x xs ih=>
   intro h;obtain⟨δ1,l,m⟩:=h x Oz;have n:=ih λy p=>h y (Ot _ p);rw[OJ,nj];simp only[l,M.bind,M.ret,reduceIte,m,n,PM]
 exact gen xs j
theorem y7{α:Type}{f:FD}{δ:Dn}{β:Bg}(xs:List α)(u v:α->D)(a:it δ β=on (.ok (xs.map u),β))
  (b:∀x∈xs,∃δ1,tg (u x) δ=on δ1/\f δ1 β=on (.ok (v x),β)):YG it tg (λ_=>M.ret Oq) (ln f) δ β=on (.ok (xs.map v),β):=by
 have gen:∀xs:List α,(∀x∈xs,∃δ1,tg (u x) δ=on δ1/\f δ1 β=on (.ok (v x),β))->nj tg (λ_=>M.ret Oq) (ln f) (xs.map u) δ β=on (.ok (xs.map v),β):=by
  intro xs
  induction xs with
  |nil=>intro _;rfl
  |cons x xs ih=>
   intro h;obtain⟨δ1,j,k⟩:=h x Oz;have l:=ih λy m=>h y (Ot _ m);rw[OJ,nj];simp only[j,M.bind,M.ret,reduceIte,ln,k,l,OJ,Sg,Q6]
 unfold YG;rw[M.bind_ok a];exact gen xs b
theorem hV{α a:Type}(u:α->D)(v:a->D):∀(xs:List α) (ys:List a),db (xs.map u) (ys.map v)=(xs.zip ys).map λp=>D.tup [u p.1,v p.2]
 |[],ys=>by simp[db]
 |x::xs,[]=>by simp[db]
 |x::xs,y::ys=>by simp[db,hV u v xs ys]
theorem DT{xs:List D}(h:0<xs.length):iz xs Om (on (-1))=xs.dropLast:=by
 unfold iz HT.sIx;simp;rw[WS];congr 1;omega
theorem kj{xs:List D}{k:Nat}:iz xs (on (k:Int)) Om=xs.drop k:=by
 unfold iz;rw[HT.sIx_none,HT.sIx_nat];by_cases h:k<=xs.length
 .rw[show RP k xs.length=k by omega]
  rw[Rb (by rw[Si];omega)]
 .rw[RG (by omega),RG (by omega)]
  simp
theorem iE{f g:FD}{δ:Dn}{β:Bg}(a:f δ β=on (.ok (.lst xs),β))(b:g δ β=on (.ok (.int k),β)):Z8 f (on g) Om δ β=on (.ok (.lst (iz xs (on k) Om)),β):=by
 unfold Z8 kh;simp only[M.bind,a,b,M.ret,M.ofO,uP,slD]
theorem mV{xs ys:List D}(h:xs.length+ys.length<=1000):jf (.lst xs) (.lst ys)=on (.lst (xs++ys)):=by
 unfold jf;simp only;rw[OE (bp h)]
def jD:List D->List Oy->Prop
 |[],[]=>True
 | .int i::ds,.int j _::vs=>i=j/\jD ds vs
 | .str x::ds,.str y _::vs=>x=y/\jD ds vs
 | .bl x::ds,.bool y::vs=>x=y/\jD ds vs
 | .non::ds,.none::vs=>jD ds vs
 |_,_=>False
theorem gq{K:OX}:∀{ds:List D} {vs:List Oy},jD ds vs->∃xs,au xs vs/\∀F H,bb K F H ds xs
 |[],[],_=>⟨[],.nil,λ_ _=>bb.nil⟩
 | .int i::ds,.int j t::vs,h=>by
  obtain⟨e,h⟩:=h;subst e;obtain⟨xs,a,b⟩:=gq (K:=K) h;exact⟨.int i::xs,.cons ⟨t,rfl⟩ a,λF H=>bb.cons rfl (b F H)⟩
 | .str i::ds,.str j t::vs,h=>by
  obtain⟨e,h⟩:=h;subst e;obtain⟨xs,a,b⟩:=gq (K:=K) h;exact⟨.str i::xs,.cons ⟨t,rfl⟩ a,λF H=>bb.cons rfl (b F H)⟩
 | .bl i::ds,.bool j::vs,h=>by
  obtain⟨e,h⟩:=h;subst e;obtain⟨xs,a,b⟩:=gq (K:=K) h;exact⟨.bl i::xs,.cons rfl a,λF H=>bb.cons rfl (b F H)⟩
 | .non::ds,.none::vs,h=>by
  obtain⟨xs,a,b⟩:=gq (K:=K) (ds:=ds) (vs:=vs) h;exact⟨.non::xs,.cons rfl a,λF H=>bb.cons rfl (b F H)⟩
def YV(K:OX)(d:D)(u:Oy):Prop:=∃v,aI v u/\∀F H,c_ K F H d v
theorem l3{K:OX}{i:Int}{t:Tok}:YV K (.int i) (.int i t):=⟨.int i,⟨t,rfl⟩,λ_ _=>rfl⟩
theorem IK{K:OX}{q3:Array Oy}(a:K.lookup p=on ⟨q1,q2,.seq q3 q4,q5⟩)(b:q1= .type "tuple")(j:q3.size<=OV)(k:jD ds q3.toList):YV K (.tup ds) (.ref p):=by
 obtain⟨xs,l,m⟩:=gq (K:=K) k;exact⟨.ref p,rfl,λF H=>⟨p,xs,rfl,.inr ⟨_,q3,q4,a,b,rfl,j,l⟩,m F H⟩⟩
theorem pQ{K:OX}{mg:Pn->Option Oy}{x:Pn}{d:D}{u:Oy}(h:mg x=on u)(v:YV K d u):mW K mg x d:=let ⟨w,h1,h2⟩:=v;⟨u,w,h,h1,h2⟩
theorem LY{K:OX}{ps:List Pn}{us:List Oy}(n:Nat)(l:ps.length=n+us.length)(b:∀(s:OD) (vs:List Oy),K.In s.heap->vs.length=n->Vp s fd ⟨vs,[]⟩ (ps.zip (vs++us)))(h:∃vs,au vs us/\∀F H,bb K F H dd vs):dG K fd ps dd:=
 let ⟨vs,h1,h2⟩:=h
 ⟨us,vs,λs a j k=>b s a j (by rw[OQ]at k;omega),h1,h2⟩
theorem LW{K:OX}:∃vs,au vs []/\∀F H,bb K F H [] vs:=⟨[],.nil,λ_ _=>bb.nil⟩
theorem JW{K:OX}{d:D}{u:Oy}(v:YV K d u)(h:∃vs,au vs us/\∀F H,bb K F H ds vs):∃vs,au vs (u::us)/\∀F H,bb K F H (d::ds) vs:=by
 obtain⟨w,a,b⟩:=v;obtain⟨vs,j,k⟩:=h;exact⟨w::vs,.cons a j,λF H=>bb.cons (b F H) (k F H)⟩
inductive Ic (K:OX):List (Sr D)->List (Sr Oy)->Prop where
 |nil:Ic K [] []
 |kw {j:Nat} {a:List (Sr D)} {c:List (Sr Oy)}:Ic K a c->Ic K (.kw j::a) (.kw j::c)
 |df {x:D} {y:Oy} {a:List (Sr D)} {c:List (Sr Oy)}:YV K x y->Ic K a c->Ic K (.df x::a) (.df y::c)
theorem Ic.mid{K:OX}:∀{a:List (Sr D)} {c:List (Sr Oy)},Ic K a c->∃b:List (Sr V),lw aI b c/\lw (λd v=>∀F H,c_ K F H d v) a b
 |_,_,.nil=>⟨[],.nil,.nil⟩
 |_,_,.kw (j:=j) h=>let ⟨b,h1,h2⟩:=Ic.mid h;⟨.kw j::b,.kw h1,.kw h2⟩
 |_,_,.df v h=>let ⟨b,h1,h2⟩:=Ic.mid h;let ⟨w,g1,g2⟩:=v;⟨.df w::b,.df g1 h1,.df g2 h2⟩
theorem NX{K:OX}{ps ks:List Pn}{src:List (Sr D)}{sv:List (Sr Oy)}(h:Ic K src sv)(j:ps.length=n+src.length)(k:0<ps.length)(b:∀(s:OD) (us a:List Oy),K.In s.heap->us.length=n->a.length=ks.length->Vp s fd ⟨us,ks.zip a⟩ (ps.zip (us++sv.map (Sr.pick .none a)))):C_ K fd ps ks n src:=
 ⟨let ⟨sx,h1,h2⟩:=h.mid;⟨sv,sx,h1,h2,b⟩,j,k⟩
variable{X:Cx}{E:St->XK}{K:OX}{st:Qg}
end
section
variable{h:G}{δ:Ds}{β β1 β2 β3:Bg}{Q:sA->Bg->Prop}{i:Nat}{fa fb fv:FD}{fl:FL}{d d0 d1:D}{ds:List D}{op:D->D->Option D}
theorem M6{δ:Dn}{β β1:Bg}(a:t δ β=on (.ok Oq,β1))(b:f δ β1=on r):YF t f g δ β=on r:=by
 unfold YF M.bind;rw[a];exact b
theorem M7{δ:Dn}{β β1:Bg}(a:t δ β=on (.ok Ov,β1))(b:g δ β1=on r):YF t f g δ β=on r:=by
 unfold YF M.bind;rw[a];exact b
theorem oi{d:D}{δ:Dn}{β:Bg}(e:δ.getD n Om=on d):ah n δ β=on (.ok d,β):=by unfold ah;rw[e];rfl
end
section
variable{β β1 β2:Bg}{f g h:FD}{δ:Dn}{x y z:Int}
theorem pb{K:OX}{f:Pn}:∀{ns:List Pn} {ds:List D} {xs:List V},bb K F H ds xs->(ns.zip ds).lookup f=on d->∃v,(ns.zip xs).lookup f=on v/\c_ K F H d v
 |[],ds,xs,h,e=>by simp at e
 |n::ns,[],xs,h,e=>by simp at e
 |n::ns,c::ds,xs,h,e=>by
  obtain⟨x,r,q,a,b⟩:=h;subst q;rw[QX,Ux]at e⊢;split at e
  .rename_i z
   cases e;exact⟨x,rfl,a⟩
  .rename_i z
   exact pb b e
theorem qV{α:Type}:∀{ns:List Pn} {xs:List α},m∉ns->(ns.zip xs).lookup m=Om
 |[],xs,_=>by simp
 |n::ns,[],_=>by simp
 |n::ns,x::xs,h=>by
  rw[QX,Ux];have a:m≠n:=λz=>h (by rw[z];exact Oz);have b:m∉ns:=λz=>h (Ot _ z);rw[show(m==n)=Ov by simpa using a];exact qV b
theorem dG.nil{K:OX}(b:aC K fd ps []):dG K fd ps []:=⟨[],[],b,.nil,λ_ _=>bb.nil⟩
end
section
variable{X:Cx}{E:St->XK}{o e:Expr}{es:List Expr}{pos p apos kpos:TK}{x m:Pn}{k n:Nat}{f C:Ou}{fd:O8}{ps ks:List Pn}{kws:List Vr}
noncomputable def xz(C:Ou)(f:Pn):D->Option D
 | .obj C' ns ds=>if C'=C then(ns.zip ds).lookup f else Om
 |_=>Om
theorem l7{f:Pn}(c:q9 X.K C)(n:dJ X.K C f)(j:PE X e (tV X.K g E))(l:SM e f X.env (P0 e X.env)=P0 e X.env:=by rfl):PE X (.Attribute e f pos) (tV X.K (f1 (xz C f) g) E):=
 (K8 j l).imp λL H Q i=>lg i λF δ β fr q h=>⟨F,δ,β,fr,q,(run.bind (R:=c_ X.K F) h).mono λv r i=>by
  obtain⟨d,β1,t,hd,r1⟩:=i;obtain⟨d3,b,k⟩:=run.ofO r1;cases d<;>first|cases b|skip
  rename_i u ns ds;unfold xz at b;simp only at b;split at b
  .rename_i z
   subst z;unfold c_ at hd;obtain⟨a,y,xs,rfl,N,A,O,B⟩:=hd;obtain⟨w,I,J⟩:=pb B b;exact⟨a,u,y,_,w,rfl,A,c,n,I,k w r (To.refl t.fr) J⟩
  .cases b⟩
def mM{α:Type}(C:Ou)(m:Pn)(a:List D->M α)(b:FD)(g:FL)(c:List D):Dn->M α:=λδ=>M.bind (b δ) λd=>match d with
 | .obj C' ns _=>if C'=C/\m∉ns then M.bind (g δ) λas=>a (d::(as++c))else M.fail
 |_=>M.fail
def Y5{α:Type}(K:OX)(T:Fx->Hp->Hp->α->V->Prop)(n:Nat)(m:List D->M α):Sp:=λvs H Q E=>vs.length=n/\∃F ds β,Fr F H β/\bb K F H ds vs/\run (T F H) F (λ_=>E) [] (m ds) H Q β
theorem nP{α:Type}{T:Fx->Hp->Hp->α->V->Prop}{U:List D->M α}{W:FD}{g:FL}{j:List D}{K:OX}{b:List V}{l:St}{H:Hp}{Q:VK}(hT:∀{F H q u β d v},To F H q β->T F q u d v->T F H u d v)(rd:∀F H,bb K F H j b)(hn:∀δ β r c,g δ β=on (.ok r,c)->r.length+j.length+1=n)(h:∃F δ β,Fr F H β/\j0 K F H δ l/\run (T F H) F E l (mM C m U W g j δ) H Q β):wx C m (Y5 K T n U) b E (tV K W E) (js K g E) l H Q:=by
 obtain⟨F,δ,β,fr,Y,h⟩:=h;refine⟨F,δ,β,fr,Y,(run.bind (R:=c_ K F) h).mono λv q h_=>oa h_ λd β1 t hd r1=>?_⟩;have fail:∀{y:M α},y=M.fail->run (T F H) F E l y q Q β1->False:=λ{y} e r=>by
  obtain⟨r,c,Z,_⟩:=r;rw[e]at Z;cases Z
 cases d<;>first|exact(fail rfl r1).elim|skip
 rename_i C' ns ds;simp only at r1;split at r1
 .rename_i z
  obtain⟨rfl,hm⟩:=z;have A:=hd;unfold c_ at hd;obtain⟨a,dx,xs,rfl,h1,h2,h3,B⟩:=hd;refine⟨a,dx,_,rfl,h2,qV hm,F,δ,β1,t.fr,Y.tr (t.tr fr),?_⟩;obtain⟨r0,I,e0,h0⟩:=run.bind (R:=bb K F) r1;refine⟨r0,I,e0,?_⟩;cases r0 with
  |error C=>exact h0
  |ok as=>
   intro vs J t2 i;obtain⟨d',β2,L,N,r3⟩:=h0 vs J t2 i;have hl:=hn _ _ _ _ e0;have hz:=(rd F J).length;refine⟨by rw[OR,OQ,<-i.length,<-hz,hl],F,_::(d'++j),β2,L.fr,bb.cons (c_.tr (L.tr t.fr) _ _ A) (bb.append N (rd F J)),?_⟩;obtain⟨r4,O,e4,B⟩:=r3;refine⟨r4,O,e4,?_⟩;cases r4 with
   |error C=>exact B
   |ok d=>exact λv u t5 hv=>B v u t5 (hT (t.trans L) hv)
 .exact(fail rfl r1).elim
theorem ox{a:List D}(c:q9 X.K C)(hm:o_ X.K C m f)(G:e_ X.prog X.w X.K X.mg X.base (hE X.prog X.w) k f fd ps (D_ X.K n mf))(l:eg k X.A)(q:dG X.K fd ps a)(t:cM (hE X.prog X.w) X E)
  (u:PE X o (tV X.K fo E)) (ha:PA X (e::es) (js X.K g E)) (hn:∀δ β r j,g δ β=on (.ok r,j)->r.length+a.length+1=n)
  (d:OM (e::es) X.env=(Ov,P0 e X.env)::OM es X.env:=by rfl) (i:(Q0 pos (OM es X.env)).any (·.1)=Ov:=by rfl)
  (v:P0 (.Call (.Attribute o m apos) (e::es) [] pos) X.env=(do
   let ov <-P0 o X.env
   Sm apos.atName
   let (f,first) <-SR [ov] (UO ov m pl)
   W4 pos f first (Q0 pos (OM (e::es) X.env)) (RN pos (QH [] X.env))):=by rfl):
  PE X (.Call (.Attribute o m apos) (e::es) [] pos) (tV X.K (mM C m mf fo g a) E):=by
 obtain⟨ds,y,b,B,rd⟩:=q;exact(vy (pl:=pl) u c hm G l b B t ha d i v).imp λI H Q h=>nP (T:=λF _=>c_ _ F) (λ_ z=>z) rd hn h
theorem IL{d:List D}(c:q9 X.K C)(hm:o_ X.K C m f)(G:e_ X.prog X.w X.K X.mg X.base (hE X.prog X.w) k f fd ps (D_ X.K n mf))(i:eg k X.A)(j:dG X.K fd ps d)(l:cM (hE X.prog X.w) X E)
  (q:PE X o (tV X.K fo E)) (hn:d.length+1=n)
  (t:P0 (.Call (.Attribute o m apos) [] [] pos) X.env=(do
   let ov <-P0 o X.env
   Sm apos.atName
   let (f,first) <-SR [ov] (UO ov m pl)
   W4 pos f first (Q0 pos (OM [] X.env)) (RN pos (QH [] X.env))):=by rfl):
  PE X (.Call (.Attribute o m apos) [] [] pos) (tV X.K (mM C m mf fo aF d) E):=by
 obtain⟨ds,u,b,y,rd⟩:=j;refine(BW (pl:=pl) q c hm G i b y l t).imp λW H Q h=>?_;obtain⟨F,δ,β,fr,B,h⟩:=nP (T:=λF _=>c_ _ F) (λ_ z=>z) rd (λδ β r I e=>by cases e;simpa using hn) h;refine⟨F,δ,β,fr,B,h.mono λv Y ⟨a,J,fs,L,ha,N,Z,O,β2,g,R,U⟩=>⟨a,J,fs,L,ha,N,?_⟩⟩;exact run.ret g U bb.nil
structure Zj (F:Fx) (x:Ou) (H H':Hp) (β':Bg):Prop where
 kp:∀a o,a≠x->H a=on o->(∀b l,F.bg=on (b,l)->a≠b/\a≠l)->H' a=on o
 fr:Fr F H' β'
def Y6(K:OX)(C:Ou)(ns:List Pn)(n:Nat)(g:List D->M (List D)):Sp:=λvs H Q E=>∃x rest F ds β d,vs= .ref x::rest/\rest.length=n/\Fr F H β/\F.A x/\(∀b l,F.bg=on (b,l)->x≠b/\x≠l)/\H x=on (.ins C d [])/\bb K F H ds rest/\
 ∃r a,g ds β=on (r,a)/\match r with
  | .ok es=>∀c xs,Zj F x H c a->c x=on (.ins C d (ns.zip xs))->ns.length=xs.length->bb K F c es xs->Q .non c
  | .error Ce=>∀c,Zj F x H c a->E (.ref Ce) Om c
variable{ns:List Pn}
theorem CK{K:OX}{vs:List V}(fr:Fr F H2 β2)(R:vs.length=n)(hd:bb K F H2 ds vs)(r:run (c_ K F) F E σ (M.bind (mi ds) λfs=>M.ret (.obj C ns fs)) H2 Q β2):
  ∀x c,H2 x=Om->H2 c=Om->c≠x->Y6 K C ns n mi (.ref x::vs) (upd (upd H2 c (.own x)) x (.ins C c [])) (λv T=>v= .non/\Q (.ref x) T) (E σ):=by
 intro x c H I ne;have J:¬F.A x:=fr.fresh H;have same:bJ H2 (upd (upd H2 c (.own x)) x (.ins C c [])):=λa o h=>by
  rw[bt (ay h H),bt (ay h I)];exact h
 have t:=fr.same same;have L:Fr (F.but x) (upd (upd H2 c (.own x)) x (.ins C c [])) β2:=⟨λa ha z=>(by
  rcases ha with ha|ha
  .exact t.fr.occ a ha z
  .subst ha;rw[aj]at z;cases z),λb l q=>let ⟨z1,z2,z3⟩:=fr.bgA b l q;⟨.inl z1,.inl z2,z3⟩,t.fr.bag⟩
 have U:∀b l,F.bg=on (b,l)->x≠b/\x≠l:=λb l q=>⟨λz=>J (z▸(fr.bgA b l q).1),λz=>J (z▸(fr.bgA b l q).2.1)⟩;have N:Tr F H2 (F.but x) (upd (upd H2 c (.own x)) x (.ins C c [])):=⟨λa W Y z=>by
  rcases z with z|z
  .exact W z
  .subst z;exact Y H,λa o _ h=>same a o h,rfl⟩
 obtain⟨Z,d,g,h⟩:=r;refine⟨x,vs,F.but x,ds,β2,c,rfl,R,L,.inr rfl,U,aj,bb.tr N _ _ hd,?_⟩;have u:∀{i:Hp} {d:Bg},Zj (F.but x) x (upd (upd H2 c (.own x)) x (.ins C c [])) i d->To F H2 i d:=λ{i d} j=>⟨λa o ha n=>j.kp a o (ay ha H) (same a o ha) n,⟨λa ha=>j.fr.occ a (.inl ha),fr.bgA,j.fr.bag⟩⟩;cases q:mi ds β2 with
 |none=>unfold M.bind at g;rw[q]at g;cases g
 |some z=>
  obtain⟨r1,β1⟩:=z;refine⟨r1,β1,rfl,?_⟩;cases r1 with
  |error Ce=>
   rw[M.bind_err q]at g;cases g;exact λi j=>h i (u j)
  |ok fs=>
   rw[M.bind_ok q]at g;cases g;refine λi xs j O y B=>⟨rfl,h (.ref x) i (u j) ⟨x,c,xs,rfl,J,O,y,bb.tr Fx.tr_of _ _ B⟩⟩
def zU(C:Ou)(ns:List Pn)(a:List D->M (List D))(g b:FL)(src:List (Sr D)):FD:=λδ=>M.bind (g δ) λas=>M.bind (b δ) λks=>M.bind (a (as++src.map (Sr.pick .non ks))) λfs=>M.ret (.obj C ns fs)
def Kj(C:Ou)(sp:Sp)(d:List V->List V->List V)(E:St->XK)(t g:TA):TE:=λb H Q=>t b H λvs h=>g b h λi c=>∀x a,c x=Om->c a=Om->a≠x->
 sp (d (.ref x::vs) i) (upd (upd c a (.own x)) x (.ins C a [])) (λv j=>v= .non/\Q (.ref x) j) (E b)
theorem BX(M:Mk X.K C f)(F:e_ X.prog X.w X.K X.mg X.base CX k f fd ps sp)(U:eg (k+1) X.A)(Y:Gl X x)(hm:X.mg x=on (.ref C))(O:D1 X.K fd ps ks g gV)(Z:cM CX X E)
  (ha:PA X (e::es) t) (B:PK X kws tk) (i:(RN pos (QH kws X.env)).all (·.1.isSome)=Oq:=by rfl) (J:(RN pos (QH kws X.env)).filterMap (·.1)=ks:=by rfl)
  (L:(x==("__debug__":Pn))=Ov:=by decide) (he:OM (e::es) X.env=(Ov,P0 e X.env)::OM es X.env:=by rfl)
  (N:((Q0 pos (OM (e::es) X.env)).any (·.1)||(RN pos (QH kws X.env)).any (·.1.isNone))=Ov:=by rfl):
  PE X (.Call (.Name x p) (e::es) kws pos) (Kj C sp gV E t tk):=by
 intro a s l H Q I h;refine Ut (qo I Y hm ?_ L);refine PySem.W.callWith_KW (h₀:=X.base) I.ok.mod.kin M.kp i (eo (ha pos a s l H _ I h) λus s1 ⟨vs,H1,I1,r,q⟩=>?_) N he;refine eo (B pos a s1 l H1 _ I1 q) λd c ⟨zs,H2,j,rz,q2⟩=>⟨j.kIn,?_⟩;rw[J];have R:=q2 (c.heap.objs.size+1) c.heap.objs.size (j.hok.fresh (Ul _)) (j.hok.fresh (OG _)) (Ps (VG _));have y:=dc.made (C:=C) j;have T:=O.rel (.cons (show aI (V.ref (c.heap.objs.size+1)) (OP (c.heap.objs.size+1))from rfl) r) rz;have hl:(g (OP (c.heap.objs.size+1)::us) d).length=ps.length:=by rw[<-T.length];exact F.len _ _ _ _ R
 refine wpAny_call (CL (f:=f) j.kIn M.makes M.init (beq_iff_eq.mp M.fn) (Ug (F.run _ X.stack _ _ ⟨OP (c.heap.objs.size+1)::us,ks.zip d⟩ (g (OP (c.heap.objs.size+1)::us) d) _ _ (E l) (U.make C us (ks.zip d))
  (y.env0.make C us (ks.zip d)) (O.to _ (OP (c.heap.objs.size+1)::us) d y.kIn hl) T R) λr s' b=>?_))
 cases r with
 |error e=>exact Z a l _ _ e s' y b
 |ok fl=>
  cases fl with
  |ret u=>
   obtain⟨v,H',I4,rv,ev,q4⟩:=y.after b;subst ev;exact⟨rv,⟨V.ref (c.heap.objs.size+1),H',I4,rfl,q4⟩⟩
  |next=>exact Rj b
  |brk=>exact Rj b
  |cont=>exact Rj b
theorem IM{src:List (Sr D)}(Mm:Mk X.K C f)(G:e_ X.prog X.w X.K X.mg X.base (hE X.prog X.w) k f fd ps (Y6 X.K C ns n mi))(hr:eg (k+1) X.A)(hg:Gl X x)(hm:X.mg x=on (.ref C))(hb:C_ X.K fd ps ks (n1+1) src)(hx:cM (hE X.prog X.w) X E)
  (ha:PA X (e::es) (js X.K g E)) (c:PK X kws (js X.K gk E)) (hn:∀δ β r a,g δ β=on (.ok r,a)->r.length=n1) (d:∀δ β r a,gk δ β=on (.ok r,a)->r.length=ks.length) (h3:n1+src.length=n)
  (b:(RN pos (QH kws X.env)).all (·.1.isSome)=Oq:=by rfl) (h:(RN pos (QH kws X.env)).filterMap (·.1)=ks:=by rfl)
  (i:(x==("__debug__":Pn))=Ov:=by decide) (he:OM (e::es) X.env=(Ov,P0 e X.env)::OM es X.env:=by rfl)
  (j:((Q0 pos (OM (e::es) X.env)).any (·.1)||(RN pos (QH kws X.env)).any (·.1.isNone))=Ov:=by rfl):
  PE X (.Call (.Name x p) (e::es) kws pos) (tV X.K (zU C ns mi g gk src) E):=by
 obtain⟨sv,J,rd,kb⟩:=hb.kb;refine(BX Mm G hr hg hm kb hx ha c b h i he j).imp λσ H Q h_=>lg h_ λF δ β fr L r=>⟨F,δ,β,fr,L,?_⟩;obtain⟨r0,l,N,O⟩:=run.bind (R:=bb X.K F) r;refine⟨r0,l,N,?_⟩;cases r0 with
 |error C=>exact O
 |ok as=>
  intro vs H1 t hd;obtain⟨d',β1,q,u,r1⟩:=O vs H1 t hd;refine⟨F,δ,β1,q.fr,L.tr (q.tr fr),?_⟩;obtain⟨T,β2,U,W⟩:=run.bind (R:=bb X.K F) r1;refine⟨T,β2,U,?_⟩;cases T with
  |error C=>exact W
  |ok bs=>
   intro v Y t2 Z;obtain⟨d2,β3,t3,B,r3⟩:=W v Y t2 Z;have l1:=hn _ _ _ _ N;have l2:=d _ _ _ _ U;have I:bb X.K F Y d' vs:=bb.tr (t3.tr q.fr) _ _ u;intro y dx;have g1:gK V.non (n1+1) ks.length J (.ref y::vs) v= .ref y::(vs++J.map (Sr.pick .non v)):=OE ⟨by rw[OR,<-hd.length,l1],by rw[<-Z.length,l2]⟩;rw[g1];exact CK t3.fr (by rw[OQ,Ol,<-hd.length,l1,<-rd.len,h3]) (bb.append I (lw.den B rd)) r3 y dx
abbrev IP:=Ds->List D->Bg->Option (Except Ou (List D)×Bg)
noncomputable def Ip:IP:=λ_ done β=>on (.ok done,β)
noncomputable def mG(g:G)(a:IP):IP:=λδ done β=>match g δ β with
 |some (.nx δ1,β1)=>match δ[0]?,δ1[0]? with
  |some (on (Sl.sh (D.adr x))),on (on (Sl.sh (D.adr y)))=>if x=y then a δ1 done β1 else Om
  |_,_=>Om
 |some (.ex C _,β1)=>on (.error C,β1)
 |_=>Om
def iT(f:FD)(a:IP):IP:=λδ done β=>match f (vw δ) β with
 |some (.ok d,β1)=>a δ (done++[d]) β1
 |some (.error C,β1)=>on (.error C,β1)
 |none=>Om
structure nS (x:Ou) (B:Ow) (H:Hp) (B':Ow) (H':Hp):Prop where
 kp:∀a o,a≠x->H a=on o->(B a=Om\/B a=on 0)->H' a=on o
 tg:∀a,B a=on 0\/B a=on 1->B' a=B a
 nn:∀a o,a≠x->H a=on o->B a=Om->B' a=Om
 al:∀a,H a≠Om->H' a≠Om
end
theorem hU.x{x:Ou}{B b:Ow}{H c:Hp}(s:hU B H b c):nS x B H b c:=⟨λa o _=>s.kp a o,s.tg,λa o _=>s.nn a o,s.al⟩
theorem nS.trans(a:nS x B H B1 H1)(b:nS x B1 H1 B2 H2):nS x B H B2 H2:=by
 refine⟨λc o ne h n=>b.kp c o ne (a.kp c o ne h n) ?_,λc h=>?_,λc o ne h n=>b.nn c o ne (a.kp c o ne h (.inl n)) (a.nn c o ne h n),λc h=>b.al c (a.al c h)⟩
 .rcases n with n|n
  .exact .inl (a.nn c o ne h n)
  .exact .inr ((a.tg c (.inl n)).trans n)
 .have e:=a.tg c h
  rw[<-e]at h;exact(b.tg c h).trans e
def jE(K:OX)(bg:Option (Ou×Ou))(E:St->XK)(Dn:pa)(B:Ow)(H:Hp)(x C e:Ou)(all:List Pn)(r:Except Ou (List D))(d:Bg):Prop:=match r with
 | .ok ds=>∀b c a vs,nS x B H c a->Fr (en c bg) a d->a x=on (.ins C e (all.zip vs))->all.length=vs.length->bb K (en c bg) a ds vs->Dn.nx b a
 | .error Ce=>∀b c a,nS x B H c a->Fr (en c bg) a d->E b (.ref Ce) Om a
theorem jE.pre{K:OX}{E:St->XK}{Dn:pa}(s:nS x B H B1 H1)(h:jE K bg E Dn B H x C dx all r β'):jE K bg E Dn B1 H1 x C dx all r β':=by
 cases r with
 |ok ds=>exact λa b c vs t=>h a b c vs (s.trans t)
 |error d=>exact λa b c t=>h a b c (s.trans t)
def tI(K:OX)(H₀:Hp)(C:Ou)(a names:List Pn)(f:IP)(E:St->XK):TS:=λDn g H=>∃B bg δ β x e b c r d,fw K H₀ B bg H δ β g/\δ[0]?=on (on (.sh (.adr x)))/\B x=on 0/\H x=on (.ins C e (a.zip b))/\a.length=b.length/\bb K (en B bg) H c b/\f δ c β=on (r,d)/\jE K bg E Dn B H x C e (a++names) r d
theorem qT:∀{ns:List Pn} {vs:List V},ns.length=vs.length->f∉ns->dg f y (ns.zip vs)=(ns++[f]).zip (vs++[y])
 |[],[],_,_=>rfl
 |n::ns,v::vs,h,hf=>by
  have a:¬n=f:=λz=>hf (by rw[z];exact Oz);show(if n=f then(n,y)::ns.zip vs else(n,v)::dg f y (ns.zip vs))=_;rw[OC a,qT (by simpa using h) λz=>hf (Ot _ z)];rfl
 |[],_::_,h,_=>by simp at h
 |_::_,[],h,_=>by simp at h
theorem fw.upd0{K:OX}(ok:fw K H₀ B bg H δ β σ)(f:B x=on 0):fw K H₀ B bg (upd H x o) δ β σ/\nS x B H B (upd H x o):=by
 have al:∀c,H c≠Om->upd H x o c≠Om:=λc a=>by
  by_cases z:c=x
  .subst z;rw[aj];simp
  .rw[bt z];exact a
 have g:∀b l,bg=on (b,l)->b≠x/\l≠x:=λb l e=>by
  obtain⟨b1,b2⟩:=ok.bgt b l e;exact⟨λz=>(by rw[z,f]at b1;cases b1),λz=>(by rw[z,f]at b2;cases b2)⟩
 have tr:Tr (en B bg) H (en B bg) (upd H x o):=⟨λ_ h _=>h,λc u a e=>by
  rw[bt]
  .exact e
  .intro z;subst z;exact a (by show B c≠Om;rw[f];simp),rfl⟩
 refine⟨⟨⟨λc a=>al c (ok.fr.occ c a),ok.fr.bgA,λb l e=>?_⟩,ok.bgt,ok.len,λc a=>al c (ok.cov c a),ok.new,λc k a=>?_,λi s e=>?_⟩,λc u ne h _=>by rw[bt ne];exact h,λ_ _=>rfl,λ_ _ _ _ n=>n,al⟩
 .obtain⟨j,m⟩:=ok.fr.bag b l e
  obtain⟨p,q⟩:=g b l e;exact⟨by rw[bt p];exact j,by rw[bt q];exact m⟩
 .exact(ok.lst c k a).imp λo h=>by rw[bt];exact h;intro z;subst z;rw[f]at a;cases a
 .obtain⟨v,r,t⟩:=ok.tell i s e
  exact⟨v,r,t.tr tr λc d=>⟨d,λo z=>(bt λy=>by subst y;rw[f]at d;cases d).trans z⟩⟩
section
variable{X:Cx}{E:St->XK}{st:Qg}{sts:List Qg}{C:Ou}{ns0 names:List Pn}{ip:IP}
theorem N4:PSs X [] (tI X.K X.H₀ C ns0 [] Ip E):=mq.imp λDn b H c=>by
 obtain⟨B,bg,δ,β,x,i,a,d,r,f,ok,j,l,g,h,hd,e,k⟩:=c;cases e;rw[Pi]at k;exact k b B H a (hU.refl B H).x ok.fr g h hd
theorem Iq(m:PS X st (tG X.K X.H₀ g E))(n:PSs X sts (tI X.K X.H₀ C ns0 names ip E)):PSs X (st::sts) (tI X.K X.H₀ C ns0 names (mG g ip) E):=(cr m n).imp λDn y H o=>by
 obtain⟨B,bg,δ,β,x,p,c,d,r,f,ok,q,h,t,u,hd,e,k⟩:=o;unfold mG at e;split at e
 .rename_i δ1 β1 i
  split at e
  .rename_i A F q1 q2
   split at e
   .rename_i z
    subst z;rw[q]at q1;cases q1;refine⟨B,bg,δ,β,.nx δ1,β1,ok,i,λb j l s a=>?_⟩;exact⟨j,bg,δ1,β1,x,p,c,d,r,f,a,q2,(s.tg x (.inl h)).trans h,s.kp x _ t (.inr h),u,bb.tr s.tr _ _ hd,e,jE.pre s.x k⟩
   .cases e
  .cases e
 .rename_i v δ1 β1 i
  cases e;exact⟨B,bg,δ,β,.ex v δ1,_,ok,i,λb j l s a=>k b j l s.x a.fr⟩
 .cases e
theorem rV(c:q9 X.K C)(n:dJ X.K C f)(Q:f∉ns0)(L:ns0.length<1000)(R:PS X st (KG X.K (jK 0) (tV X.K fv E) f))(T:PSs X sts (tI X.K X.H₀ C (ns0++[f]) names ip E)):PSs X (st::sts) (tI X.K X.H₀ C ns0 (f::names) (iT fv ip) E):=(cr R T).imp λDn U H W=>by
 obtain⟨B,bg,δ,β,x,l,g,q,r,t,ok,N,m,Y,O,hd,e,k⟩:=W;refine⟨en B bg,vw δ,β,ok.fr,ok.view,?_⟩;unfold iT at e;split at e
 .rename_i d β1 A
  refine⟨.ok d,β1,A,λy p F Z=>?_⟩;obtain⟨b,i⟩:=ok.to rfl F;obtain⟨v,g1,g2⟩:=b.tell 0 _ N;have hv:v= .ref x:=g2;subst hv;have I:=i.kp x _ Y (.inr m);refine⟨_,g1,x,C,l,_,rfl,I,c,n,?_,?_⟩
  .rw[SD];omega
  obtain⟨J,s2⟩:=b.upd0 (o:= .ins C l (dg f y (ns0.zip g))) m;have j:Tr (en B bg) p (en B bg) (upd p x (.ins C l (dg f y (ns0.zip g)))):=⟨λ_ h _=>h,λa u ha e=>by
   rw[bt]
   .exact e
   .intro z;subst z;exact ha (by show B a≠Om;rw[m];simp),rfl⟩
  refine⟨B,bg,δ,β1,x,l,g++[y],q++[d],r,t,J,N,m,by rw[aj,qT O Q],by simp[O],bb.append (bb.tr j _ _ (bb.tr i.tr _ _ hd)) (bb.cons (c_.tr j _ _ Z) bb.nil),e,?_⟩;rw[PZ];exact jE.pre (i.x.trans s2) k
 .rename_i Ce β1 A
  cases e;refine⟨.error Ce,_,A,λp F=>?_⟩;obtain⟨b,i⟩:=ok.to rfl F;exact k U B p i.x b.fr
 .cases e
end
open Classical in
def mH(m:Nat)(a:IP):List D->M (List D):=λds β=>if h:∃r,∀x,a (m_ m (.adr x::ds)) [] β=on r then on h.choose else Om
theorem DG(h:∀x,ip (m_ m (.adr x::ds)) [] β=on r):mH m ip ds β=on r:=by
 have a:∃r,∀x,ip (m_ m (.adr x::ds)) [] β=on r:=⟨r,h⟩;unfold mH;rw[dif_pos a];have:=a.choose_spec 0;rw[h 0]at this;exact this.symm
theorem zM(h:mH m ip ds β=on r):∀x,ip (m_ m (.adr x::ds)) [] β=on r:=by
 unfold mH at h;split at h
 .rename_i a
  have:=a.choose_spec;cases h;exact this
 .cases h
section
variable{P:Pf}{w:Po}{K:OX}{mg:Pn->Option Oy}{base:P5}
theorem JT{st:Qg}{N ps names:List Pn}(n m:Nat)(ip:IP)(F:d4 K x qual st f fd)(S:cp N ps (af st))(O:ps.length=n+1)(R:N.length=m)
  (p:∀(i:Oy) (A:PV) (outer:List VN) (s:OD) (H:Hp) (E:XK),eg k (A.deeper (SW qual (af st) s.heap.objs.size f i))->
   PSs (eJ (hE P w) P w K mg base N qual (af st) f i A outer s H E) (bZ st) (tI K H C [] names ip (λ_=>E))):e_ P w K mg base (hE P w) (k+1) f fd ps (Y6 K C names n (mH m ip)):=by
 subst R;refine F.okE S (λvs H Q E h=>?_) λi A outer s H vs Q E hr h=>?_
 .obtain⟨y,rest,j,ds,β,dx,rfl,hl,_⟩:=h
  rw[OR,hl,O]
 obtain⟨y,rest,j,ds,β,dx,rfl,hl,fr,T,nb,hH,hd,r,d,e,h⟩:=h;refine⟨_,p i A outer s H E hr,?_⟩;have U:bb K j H (.adr y::ds) (.ref y::rest):=bb.cons rfl hd;obtain⟨B,ok,L,h1,hn⟩:=oF (N:=N) fr U;have hy:B y=on 0:=by
  rcases L y T with z|z
  .exact z
  .obtain⟨b,l,q,w⟩:=h1 y z
   obtain⟨W,X⟩:=nb b l q;rcases w with w|w
   .exact O4 w W
   .exact O4 w X
 have v:∀{u:Ow} {g:Hp} {d:Bg},nS y B H u g->Fr (en u j.bg) g d->Zj j y H g d/\Tr (en u j.bg) g j g:=λ{u g d} s c=>by
  have hs:∀a,j.A a->u a≠Om:=λa ha=>by
   rw[s.tg a (L a ha)];rcases L a ha with z|z<;>rw[z]<;>simp
  refine⟨⟨λa o ne ha n=>s.kp a o ne ha ?_,λa ha=>c.occ a (hs a ha),λb l e=>fr.bgA b l e,c.bag⟩,λa ha _ z=>ha (hs a z),λ_ _ _ h=>h,rfl⟩;cases q:B a with
  |none=>exact .inl rfl
  |some t=>
   have:=L a (hn a (by rw[q];simp));rcases this with z|z
   .rw[q]at z;exact .inr z
   .obtain⟨b,l,e,w⟩:=h1 a z
    obtain⟨W,X⟩:=n b l e;rcases w with w|w
    .exact O4 w W
    .exact O4 w X
 refine⟨B,j.bg,m_ N.length (.adr y::ds),β,y,dx,[],[],r,d,ok,rfl,hy,hH,rfl,bb.nil,zM e y,?_⟩;cases r with
 |ok es=>
  intro Y u g vs s c Z I J;obtain⟨t1,t2⟩:=v s c;exact h g vs t1 Z I (bb.tr t2 _ _ J)
 |error Ce=>
  intro Y u g s c;exact h g (v s c).1
variable{X:Cx}{E:St->XK}{st:Qg}
variable{h:G}{δ:Ds}{β β1:Bg}{Q:sA->Bg->Prop}{i:Nat}{f:FD}
end
section
variable{C Ce:Ou}{m:Pn}{ns:List Pn}{mf:List D->M D}{mi:List D->M (List D)}{fo:FD}{g gk:FL}{dd fs as ks:List D}{src:List (Sr D)}{δ:Dn}{β β1 β2 β3:Bg}{r:Except Ou D×Bg}{d:D}{f:Pn}{h:G}{Q:sA->Bg->Prop}{i:Nat}{δs:Ds}
theorem hX{α:Type}{mf:List D->M α}{r:Except Ou α×Bg}(a:fo δ β=on (.ok (.obj C ns fs),β1))(b:g δ β1=on (.ok as,β2))(c:mf (.obj C ns fs::(as++dd)) β2=on r)(hm:m∉ns:=by decide):mM C m mf fo g dd δ β=on r:=by
 unfold mM;rw[M.bind_ok a];simp only[hm,not_false_eq_true,and_self,PN];rw[M.bind_ok b];exact c
theorem jF(a:x δ β=on (.ok (.obj C ns fs),β1))(b:(ns.zip fs).lookup f=on d):f1 (xz C f) x δ β=on (.ok d,β1):=by
 refine x_1 a ?_;unfold xz;simp only[PN];exact b
theorem J9{fl:FL}(e:fl (vw δs) β=on (.ok ds,β1))(k:Gw h (δs.set i (on (.own ds))) β1 Q):Gw (aN (rZ i fl) h) δs β Q:=dz (by unfold rZ;simp only[e]) k
theorem zI{g:G}{δ δ1:Ds}{r:Except Ou (List D)×Bg}(e:g δ β=on (.nx δ1,β1))(a:δ[0]?=on (on (.sh (.adr x))))(b:δ1[0]?=on (on (.sh (.adr x))))(k:ip δ1 done β1=on r):mG g ip δ done β=on r:=by
 unfold mG;simp only[e,a,b,PN];exact k
theorem pB{f:FD}{δ:Ds}{d:D}{r:Except Ou (List D)×Bg}(e:f (vw δ) β=on (.ok d,β1))(k:ip δ (done++[d]) β1=on r):iT f ip δ done β=on r:=by
 unfold iT;rw[e];exact k
noncomputable def t_{α:Type}(d:α)(c:Nat)(ba:List (List α)):List (List α):=(OB c).map λj=>ba.map λrow=>row.getD j d
abbrev tp(c:Nat)(ba:LI):LI:=t_ 0 c ba
theorem qa{α:Type}{d:α}{r c:Nat}{ba:List (List α)}(h:ba.length=r):j_ c r (t_ d c ba):=⟨by simp[t_],λrow a=>by
 obtain⟨j,_,rfl⟩:=OF.mp a;rw[Ol,h]⟩
theorem Kh{α:Type}{d:α}{ba:List (List α)}(h:j<c):(t_ d c ba)[j]?=on (ba.map λrow=>row.getD j d):=by
 unfold t_;rw[Ox,Pz h];rfl
theorem wK{d:Int}:∀(row:List Int),(OB row.length).map (λj=>row.getD j d)=row:=λrow=>by
 refine Yg λi=>?_;rw[Ox];by_cases h:i<row.length
 .rw[Pz h]
  show on (row.getD i d)=_;rw[Op,Os h];rfl
 .rw[SY (by simpa using h),SY (by omega)];rfl
theorem qb{α:Type}(f g:α->Int):∀l:List α,(l.map λx=>f x+g x).sum=(l.map f).sum+(l.map g).sum
 |[]=>by simp
 |x::l=>by
  simp only[OJ,O6,qb f g l];omega
theorem nu{α:Type}:∀l:List α,(l.map λ_=>(0:Int)).sum=0
 |[]=>rfl
 |x::l=>by simp only[OJ,O6,nu l];rfl
theorem x8:∀{ba:LI},(∀row∈ba,row.length=c)->tot (tp c ba)=tot ba
 |[],_=>by
  show((t_ 0 c []).map Qt).sum=0;unfold t_;rw[OA];exact nu (OB c)
 |row::ba,h=>by
  have ih:=x8 (c:=c) (ba:=ba) λx b=>h x (Ot _ b);have a:=h row Oz;unfold tot tp t_ at ih⊢;rw[OA]at ih⊢;have e:(λj=>(Qt ((row::ba).map λrow=>row.getD j 0)))=λj=>row.getD j 0+(ba.map λrow=>row.getD j 0).sum:=by
   funext j;rw[OJ,O6]
  show((OB c).map λj=>(Qt ((row::ba).map λrow=>row.getD j 0))).sum=_;rw[e,qb,<-a,wK,a,OJ,O6];congr 1
theorem GW(h:∀row∈ba,∀x∈row,0<=x):∀row∈tp c ba,∀x∈row,0<=x:=λrow a x b=>by
 obtain⟨j,_,rfl⟩:=OF.mp a;obtain⟨q,k,rfl⟩:=OF.mp b;rw[Op];cases e:q[j]? with
 |none=>exact Xv 0
 |some y=>exact h q k y (OT e)
end
end L2.Pu
namespace L2.Pu
open PySem PySem.Spec PyProof PyProof.Rows
section
variable{X:Cx}
variable{prog:Pf}{w:Po}{A:PV}{E:Oy->OD->Prop}{s:OD}{l:Ou}{xs:Array (Int×Tok)}
variable{K:OX}
end
end L2.Pu
namespace L2
open PySem PySem.Spec PyProof.Rows
end L2
namespace L2.Pu
open PySem PySem.Spec PyProof.Rows
section
variable{X:Cx}{E:St->XK}{K:OX}{elt b_ iter:Expr}{ifs:List Expr}{rest:List Qs}{scope:Scope}{pos:TK}{Nc dq:List Pn}{c4:List Nat}{g:TG}{tb:Ou->TB}
variable{st:Qg}{H₀:Hp}{B:Ow}{bg:Option (Ou×Ou)}{H H':Hp}{δ:Ds}{β β':Bg}{σ:St}
theorem ZS{us:List Oy}(h:us.length=1):∃a,us=[a]:=List.length_eq_one_iff.mp h
theorem ZR{us:List Oy}(h:us.length=2):∃c a1,us=[c,a1]:=by
 obtain⟨a,l,rfl⟩:=Sh h;obtain⟨b,rfl⟩:=ZS (us:=l) (by simpa using h);exact⟨_,_,rfl⟩
theorem ZQ{us:List Oy}(h:us.length=3):∃d a1 a2,us=[d,a1,a2]:=by
 obtain⟨a,l,rfl⟩:=Sh h;obtain⟨b,c,rfl⟩:=ZR (us:=l) (by simpa using h);exact⟨_,_,_,rfl⟩
theorem lU4{us:List Oy}(h:us.length=4):∃e a1 a2 a3,us=[e,a1,a2,a3]:=by
 obtain⟨a,l,rfl⟩:=Sh h;obtain⟨b,c,d,rfl⟩:=ZQ (us:=l) (by simpa using h);exact⟨_,_,_,_,rfl⟩
end
section
variable{X:Cx}{E:St->XK}{e e1 e2 e3 e4 e5:Expr}{es:List Expr}{pos p:TK}{f1 f2 f3 f4 f5:FD}{g:FL}{k j n:Nat}{f:Ou}{fd:O8}{ps:List Pn}{x:Pn}{op:List D->Option D}{r:List V->Hp->VK->Prop}{id T:String}
theorem vv(i:Nat){x:Pn}(b:X.N[i]?=on x:=by rfl)(c:YU X.env.scope x:=by first|exact Q1 rfl|exact Sj (Q1 rfl)|exact Sj (Sj rfl))(hd:(x==("__debug__":Pn))=Ov:=by decide)
  (a:(x==("__classdict__":Pn))=Ov:=by decide):PE X (.Name x pos) (tV X.K (ah i) E):=Nd i (pv i b c hd a)
theorem d5(a:PE X e1 (tV X.K f1 E))(b:OM [e1] X.env=(Ov,P0 e1 X.env)::OM [] X.env:=by rfl):PA X [e1] (js X.K (ag f1 aF) E):=l5 a ff b
theorem ej(a:PE X e1 (tV X.K f1 E))(b:PE X e2 (tV X.K f2 E))(c:OM [e1,e2] X.env=(Ov,P0 e1 X.env)::OM [e2] X.env:=by rfl)(d:OM [e2] X.env=(Ov,P0 e2 X.env)::OM [] X.env:=by rfl):PA X [e1,e2] (js X.K (ag f1 (ag f2 aF)) E):=l5 a (d5 b d) c
theorem q_(a:PE X e1 (tV X.K f1 E))(b:PE X e2 (tV X.K f2 E))(c:PE X e3 (tV X.K f3 E))(d:OM [e1,e2,e3] X.env=(Ov,P0 e1 X.env)::OM [e2,e3] X.env:=by rfl)(h:OM [e2,e3] X.env=(Ov,P0 e2 X.env)::OM [e3] X.env:=by rfl)(i:OM [e3] X.env=(Ov,P0 e3 X.env)::OM [] X.env:=by rfl):PA X [e1,e2,e3] (js X.K (ag f1 (ag f2 (ag f3 aF))) E):=l5 a (ej b c h i) d
theorem D2(a:PE X e1 (tV X.K f1 E))(b:PE X e2 (tV X.K f2 E))(c:PE X e3 (tV X.K f3 E))(d:PE X e4 (tV X.K f4 E))(h:OM [e1,e2,e3,e4] X.env=(Ov,P0 e1 X.env)::OM [e2,e3,e4] X.env:=by rfl)(i:OM [e2,e3,e4] X.env=(Ov,P0 e2 X.env)::OM [e3,e4] X.env:=by rfl)(l:OM [e3,e4] X.env=(Ov,P0 e3 X.env)::OM [e4] X.env:=by rfl)(m:OM [e4] X.env=(Ov,P0 e4 X.env)::OM [] X.env:=by rfl):PA X [e1,e2,e3,e4] (js X.K (ag f1 (ag f2 (ag f3 (ag f4 aF)))) E):=l5 a (q_ b c d i l m) h
theorem y3(δ:Dn)(β:Bg)(r:List D)(a:Bg)(h:aF δ β=on (.ok r,a)):r.length=0:=GC h
structure FB (P:Pf) (w:Po) (K:OX) (mg:Pn->Option Oy) (base:P5) (k:Nat) (x:Pn) (f:Ou) (fd:O8) (ps:List Pn) (n:Nat) (m:List D->M D):Prop where
 ok:e_ P w K mg base (hE P w) k f fd ps (D_ K n m)
 m:mg x=on (.ref f)
 kp:Us K (.ref f)=Oq
 b:aC K fd ps []
theorem vc(G:FB X.prog X.w X.K X.mg X.base j x f fd ps n m)(h:eg k X.A)(ha:PA X (e::es) (js X.K g E))(i:j<=k:=by decide)(l:cM (hE X.prog X.w) X E:=by first|exact f9|exact rN|assumption)(o:Gl X x:=by rfl)
  (hn:∀δ β r d,g δ β=on (.ok r,d)->r.length=n:=by repeat (first|exact y3|apply aS)) (a:(x==("__debug__":Pn))=Ov:=by decide) (q:OM (e::es) X.env=(Ov,P0 e X.env)::OM es X.env:=by rfl) (c:(Q0 pos (OM es X.env)).any (·.1)=Ov:=by rfl):
  PE X (.Call (.Name x p) (e::es) [] pos) (tV X.K (eX m g) E):=xX G.ok (h.mono i) o G.m G.kp G.b l ha hn a q c
theorem cz(hm:X.mg "len"=Om)(ha:PA X (e::es) (js X.K g E))(b:Gl X "len":=by rfl)(c:OM (e::es) X.env=(Ov,P0 e X.env)::OM es X.env:=by rfl)(a:(Q0 pos (OM es X.env)).any (·.1)=Ov:=by rfl):PE X (.Call (.Name "len" p) (e::es) [] pos) (tV X.K (aP e8 g) E):=bG lO NU b hm PySem.boot_len ha (by decide) (by decide) c a
theorem fi(hm:X.mg "sum"=Om)(ha:PA X (e::es) (js X.K g E))(b:Gl X "sum":=by rfl)(c:X.calm=Oq:=by rfl)(d:OM (e::es) X.env=(Ov,P0 e X.env)::OM es X.env:=by rfl)(a:(Q0 pos (OM es X.env)).any (·.1)=Ov:=by rfl):PE X (.Call (.Name "sum" p) (e::es) [] pos) (tV X.K (aP fm g) E):=bG (z7 c) Ly b hm PyProof.Rows.Boot.«sum» ha (by decide) (by decide) d a
theorem kG(hm:X.mg "isinstance"=Om)(ha:PA X (e::es) (js X.K g E))(b:Gl X "isinstance":=by rfl)(c:OM (e::es) X.env=(Ov,P0 e X.env)::OM es X.env:=by rfl)(a:(Q0 pos (OM es X.env)).any (·.1)=Ov:=by rfl):PE X (.Call (.Name "isinstance" p) (e::es) [] pos) (tV X.K (aP iu g) E):=bG z9 NV b hm PyProof.Rows.Boot.«isinstance» ha (by decide) (by decide) c a
theorem hY{scope:Scope}(a dq:List Pn)(c4:List Nat)(k:scope.kind= .function:=by rfl)(nd:(scope.names.map (·.1)).Nodup:=by decide +kernel)
  (fr:(scope.names.all λy=>y.2 != .free||(X.env.scope.names.lookup y.1==on .cell||X.env.scope.names.lookup y.1==on .free))=Oq:=by rfl) (b:a=dq++c4.map (λj=>X.N.getD j Sw):=by rfl)
  (c:(c4.all λj=>decide (j<X.N.length)&&scope.names.lookup (X.N.getD j Sw)==on .free)=Oq:=by rfl):dr X scope a dq c4:=dr.ofB k nd fr b c
theorem f_{a:List Pn}(h:a.Nodup:=by decide +kernel):(az X a scope cl C fp s H).N.Nodup:=h
theorem ee(i:Nat){x:Pn}(a:X.N.Nodup)(b:X.N[i]?=on x:=by rfl)(c:zv X.env.scope x:=by first|exact Q1 rfl|exact Sj rfl)(d:X.fn x=Oq\/X.env.scope.names.lookup x=on .local:=by first|exact .inl rfl|exact .inr rfl|assumption):PG X (.Name x pos) (dE i):=vx a b c d
theorem fy(i:Nat){x:Pn}{e:Expr}{pos a:TK}(b:X.N.Nodup)(c:PE X e te)(d:X.N[i]?=on x:=by rfl)(h:zv X.env.scope x:=by first|exact Q1 rfl|exact Sj rfl)(hs:Tv e (on (.Name x a)) pos.line X.env=QU Ov:=by rfl)(l:X.fn x=Oq\/X.env.scope.names.lookup x=on .local:=by first|exact .inl rfl|exact .inr rfl|assumption):PS X (.Assign [.Name x a] e pos) (fj te (dE i)):=oZ b d h c hs l
theorem si{Q:List Oy->Prop}(h:∀a,Q [a])(us:List Oy)(b:us.length=1):Q us:=by obtain⟨_,rfl⟩:=ZS b;exact h _
theorem M_{Q:List Oy->Prop}(h:∀a b,Q [a,b])(us:List Oy)(c:us.length=2):Q us:=by obtain⟨_,_,rfl⟩:=ZR c;exact h _ _
theorem r_{Q:List Oy->Prop}(h:∀a b c,Q [a,b,c])(us:List Oy)(d:us.length=3):Q us:=by obtain⟨_,_,_,rfl⟩:=ZQ d;exact h _ _ _
theorem Zh{Q:List Oy->Prop}(h:∀a b c d,Q [a,b,c,d])(us:List Oy)(i:us.length=4):Q us:=by obtain⟨_,_,_,_,rfl⟩:=lU4 i;exact h _ _ _ _
theorem hL{N Q:List Pn}{c:Scope}(a:c.kind= .function:=by rfl)(b:c.isCoroutine=Ov:=by rfl)(g:c.isGenerator=Ov:=by rfl)(d:N.Nodup:=by decide +kernel)(e:N.take Q.length=Q:=by rfl)(f:∀x∈Q,c.names.lookup x=on .local\/c.names.lookup x=on .cell:=by decide +kernel)(h:∀y∈c.names,y.2≠ .free:=by decide +kernel):cp N Q c:=⟨a,b,g,d,e,f,h⟩
end
end L2.Pu
namespace L2
open PySem PySem.Spec PyProof.Rows
section
variable{prog:Pf}{w:Po}{A:PV}{E:Oy->OD->Prop}{s:OD}{K:OX}
variable{X:Cx}
end
namespace Pu
section
variable{X:Cx}{E:St->XK}
end
end Pu
end L2
namespace L2.Pu
open PySem PySem.Spec PyProof.Rows
section
variable{X:Cx}{E:St->XK}{a b:Expr}{pos:TK}{k:Nat}{f C:Ou}{fd:O8}{ps:List Pn}{K:OX}
structure IsC (K:OX) (C:Ou):Prop where
 cl:q9 K C
 ha:SX K (.ref C) "__class__"=on (on (.builtin "object.__class__"))
 hn:specialIn K (.builtin "object.__class__") "__get__"=on (on (.builtin "getset_descriptor.__get__"))
 htk:X0 K (.builtin "object.__class__")=on Oq
 hm:PySem.W.mroIn K C (.type "object")=on Oq
theorem Ni{r c:Nat}{ba:LI}(sh:j_ r c ba):tp r (tp c ba)=ba:=by
 obtain⟨e,g⟩:=sh;refine QG (by simp[t_,e]) λi n d=>?_;have h:ba[i].length=c:=g _ (Pr d);refine QG (by simp[t_,h]) λj o l=>?_;have m:j<c:=by omega
 simp[t_,Op,m,d,l]
variable{p1 p2 pos1 pos2:TK}
noncomputable def S(n:Nat)(f:Nat->Int):Int:=((OB n).map f).sum
theorem M0(f:Nat->Int):S 0 f=0:=rfl
theorem fR(n:Nat)(f:Nat->Int):S (n+1) f=S n f+f n:=by
 unfold S;rw[Rt,Pg,VS];simp
theorem dn{f g:Nat->Int}(h:∀i<n,f i=g i):S n f=S n g:=by
 unfold S;rw[O5 λi c=>h i (OY.mp c)]
theorem sk(n:Nat)(f g:Nat->Int):S n (λi=>f i+g i)=S n f+S n g:=qb f g _
theorem lW(n:Nat):S n (λ_=>0)=0:=nu _
theorem Oj(n:Nat)(f:Nat->Int):S n (λi=>-f i)=-S n f:=by
 induction n with
 |zero=>rfl
 |succ n ih=>rw[fR,fR,ih];omega
theorem AH(n m:Nat)(h:Nat->Nat->Int):S n (λi=>S m (λj=>h i j))=S m (λj=>S n (λi=>h i j)):=by
 induction n with
 |zero=>rw[M0];exact(lW m).symm
 |succ n ih=>
  rw[fR,ih,<-sk];exact dn λj _=>(fR n _).symm
theorem ny{g:Nat->Int}:∀{l L:List Nat},l.Sublist L->L.Nodup->(l.map g).sum=(L.map λx=>if x∈l then g x else 0).sum
 |_,_,.slnil,_=>rfl
 |l,_,.cons a (l₂:=L) h,nd=>by
  have c:=(Pw.mp nd);have ha:a∉l:=λz=>c.1 (h.subset z);rw[OJ,O6,OC ha,ny h c.2,SU]
 |_,_,.cons₂ a (l₁:=l) (l₂:=L) h,nd=>by
  have c:=(Pw.mp nd);rw[OJ,OJ,O6,O6,OE Oz,ny h c.2];congr 2;refine O5 λx e=>?_;have d:x≠a:=λz=>c.1 (z▸e);by_cases q:x∈l
  .rw[OE q,OE (Ot _ q)]
  .rw[OC q,OC λz=>(ON.mp z).elim d q]
theorem md{l:List Nat}(h:l.Sublist (OB n)):(l.map g).sum=S n λx=>if x∈l then g x else 0:=ny h VB
theorem vY{p:Nat->Bool}{g:Nat->Int}:∀l:List Nat,((l.filter p).map g).sum=(l.map λx=>if p x=Oq then g x else 0).sum
 |[]=>rfl
 |x::l=>by
  rw[S5,OJ,O6,<-vY l];by_cases q:p x=Oq
  .rw[OE q,OE q,OJ,O6]
  .rw[OC q,OC q,SU]
noncomputable abbrev nI(l:List Nat):List Int:=l.map λ(i:Nat)=>(i:Int)
noncomputable abbrev nL(l:List Nat):D:= .lst ((nI l).map D.int)
theorem vS:∀xs:List Int,W_ (.int i) (xs.map D.int)=decide (i∈xs)
 |[]=>rfl
 |x::xs=>by
  have ih:=vS (i:=i) xs;unfold W_ at ih⊢;rw[OJ,Tc,ih];show(decide (x=i)||_)=_;rw[Tl];simp only[Bool.or_eq_true,Pq,ON];constructor
  .rintro(h|h)
   .exact .inl h.symm
   .exact .inr h
  .rintro(h|h)
   .exact .inl h.symm
   .exact .inr h
theorem rb:∀xs:List Int,(xs.map D.int).all eE=Oq
 |[]=>rfl
 |_::xs=>rb xs
theorem LD{xs:List Int}{neg:Bool}:L4 neg (.int i) (.lst (xs.map D.int))=on (.bl (if neg then !decide (i∈xs)else decide (i∈xs))):=by
 show(if(eE (.int i)&&(xs.map D.int).all eE)=Oq then _ else _)=_;rw[rb,Bool.and_true,OE (show eE (.int i)=Oq from rfl),vS]
theorem Lp{i:Nat}{l:List Nat}:((i:Int)∈nI l)↔i∈l:=by
 constructor
 .intro h
  obtain⟨j,c,e⟩:=OF.mp h;exact(Int.ofNat.inj e)▸c
 .intro h
  exact OF.mpr ⟨i,h,rfl⟩
theorem ur{i:Nat}{l:List Nat}{neg:Bool}:L4 neg (.int (i:Int)) (nL l)=on (.bl (if neg then !decide (i∈l)else decide (i∈l))):=by
 rw[LD];simp only[Lp]
theorem iA{α:Type}{f:FD}(xs:List α)(u v:α->D)(p:α->Bool)(g:it δ β=on (.ok (xs.map u),β))
  (i:∀x∈xs,∃δ1,tg (u x) (lj nv c4 δ)=on δ1/\tt δ1 β=on (.ok (p x),β)/\(p x=Oq->f δ1 β=on (.ok (v x),β))) (j:xs.length<=OV):ci nv c4 it tg tt (ln f) δ β=on (.ok (.lst ((xs.filter p).map v)),β):=by
 refine qv g ?_ (by rw[Ol];exact OS (WU _ _) j);have gen:∀xs:List α,(∀x∈xs,∃δ1,tg (u x) (lj nv c4 δ)=on δ1/\tt δ1 β=on (.ok (p x),β)/\(p x=Oq->f δ1 β=on (.ok (v x),β)))->nj tg tt (ln f) (xs.map u) (lj nv c4 δ) β=on (.ok ((xs.filter p).map v),β):=by
  intro xs
  induction xs with
  |nil=>intro _;rfl
  |cons x xs ih=>
   intro h;obtain⟨δ1,d,c,l⟩:=h x Oz;have e:=ih λy m=>h y (Ot _ m);rw[OJ,nj,S5];cases q:p x with
   |true=>
    rw[q]at c;simp only[d,M.bind,M.ret,c,ln,l q,e,OE,OJ,Sg,Q6]
   |false=>
    rw[q]at c;simp only[d,M.bind,M.ret,c,e,OW,PF,Q6]
 exact gen xs i
theorem m8:∀(n:Nat) (xs:List D),cj n xs=(OB xs.length).map λ(i:Nat)=>D.tup [.int ((n+i:Nat):Int),xs.getD i .non]
 |n,[]=>rfl
 |n,x::xs=>by
  rw[cj,m8 (n+1) xs,OR,WP,OJ,OA];congr 1;refine O5 λi _=>?_;simp only[TN];rw[show n+1+i=n+(i+1) by omega];rfl
noncomputable abbrev bI(b:LP)(i j:Nat):Int×Int:=(b.getD i []).getD j (0,0)
theorem j_.getD{α:Type}{m:List (List α)}(h:j_ r c m)(d:i<r):m[i]?=on (m.getD i [])/\(m.getD i []).length=c:=by
 obtain⟨row,e,l⟩:=h.at d;have:m.getD i []=row:=by rw[Op,e];rfl
 rw[this];exact⟨e,l⟩
theorem mU{α:Type}{l:List α}{i:Nat}{d:α}(h:i<l.length):l[i]?=on (l.getD i d):=by
 rw[Op,Os h];rfl
theorem HZ{xs:List Int}(h:i<xs.length):ko (.lst (xs.map D.int)) (.int (i:Int))=on (.int (xs.getD i 0)):=bT (by rw[Ox,mU h];rfl)
theorem uk{b:LP}(sh:j_ r c b)(g:i<r)(h:j<c):ko (c9 b) (.int (i:Int))=on (.lst ((b.getD i []).map pD))/\ko (.lst ((b.getD i []).map pD)) (.int (j:Int))=on (pD (bI b i j)):=by
 obtain⟨e,l⟩:=sh.getD g;refine⟨rS (by rw[Ox,e];rfl),bT ?_⟩;rw[Ox,mU (d:=(0,0)) (by omega)];rfl
noncomputable def o7(rs:List Int)(c:List Nat):Int:=(c.map λi=>rs.getD i 0).sum
def eC(cs:List Int)(b:LP)(r:Nat)(c:List Nat)(j:Nat):Int:=cs.getD j 0-S r λi=>if i∈c then 0 else(bI b i j).1
def fc(b:LP)(c:List Nat)(j:Nat):Int:=(c.map λi=>(bI b i j).2).sum
def rK(cs:List Int)(b:LP)(r c:Nat)(d e:List Nat):Int:=S c λj=>if j∈e then eC cs b r d j else fc b d j
def hF(b:LP)(c d:List Nat)(i j:Nat):Int:=(if i∈c/\j∉d then(bI b i j).2 else 0)-(if i∉c/\j∈d then(bI b i j).1 else 0)
theorem Jh{b:LP}{d e:List Nat}(h:d.Sublist (OB r))(g:e.Sublist (OB c)):
  rK cs b r c d e=o7 cs e+S r λi=>S c λj=>hF b d e i j:=by
 unfold rK o7;rw[md g,AH,<-sk];refine dn λj l=>?_;by_cases q:j∈e
 .rw[OE q,OE q]
  unfold eC;rw[Int.sub_eq_add_neg,<-Oj];congr 1;refine dn λi g=>?_;unfold hF;by_cases z:i∈d
  .simp[z,q]
  .simp[z,q]
 .rw[OC q,OC q,SU]
  unfold fc;rw[md h];refine dn λi g=>?_;unfold hF;by_cases z:i∈d
  .simp[z,q]
  .simp[z,q]
end
end L2.Pu
namespace L2.Pu
open PySem PySem.Spec PyProof PyProof.Rows
section
variable{X:Cx}{K:OX}
variable{E:St->XK}{o e:Expr}{apos cpos:TK}
end
end L2.Pu
namespace L2.Pu
open PySem PySem.Spec PyProof.Rows
section
variable{prog:Pf}{w:Po}{A:PV}{E:Oy->OD->Prop}{s:OD}{l:Ou}{xs:Array (Int×Tok)}
theorem BB(f:A.handled=Om)(c:s.heap.IsTuple l (W9 xs))
  (h:∀h' d t',(∀b o,s.heap.get? b=on o->h'.get? b=on o)->Q (.int (preSum (numAt xs) xs.size) t') {s with heap:=h',toks:=d}):
  OK (O7 prog w) A (VI (.builtin "sum") [.ref l]) Q E s:=by
 have a:l<s.heap.objs.size:=by obtain⟨_,e,_⟩:=c;exact O1 e
 refine call_sum_walkG (VL c ⟨_,_,_,_,_,_,numAt xs,rfl,Walks.tuple (A:=A.in1) f _ l (Ps a) (W9 xs),⟨⟨_,OL _ rfl,rfl,rfl⟩,c.at λo e=>Oo _ e⟩,λb hb=>?_,(λ_ _=>intItems_at),λh' d t' g=>?_⟩)
 .show b<(s.heap.push _).objs.size
  rw[Qn];rcases ON.mp hb with rfl|hb
  .exact VG _
  .rcases ON.mp hb with rfl|hb
   .exact R7 a
   .cases hb
 .have:=h h' d t' λb o e=>g b o (λhm=>by
   rcases ON.mp hm with i|hm
   .exact O4 (i▸O1 e) (PH _)
   .cases hm) (Oo _ e)
  simpa[W9]using this
variable{X:Cx}{K:OX}
abbrev HH(K:OX):List V->Hp->VK->Prop:=λxs H Q=>∃(p:Ou) (ns:List Int),xs=[.ref p]/\(fx K H p (ns.map V.int)\/i_ K H p (ns.map V.int))/\Q (.int ns.sum) H
theorem z6(b:X.calm=Oq):cP X (.builtin "sum") (HH X.K):=by
 intro a s f H xs us Q I r h;obtain⟨p,ns,rfl,hq|hq,q⟩:=h
 .exact rj b a s f H _ us Q I r ⟨p,ns,rfl,hq,q⟩
 .obtain⟨u,rfl,g⟩:=iF r
  cases g;obtain⟨its,i,pl,m⟩:=I.tuple hq;have c:=pE i;obtain⟨xs,ex⟩:=c.allInts.items;have d:=c.numsOf;have j:its=(W9 xs).toList:=by rw[<-ex]
  rw[j,nums_intItems]at d;rw[ex]at pl;refine BB (I.ok.hd b) pl λh' n t' k=>?_;have e:preSum (numAt xs) xs.size=ns.sum:=by rw[preSum_eq,Rb (by simp),d]
  rw[e];exact⟨.int ns.sum,H,I.kept k,⟨_,rfl⟩,q⟩
def oE:List D->Option D
 |[.lst xs]=>(dY xs).map λns=> .int ns.sum
 |[.tup xs]=>(dY xs).map λns=> .int ns.sum
 |_=>Om
theorem Lx:dF K (HH K) oE:=λF H β Q ds d vs fr h e k=>by
 unfold oE at e;split at e
 .rename_i xs
  obtain⟨ns,q,rfl⟩:=Uy.mp e;obtain⟨v,rfl,g⟩:=bb.one h;obtain⟨a,ys,rfl,r,b⟩:=c_.sqL g;rw[j2 q]at b;have c:=bb.ints ns b;subst c;exact⟨a,ns,rfl,.inl r,k _ H (To.refl fr) rfl⟩
 .rename_i xs
  obtain⟨ns,q,rfl⟩:=Uy.mp e;obtain⟨v,rfl,g⟩:=bb.one h;obtain⟨a,ys,rfl,r,b⟩:=c_.sqT g;rw[j2 q]at b;have c:=bb.ints ns b;subst c;exact⟨a,ns,rfl,.inr r,k _ H (To.refl fr) rfl⟩
 .cases e
theorem Kr(ns:List Int):oE [.lst (ns.map D.int)]=on (.int ns.sum):=d9 ns
theorem Kq(ns:List Int):oE [.tup (ns.map D.int)]=on (.int ns.sum):=d9 ns
noncomputable def LM:G:=λ_ _=>Om
theorem dL{X:Cx}{st:Qg}{K:OX}{E:St->XK}:PS X st (tG K H LM E):=λ_ _ _ _ _ _ h=>by
 obtain⟨_,_,_,_,_,_,_,e,_⟩:=h;cases e
end
end L2.Pu
namespace L2.Pu
open PySem
noncomputable def dv:Nat->Nat
 |0=>1
 |n+1=>dv n*(n+1)
noncomputable def pr(l:List Nat):Nat:=l.foldr (·*·) 1
theorem K0:pr []=1:=rfl
theorem yL(l m:List Nat):pr (l++m)=pr l*pr m:=by
 induction l with
 |nil=>simp[pr]
 |cons x l ih=>
  show x*pr (l++m)=x*pr l*pr m;rw[ih,Th]
theorem IS{α:Type}{l:List α}{i:Nat}{x:α}(h:l[i]?=on x):l.take (i+1)=l.take i++[x]:=by
 rw[List.take_succ,h];rfl
theorem gX{α:Type}{f:α->Nat}{l:List α}{i:Nat}{x:α}(h:l[i]?=on x):pr ((l.take (i+1)).map f)=pr ((l.take i).map f)*f x:=by
 rw[IS h,Pg,yL];simp[pr]
theorem jy:∀n,0<dv n
 |0=>by decide
 |n+1=>Nat.mul_pos (jy n) (by omega)
theorem uA:∀{n m:Nat},n<=m->dv n<=dv m:=by
 intro n m h
 induction h with
 |refl=>exact OG _
 |step h ih=>exact OS ih (UB _ (by omega))
theorem Oc:dv 40<=2^160:=by decide +kernel
theorem jz(h:n<=40):dv n<=2^160:=OS (uA h) Oc
theorem tL(h:∀x∈l,0<x):0<pr l:=by
 induction l with
 |nil=>decide
 |cons x l ih=>exact Nat.mul_pos (h x Oz) (ih λy a=>h y (Ot _ a))
theorem HL{l:List Nat}(h:∀x∈l,x<=2^m):pr l<=2^(m*l.length):=by
 induction l with
 |nil=>exact Nat.one_le_two_pow
 |cons x l ih=>
  show x*pr l<=_;rw[OR,Nat.mul_succ,Vw,Nat.pow_add];exact Nat.mul_le_mul (h x Oz) (ih λy a=>h y (Ot _ a))
theorem gZ{l:List Nat}(h:x∈l):x<=l.sum:=by
 induction l with
 |nil=>cases h
 |cons y l ih=>
  rw[O6];rcases ON.mp h with rfl|h
  .omega
  .have:=ih h;omega
theorem dX(h:t<=2^m)(hm:m<=999):t<2^1000:=Qo (OS h (Tk (by decide) hm)) (Nat.pow_lt_pow_right (by decide) (by decide))
theorem qi{t n:Nat}(a:t<2^1000)(b:n<2^1000):CI (.int (t:Int)) (.int (n:Int))=on (.int ((t*n:Nat):Int)):=by
 have c:gf (t:Int)=Oq:=OO (by rw[Vh];exact a);have d:gf (n:Int)=Oq:=OO (by rw[Vh];exact b);show(if(gf (t:Int)&&gf (n:Int))=Oq then _ else _)=_;simp only[c,d,Uh,PN];rfl
theorem Ix{t g:Nat}(d:0<g)(a:g<2^1000):xA (.int (t:Int)) (.int (g:Int))=on (.int ((t/g:Nat):Int)):=by
 have b:decide ((0:Int)<(g:Int))=Oq:=OO (by omega);have c:decide (((g:Int)).natAbs.log2<9000)=Oq:=OO (by
  rw[Vh];have:=(Nat.log2_lt (n:=g) (k:=1000) (by omega)).mpr a;omega)
 show(if(decide ((0:Int)<(g:Int))&&decide (((g:Int)).natAbs.log2<9000))=Oq then _ else _)=_;simp only[b,c,Uh,PN];rfl
theorem gl(l:List Nat):(nI l).sum=((l.sum:Nat):Int):=by
 induction l with
 |nil=>rfl
 |cons x l ih=>
  show(x:Int)+(nI l).sum=_;rw[ih,O6,UL]
theorem mz{l:List Nat}{i:Nat}{d:D}(h:((nI l).map D.int)[i]?=on d):∃n,l[i]?=on n/\d= .int (n:Int):=by
 obtain⟨x,a,rfl⟩:=bx h;obtain⟨n,hn,rfl⟩:=bx a;exact⟨n,hn,rfl⟩
theorem tY(l:List Nat):((nI l).map D.int).length=l.length:=by rw[Ol,Ol]
def Sq(l:List Nat)(d:D):Prop:=d=nL l\/d= .tup ((nI l).map D.int)
theorem Sq.seq(h:Sq l d):cY d=on ((nI l).map D.int):=by rcases h with rfl|rfl<;>rfl
theorem ZD(a:0<=i)(b:i<=10^9)(c:0<=j)(d:j<=10^9):nG [.int i,.int j]=on (aZ i (j-i).toNat):=by
 have q:(decide (-(2^62)<=i)&&decide (i<2^62)&&decide (-(2^62)<=j)&&decide (j<2^62))=Oq:=by
  simp only[Pc,Pq];omega
 show(if(decide (-(2^62)<=i)&&decide (i<2^62)&&decide (-(2^62)<=j)&&decide (j<2^62))=Oq then on (aZ i (j-i).toNat)else Om)=_;rw[OE q]
theorem rg2{n:Nat}(h:n<=1000):nG [.int 2,.int ((n:Int)+1)]=on (aZ 2 (n-1)):=by
 rw[ZD (by decide) (by decide) (by omega) (by omega),show((n:Int)+1-2).toNat=n-1 by omega]
end L2.Pu
namespace L2.Pu
theorem AI(h:∀i<n,f i<=g i):S n f<=S n g:=by
 induction n with
 |zero=>exact Xv _
 |succ n ih=>
  rw[fR,fR];have a:=ih λi b=>h i (by omega);have c:=h n (by omega);omega
theorem IC(n:Nat)(f g:Nat->Int):S n (λi=>f i-g i)=S n f-S n g:=by
 induction n with
 |zero=>rfl
 |succ n ih=>rw[fR,fR,fR,ih];omega
noncomputable def fl(x y:Bool)(l h:Int):Int:=(if x=Oq/\y=Ov then h else 0)-(if x=Ov/\y=Oq then l else 0)
def Y8(rs cs:Nat->Int)(lo a:Nat->Nat->Int)(r c:Nat)(X Y:Nat->Bool):Int:=
 S c (λj=>if Y j=Oq then cs j else 0)-S r (λi=>if X i=Oq then rs i else 0)+S r λi=>S c λj=>fl (X i) (Y j) (lo i j) (a i j)
section
variable{rs cs:Nat->Int}{lo hi:Nat->Nat->Int}{r c:Nat}
theorem Ja{g:Nat->Nat->Int}(h:∀i<r,∀j<c,lo i j<=g i j/\g i j<=hi i j)(d:∀i<r,rs i=S c (g i))(e:∀j<c,cs j=S r λi=>g i j)(X Y:Nat->Bool):0<=Y8 rs cs lo hi r c X Y:=by
 have f:S c (λj=>if Y j=Oq then cs j else 0)=S r λi=>S c λj=>if Y j=Oq then g i j else 0:=by
  rw[AH];refine dn λj a=>?_;cases q:Y j with
  |true=>simp only[OE];exact e j a
  |false=>simp only[OW,PF];exact(lW r).symm
 have k:S r (λi=>if X i=Oq then rs i else 0)=S r λi=>S c λj=>if X i=Oq then g i j else 0:=by
  refine dn λi hi=>?_;cases q:X i with
  |true=>simp only[OE];exact d i hi
  |false=>simp only[OW,PF];exact(lW c).symm
 unfold Y8;rw[f,k,<-IC,<-sk];refine Int.le_trans (Int.le_of_eq (lW r).symm) (AI λi b=>?_);rw[<-IC,<-sk];refine Int.le_trans (Int.le_of_eq (lW c).symm) (AI λj a=>?_);have:=h i b j a;unfold fl;cases X i<;>cases Y j<;>simp<;>omega
noncomputable def r8:Nat->List (List Nat)
 |0=>[[]]
 |n+1=>r8 n++(r8 n).map (·++[n])
theorem hG:∀(n:Nat) (l:List Nat),l∈r8 n->l.Sublist (OB n)
 |0,l,h=>by rw[O9.mp h];exact .slnil
 |n+1,l,h=>by
  rw[Rt];rcases Qd.mp h with h|h
  .exact(hG n l h).trans (List.sublist_append_left _ _)
  .obtain⟨a,h',rfl⟩:=OF.mp h
   exact(hG n a h').append (UM _)
theorem wc:∀n:Nat,(r8 n).length=2^n
 |0=>rfl
 |n+1=>by
  rw[r8,OQ,Ol,wc n,Nat.pow_succ];omega
end
section
variable{rs cs:List Int}{b:LP}{r c:Nat}
abbrev Y9(rs cs:List Int)(b:LP)(r c:Nat)(X Y:Nat->Bool):Int:=Y8 (λi=>rs.getD i 0) (λj=>cs.getD j 0) (λi j=>(bI b i j).1) (λi j=>(bI b i j).2) r c X Y
theorem Kw{a d:List Nat}(e:a.Sublist (OB r))(f:d.Sublist (OB c)):rK cs b r c a d-o7 rs a=Y9 rs cs b r c (λi=>decide (i∈a)) (λj=>decide (j∈d)):=by
 rw[Jh e f];unfold o7 Y9 Y8;rw[md f,md e];have h:∀(n:Nat) (l:List Nat) (g:Nat->Int),S n (λj=>if decide (j∈l)=Oq then g j else 0)=S n (λj=>if j∈l then g j else 0):=λn l g=>dn λj _=>by simp
 rw[h,h];have k:(S r λi=>S c λj=>hF b a d i j)=S r λi=>S c λj=>fl (decide (i∈a)) (decide (j∈d)) (bI b i j).1 (bI b i j).2:=by
  refine dn λi _=>dn λj _=>?_;unfold hF fl;simp
 simp only[k];omega
def tX(cs:List Int)(b:LP)(r c:Nat)(a:List Nat):List Nat:=(OB c).filter λj=>decide (eC cs b r a j<fc b a j)
end
end L2.Pu
namespace L2.Pu
open PySem PySem.W
section
variable{tb:String->Option Builtin}{p:Pf}{w:Po}{n₀:Nat}{ann:Option Oy}{env:VN}{q:TK}
theorem j9(k:Nat){b:List Qg}(h:segRun tb p w n₀ ann 1 n s (piecesOf (b.take k) env c pos [Xd q])=on (.next,s',c,p'))
  (a:topRun tb p w n₀ ann N s' (restOf (b.drop k) env c p' [Xd q])=on r):topRun tb p w n₀ ann (n+N) s (restOf b env c pos [Xd q])=on r:=by
 have:=piece_app h a;rwa[Rm]at this
theorem DJ(e:b=[])(k:topRun tb p w n₀ ann N s ⟨doneF .next,c,pos,[Xd q]⟩=on r):topRun tb p w n₀ ann N s (restOf b env c pos [Xd q])=on r:=by
 subst e;exact piece_nil k
end
end L2.Pu
namespace L2.Hs
open PySem PySem.SetTable
def Rs(xs:Array Nat):Prop:=∀i k x y:Nat,i<k->xs[i]?=on x->xs[k]?=on y->x<y
theorem n9{xs:Array Nat}(r:Rs xs):∀(fuel lo c:Nat),lo<=c->c<=xs.size->c-lo<=fuel->(∀i x,i<lo->xs[i]?=on x->x<j)->(∀i x,c<=i->xs[i]?=on x->j<=x)->
  below.go xs j fuel lo c<=xs.size/\(∀i x,i<below.go xs j fuel lo c->xs[i]?=on x->x<j)/\∀i x,below.go xs j fuel lo c<=i->xs[i]?=on x->j<=x
 |0,lo,c,h1,h2,h3,a,b=>by
  have:lo=c:=by omega
  subst this;exact⟨h2,a,b⟩
 |fuel+1,lo,c,h1,h2,h3,a,b=>by
  unfold below.go;by_cases q:lo<c
  .rw[OE q]
   simp only;have hm:(lo+c)/2<xs.size:=by omega
   have e:xs[(lo+c)/2]?=on (xs.getD ((lo+c)/2) j):=by simp[Rx,hm]
   by_cases z:xs.getD ((lo+c)/2) j<j
   .rw[OE z]
    refine n9 r fuel _ _ (by omega) h2 (by omega) (λi x f d=>?_) b;by_cases w:i=(lo+c)/2
    .subst w
     rw[e]at d;cases d;exact z
    .exact TH (r i ((lo+c)/2) x _ (by omega) d e) z
   .rw[OC z]
    refine n9 r fuel _ _ (by omega) (by omega) (by omega) a (λi x f d=>?_);by_cases w:i=(lo+c)/2
    .subst w
     rw[e]at d;cases d;omega
    .have:=r ((lo+c)/2) i _ x (by omega) e d
     omega
  .rw[OC q]
   have:lo=c:=by omega
   subst this;exact⟨h2,a,b⟩
theorem iB{xs:Array Nat}(r:Rs xs):below xs j<=xs.size/\(∀i x,i<below xs j->xs[i]?=on x->x<j)/\∀i x,below xs j<=i->xs[i]?=on x->j<=x:=
 n9 r xs.size 0 xs.size (PX _) (OG _) (by omega) (λi x h=>O4 h (Q7 i)) (λi x h e=>by
  have:=(Px.mp e).1;omega)
theorem EC(r:Rs xs)(h:xs[i]?=on j):below xs j=i:=by
 obtain⟨c,a,b⟩:=iB (j:=j) r;rcases R8 (below xs j) i with q|q|q
 .have d:=(Px.mp h).1
  have e:xs[below xs j]?=on xs[below xs j]:=getElem?_pos xs _ (by omega);have:=b _ _ (OG _) e;have:=r _ _ _ _ q e h;omega
 .exact q
 .have:=a _ _ q h
  omega
theorem qM{t:PQ}(r:Rs t.place)(h:t.place[i]?=on j):t.slot j= .live i:=by
 unfold slot;simp only[EC r h,h,Ym,PN]
theorem wE{t:PQ}(d:t.dummies=#[])(h:∀i:Nat,t.place[i]?≠on j):t.slot j= .empty:=by
 unfold slot;have a:(t.place[below t.place j]?==on j)=Ov:=by
  rw[WE];exact h _
 have b:has t.dummies j=Ov:=by unfold has;rw[d];rfl
 simp only[a,b,OW,PF]
noncomputable def fh(t:PQ):Nat->Probe->Probe
 |0,p=>p
 |n+1,p=>fh t n (t.advance p)
theorem nV(t:PQ):∀(n:Nat) (p:Probe),fh t (n+1) p=t.advance (fh t n p)
 |0,p=>rfl
 |n+1,p=>by
  show fh t (n+1) (t.advance p)=t.advance (fh t n (t.advance p));exact nV t n (t.advance p)
theorem mF(t:PQ):∀(n m:Nat) (p:Probe),fh t (n+m) p=fh t m (fh t n p)
 |0,m,p=>by rw[QN];rfl
 |n+1,m,p=>by
  rw[show n+1+m=(n+m)+1 by omega];exact mF t n m (t.advance p)
structure Pv (t:PQ) (p:Probe):Prop where
 j:p.j+p.more<=t.mask
 more:p.more<=9
 i:p.i<=t.mask
 pt:p.perturb<2^64
 du:p.dummy=Om
theorem qS{mask i:Nat}(h:i<=mask):i<=runEnd mask i/\runEnd mask i<=mask/\runEnd mask i-i<=9:=by
 unfold runEnd;by_cases q:i+9<=mask
 .rw[OE q];omega
 .rw[OC q];omega
noncomputable def ro(t:PQ)(i pt:Nat):Probe:={j:=i,more:=runEnd t.mask i-i,i,perturb:=pt,dummy:=Om}
theorem pW{t:PQ}(h:i<=t.mask)(a:pt<2^64):Pv t (ro t i pt):=by
 obtain⟨c,d,b⟩:=qS h;refine⟨?_,b,h,a,rfl⟩;show i+(runEnd t.mask i-i)<=t.mask;omega
theorem qJ(t:PQ)(h:Int):t.probeStart h=ro t (bits h % (t.mask+1)) (bits h):=rfl
theorem mT(h:Int):bits h<2^64:=by
 unfold bits;have:=TX h (show(0:Int)<2^64 by decide);have:=Tq h (show(2^64:Int)≠0 by decide);omega
theorem nA(t:PQ)(h:Int):Pv t (t.probeStart h):=by
 rw[qJ];exact pW (by have:=Wj (bits h) (show t.mask+1>0 by omega);omega) (mT h)
noncomputable abbrev L3(mask i pt:Nat):Nat:=(i*5+1+pt/32) % (mask+1)
theorem AG{t:PQ}{p:Probe}(h:0<p.more):t.advance p={p with j:=p.j+1,more:=p.more-1}:=by
 unfold advance;rw[OE h]
theorem wg{t:PQ}{p:Probe}(h:p.more=0)(hd:p.dummy=Om):t.advance p=ro t (L3 t.mask p.i p.perturb) (p.perturb/32):=by
 unfold advance;rw[OC (by omega)];unfold leap ro;simp only[hd]
theorem w6(mask i pt:Nat):L3 mask i pt<=mask:=by
 have:=Wj (i*5+1+pt/32) (show mask+1>0 by omega);unfold L3;omega
theorem AF{t:PQ}(v:Pv t p):Pv t (t.advance p):=by
 by_cases q:0<p.more
 .rw[AG q]
  exact⟨by have:=v.j;show p.j+1+(p.more-1)<=t.mask;omega,by have:=v.more;show p.more-1<=9;omega,v.i,v.pt,v.du⟩
 .rw[wg (by omega) v.du]
  exact pW (w6 _ _ _) (Qo (VY _ _) v.pt)
theorem lB:∀(n:Nat) {p:Probe},Pv t p->Pv t (fh t n p)
 |0,_,v=>v
 |n+1,_,v=>lB n (AF v)
theorem qr:∀(k:Nat) {p:Probe},Pv t p->k<=p.more->fh t k p={p with j:=p.j+k,more:=p.more-k}
 |0,p,v,h=>by cases p;rfl
 |k+1,p,v,h=>by
  rw[nV,qr k v (by omega)];rw[AG (show 0<p.more-k by omega)];simp only[Probe.mk.injEq,and_true,true_and];omega
theorem nW{t:PQ}{p:Probe}(v:Pv t p):fh t (p.more+1) p=ro t (L3 t.mask p.i p.perturb) (p.perturb/32):=by
 rw[nV,qr _ v (OG _)];exact wg (UJ _) v.du
def bY(mask:Nat):Nat->Nat×Nat->Nat×Nat
 |0,x=>x
 |k+1,x=>bY mask k (L3 mask x.1 x.2,x.2/32)
theorem iN(mask:Nat):∀(k:Nat) (x:Nat×Nat),bY mask (k+1) x=(L3 mask (bY mask k x).1 (bY mask k x).2,(bY mask k x).2/32)
 |0,x=>rfl
 |k+1,x=>iN mask k _
theorem ul{t:PQ}:∀(k:Nat) {p:Probe},Pv t p->∃n,n<=10*(k+1)/\fh t n p=ro t (bY t.mask (k+1) (p.i,p.perturb)).1 (bY t.mask (k+1) (p.i,p.perturb)).2
 |0,p,v=>⟨p.more+1,by have:=v.more;omega,nW v⟩
 |k+1,p,v=>by
  obtain⟨n,hn,e⟩:=ul k v;have a:=lB n v;rw[e]at a;refine⟨n+((ro t (bY t.mask (k+1) (p.i,p.perturb)).1 (bY t.mask (k+1) (p.i,p.perturb)).2).more+1),by have:=a.more;omega,?_⟩;rw[mF,e,nW a,iN t.mask (k+1)];rfl
def Mk(mask:Nat):Prop:=mask=7\/mask=31\/mask=127
noncomputable def L1(mask:Nat):Nat->Nat->Nat
 |0,i=>i
 |k+1,i=>L1 mask k ((i*5+1) % (mask+1))
theorem mw(mask:Nat):∀(a b i:Nat),L1 mask (a+b) i=L1 mask b (L1 mask a i)
 |0,b,i=>by rw[QN];rfl
 |a+1,b,i=>by
  rw[show a+1+b=(a+b)+1 by omega];exact mw mask a b _
def HM(mask:Nat):Bool:=(L1 mask (mask+1) 0==0)&&(OB (mask+1)).all λj=>(OB (mask+1)).any λk=>L1 mask k 0==j
theorem La{mask:Nat}(h:Mk mask):HM mask=Oq:=by
 rcases h with rfl|rfl|rfl<;>decide +kernel
theorem vA{mask i j:Nat}(h:Mk mask)(l:i<=mask)(m:j<=mask):∃k,k<=mask/\L1 mask k i=j:=by
 have o:=La h;unfold HM at o;rw[Pc,Sy,Sf]at o;obtain⟨g,ha⟩:=o;obtain⟨a,e,c⟩:=VA.mp (ha i (OY.mpr (by omega)));obtain⟨b,f,d⟩:=VA.mp (ha j (OY.mpr (by omega)));rw[Sy]at c d;have:=OY.mp e;have:=OY.mp f;by_cases q:a<=b
 .refine⟨b-a,by omega,?_⟩
  rw[<-c,<-mw,show a+(b-a)=b by omega,d]
 .refine⟨b+(mask+1)-a,by omega,?_⟩
  rw[<-c,<-mw,show a+(b+(mask+1)-a)=(mask+1)+b by omega,mw,g,d]
theorem kS(mask:Nat):∀(k i:Nat),bY mask k (i,0)=(L1 mask k i,0)
 |0,i=>rfl
 |k+1,i=>by
  show bY mask k (L3 mask i 0,0/32)=_;rw[show(0/32:Nat)=0 from rfl,kS mask k];rfl
theorem nF(mask:Nat):∀(a b:Nat) (x:Nat×Nat),bY mask (a+b) x=bY mask b (bY mask a x)
 |0,b,x=>by rw[QN];rfl
 |a+1,b,x=>by
  rw[show a+1+b=(a+b)+1 by omega];exact nF mask a b _
theorem nE(mask:Nat):∀(k:Nat) (x:Nat×Nat),(bY mask k x).2=x.2/32^k
 |0,x=>by simp[bY]
 |k+1,x=>by
  rw[iN,nE mask k x,WV,Nat.pow_succ]
theorem vg(mask:Nat):∀(k:Nat) (x:Nat×Nat),x.1<=mask->(bY mask k x).1<=mask
 |0,x,h=>h
 |k+1,x,h=>by rw[iN];exact w6 _ _ _
theorem Oh{t:PQ}(h:Mk t.mask)(v:Pv t p)(a:j<=t.mask):∃n,n<10*turns t.mask/\(fh t n p).j=j:=by
 have z:(bY t.mask 13 (p.i,p.perturb)).2=0:=by
  rw[nE];exact Nat.div_eq_of_lt (O3 v.pt (by decide))
 have l:=vg t.mask 13 (p.i,p.perturb) v.i;obtain⟨k,c,e⟩:=vA h l a;obtain⟨n,hn,b⟩:=ul (12+k) v;refine⟨n,by unfold turns;omega,?_⟩;rw[b];show(bY t.mask (12+k+1) (p.i,p.perturb)).1=j;rw[show 12+k+1=13+k by omega,nF,show bY t.mask 13 (p.i,p.perturb)=((bY t.mask 13 (p.i,p.perturb)).1,0)from RW rfl z,kS];exact e
abbrev Lv(t:PQ)(j:Nat):Prop:=∃k:Nat,t.place[k]?=on j
structure Tb (t:PQ) (hs:List Int):Prop where
 km:Mk t.mask
 sz:t.place.size=hs.length
 rs:Rs t.place
 le:∀i j:Nat,t.place[i]?=on j->j<=t.mask
 du:t.dummies=#[]
 nf:t.place.size*5<t.mask*3
 rch:∀(i:Nat) (h:Int) (j:Nat),hs[i]?=on h->t.place[i]?=on j->∃n,(fh t n (t.probeStart h)).j=j/\∀m<n,Lv t (fh t m (t.probeStart h)).j
theorem Mk.odd(h:Mk m):m % 2=1/\7<=m/\m<=127:=by
 rcases h with rfl|rfl|rfl<;>decide
theorem gap{xs:Array Nat}(r:Rs xs):∀n,n<=xs.size->(∀i:Nat,i<n->xs[i]?=on i)\/∃j,j<n/\∀i:Nat,xs[i]?≠on j
 |0,_=> .inl λi h=>O4 h (Q7 i)
 |n+1,h=>by
  rcases gap r n (by omega)with q|⟨j,c,b⟩
  .have e:xs[n]?=on xs[n]:=getElem?_pos xs n (by omega)
   by_cases z:xs[n]=n
   .refine .inl λi d=>?_
    by_cases w:i=n
    .subst w;rw[e,z]
    .exact q i (by omega)
   .have lt:n<=xs[n]:=by
     cases n with
     |zero=>omega
     |succ m=>
      have:=r m (m+1) _ _ (by omega) (q m (by omega)) e;omega
    refine .inr ⟨n,by omega,λi a=>?_⟩;rcases R8 i n with w|w|w
    .rw[q i w]at a;cases a;omega
    .subst w;rw[e]at a;exact z (Pb a)
    .have:=r n i _ _ w e a
     omega
  .exact .inr ⟨j,by omega,b⟩
theorem LJ{xs:Array Nat}(r:Rs xs):∃j,j<=xs.size/\∀i:Nat,xs[i]?≠on j:=by
 rcases gap r xs.size (OG _)with q|⟨j,c,a⟩
 .refine⟨xs.size,OG _,λi e=>?_⟩
  have b:=(Px.mp e).1;rw[q i b]at e;cases e;omega
 .exact⟨j,by omega,a⟩
theorem Iu{t:PQ}(r:Rs t.place)(d:t.dummies=#[]):∀(fuel:Nat) (p:Probe) (e:Nat),Pv t p->e<fuel->¬Lv t (fh t e p).j->
  ∃m,m<=e/\(∀a<m,∃i,t.place[i]?=on (fh t a p).j/\hashAt i≠h)/\
   ((¬Lv t (fh t m p).j/\probe.go t hashAt h fuel p=on (.empty (fh t m p).j Om))\/∃i,t.place[i]?=on (fh t m p).j/\hashAt i=h/\probe.go t hashAt h fuel p=on (.candidate (fh t m p).j i (fh t (m+1) p)))
 |0,_,_,_,h,_=>O4 h (Q7 _)
 |fuel+1,p,e,v,hf,he=>by
  unfold probe.go;by_cases q:Lv t p.j
  .obtain⟨i,b⟩:=q
   rw[qM r b];simp only;by_cases z:hashAt i=h
   .refine⟨0,PX _,λa hm=>O4 hm (Q7 _),.inr ⟨i,b,z,?_⟩⟩
    rw[OE (by rw[Sy];exact z)];rfl
   .rw[OC (by rw[Sy];exact z)]
    cases e with
    |zero=>exact O4 ⟨i,b⟩ he
    |succ e=>
     obtain⟨m,hm,ha,c⟩:=Iu r d fuel (t.advance p) e (AF v) (by omega) he;refine⟨m+1,by omega,λa f=>?_,c⟩;cases a with
     |zero=>exact⟨i,b,z⟩
     |succ a=>exact ha a (by omega)
  .rw[wE d (λi b=>q ⟨i,b⟩)]
   refine⟨0,PX _,λa hm=>O4 hm (Q7 _),.inl ⟨q,?_⟩⟩;simp only[v.du];rfl
theorem Tb.free{t:PQ}(T:Tb t hs)(v:Pv t p):∃e,e<10*turns t.mask/\¬Lv t (fh t e p).j:=by
 obtain⟨j,f,a⟩:=LJ T.rs;have:=T.nf;have:=T.km.odd;obtain⟨e,b,c⟩:=Oh T.km v (show j<=t.mask by omega);exact⟨e,b,λ⟨k,d⟩=>a k (by rw[<-c];exact d)⟩
theorem zL{α:Type}{xs:Array α}{p:Nat}{x:α}(b:p<=xs.size)(i:Nat):(insertAt xs p x)[i]?=if i<p then xs[i]? else if i=p then on x else xs[i-1]?:=by
 unfold insertAt;rw[Array.getElem?_append];have a:((xs.extract 0 p).push x).size=p+1:=by simp;omega
 rw[a];by_cases q:i<p
 .rw[OE (by omega),OE q,Xg,Xq]
  rw[OC (by omega),WA];simp;omega
 .by_cases z:i=p
  .subst z
   rw[OE (by omega),OC (by omega),OE rfl,Xg,Xq];rw[OE (by omega)]
  .rw[OC (by omega),OC q,OC z,WA]
   by_cases w:i-1<xs.size
   .rw[OE (by omega)]
    congr 1;omega
   .rw[OC (by omega),Q9 (by omega)]
theorem fN{α:Type}{xs:Array α}{p:Nat}{x:α}(a:p<=xs.size):(insertAt xs p x).size=xs.size+1:=by
 unfold insertAt;simp;omega
theorem Tb.put{t:PQ}{hs:List Int}(T:Tb t hs)(C:¬Lv t j)(hn:(fh t n (t.probeStart h)).j=j)(ha:∀m<n,Lv t (fh t m (t.probeStart h)).j)(nf:(t.place.size+1)*5<t.mask*3):
  (t.put j).1.dummies=#[]/\(t.put j).1.mask=t.mask/\(t.put j).1.place.size=t.place.size+1/\(t.put j).2<=t.place.size/\Tb (t.put j).1 (hs.take (t.put j).2++h::hs.drop (t.put j).2):=by
 obtain⟨b1,b2,b3⟩:=iB (j:=j) T.rs;have hd:has t.dummies j=Ov:=by unfold has;rw[T.du];rfl
 have A:(t.put j).1.dummies=#[]:=by
  show(if has t.dummies j=Oq then _ else t.dummies)=#[];rw[hd,OC OH,T.du]
 have ep:(t.put j).1.place=insertAt t.place (below t.place j) j:=rfl;have g:=λi=>zL (x:=j) b1 i;have B:∀x,Lv t x->Lv (t.put j).1 x:=λx ⟨k,l⟩=>by
  by_cases q:k<below t.place j
  .exact⟨k,by rw[ep,g,OE q];exact l⟩
  .exact⟨k+1,by rw[ep,g,OC (by omega),OC (by omega)];exact l⟩
 have it:∀m p,fh (t.put j).1 m p=fh t m p:=λm=>by
  induction m with
  |zero=>intro p;rfl
  |succ m ih=>intro p;exact ih (t.advance p)
 refine⟨A,rfl,by rw[ep,fN b1],b1,⟨T.km,?_,?_,?_,A,?_,?_⟩⟩
 .rw[ep,fN b1,T.sz]
  have:(t.put j).2<=hs.length:=by rw[<-T.sz];exact b1
  simp;omega
 .intro i k x y r c e
  rw[ep,g]at c e;have F:∀k,t.place[k]?≠on j:=λk l=>C ⟨k,l⟩;by_cases q1:i<below t.place j
  .rw[OE q1]at c
   by_cases q2:k<below t.place j
   .rw[OE q2]at e
    exact T.rs i k x y r c e
   .rw[OC q2]at e
    by_cases q3:k=below t.place j
    .rw[OE q3]at e;cases e
     exact b2 i x q1 c
    .rw[OC q3]at e
     exact T.rs i (k-1) x y (by omega) c e
  .rw[OC q1]at c
   rw[OC (by omega),OC (by omega)]at e;by_cases q3:i=below t.place j
   .rw[OE q3]at c;cases c
    have L:=b3 (k-1) y (by omega) e;have:y≠j:=λz=>F (k-1) (by rw[e,z]);omega
   .rw[OC q3]at c
    exact T.rs (i-1) (k-1) x y (by omega) c e
 .intro i x c
  rw[ep,g]at c;by_cases q1:i<below t.place j
  .rw[OE q1]at c;exact T.le i x c
  .rw[OC q1]at c
   by_cases q3:i=below t.place j
   .rw[OE q3]at c;cases c
    have v:=lB n (nA t h);have:=v.j;show j<=t.mask;omega
   .rw[OC q3]at c;exact T.le _ x c
 .rw[ep,fN b1];exact nf
 .intro i h' x H c
  have N:(t.put j).2<=hs.length:=by rw[<-T.sz];exact b1
  have u:(t.put j).2=below t.place j:=rfl;rw[ep,g]at c;have d:(if i<below t.place j then hs[i]? else if i=below t.place j then on h else hs[i-1]?)=on h':=by
   rw[<-H,u];by_cases q1:i<below t.place j
   .rw[OE q1,Sv (by rw[Qi];omega),Wt q1]
   .rw[OC q1,QJ (by rw[Qi];omega),Qi,Nat.min_eq_left (by omega)]
    by_cases q3:i=below t.place j
    .rw[OE q3,q3,UJ];rfl
    .rw[OC q3,show i-below t.place j=(i-1-below t.place j)+1 by omega,WC,TR]
     congr 1;omega
  have f:∀o,hs[o]?=on h'->t.place[o]?=on x->∃n,(fh (t.put j).1 n ((t.put j).1.probeStart h')).j=x/\∀m<n,Lv (t.put j).1 (fh (t.put j).1 m ((t.put j).1.probeStart h')).j:=λo a b=>by
   obtain⟨I,J,u⟩:=T.rch o h' x a b;refine⟨I,by rw[it];exact J,λm hm=>?_⟩;rw[it];exact B _ (u m hm)
  by_cases q1:i<below t.place j
  .rw[OE q1]at c d
   exact f i d c
  .rw[OC q1]at c d
   by_cases q3:i=below t.place j
   .rw[OE q3]at c d
    cases c;cases d;refine⟨n,by rw[it];exact hn,λm hm=>?_⟩;rw[it];exact B _ (ha m hm)
   .rw[OC q3]at c d
    exact f (i-1) d c
theorem um{t u:PQ}(h:t.mask=u.mask):∀(n:Nat) (p:Probe),fh t n p=fh u n p
 |0,p=>rfl
 |n+1,p=>by
  show fh t n (t.advance p)=fh u n (u.advance p);have:t.advance p=u.advance p:=by unfold advance;rw[h]
  rw[this];exact um h n _
theorem wC{t u:PQ}(h:t.mask=u.mask)(x:Int):t.probeStart x=u.probeStart x:=by unfold probeStart;rw[h]
noncomputable abbrev tm(mask:Nat):PQ:={mask,place:=#[],dummies:=#[],finger:=0,led:=Oq,moves:=0,plain:=Oq}
noncomputable abbrev fr(owner:Array (Option Nat))(j:Nat):Bool:=(owner.getD j (on 0)).isNone
theorem vX{mask:Nat}{owner:Array (Option Nat)}:∀(fuel i pt:Nat),i<=mask->pt<2^64->(∃b,b<fuel/\fr owner (bY mask b (i,pt)).1=Oq)->
  ∃n,layClean.free mask owner fuel i pt=on (fh (tm mask) n (ro (tm mask) i pt)).j/\fr owner (fh (tm mask) n (ro (tm mask) i pt)).j=Oq/\∀m<n,fr owner (fh (tm mask) m (ro (tm mask) i pt)).j=Ov
 |0,_,_,_,_,⟨b,h,_⟩=>O4 h (Q7 b)
 |fuel+1,i,pt,hi,hp,⟨b,hb,hf⟩=>by
  have v:=pW (t:=tm mask) hi hp;obtain⟨r1,B,C⟩:=qS hi;have f:(ro (tm mask) i pt).more=runEnd mask i-i:=rfl;have d:∀k,k<=runEnd mask i-i->(fh (tm mask) k (ro (tm mask) i pt)).j=i+k:=λk c=>by
   rw[qr k v c];rfl
  unfold layClean.free;split
  .rename_i k c
   obtain⟨g,l,o⟩:=List.find?_range_eq_some.mp c;have:=OY.mp l;refine⟨k,by rw[d k (by omega)],by rw[d k (by omega)];exact g,λm hm=>?_⟩;rw[d m (by omega)];have:=o m hm;simpa using this
  .rename_i c
   have hn:∀k,k<=runEnd mask i-i->fr owner (i+k)=Ov:=λk p=>by
    have:=List.find?_range_eq_none.mp c k (by omega);simpa using this
   cases b with
   |zero=>
    have r:=hn 0 (by omega);exact O4 hf (by rw[show(bY mask 0 (i,pt)).1=i+0 from rfl,r];exact OH)
   |succ b=>
    obtain⟨n,u,y,A⟩:=vX fuel (L3 mask i pt) (pt/32) (w6 _ _ _) (Qo (VY _ _) hp) ⟨b,by omega,hf⟩;have a:∀m,fh (tm mask) (runEnd mask i-i+1+m) (ro (tm mask) i pt)=fh (tm mask) m (ro (tm mask) (L3 mask i pt) (pt/32)):=λm=>by
     rw[mF,<-f,nW v];rfl
    refine⟨runEnd mask i-i+1+n,by rw[a];exact u,by rw[a];exact y,λm hm=>?_⟩;by_cases q:m<=runEnd mask i-i
    .rw[d m q];exact hn m q
    .obtain⟨e,rfl⟩:∃e,m=runEnd mask i-i+1+e:=⟨m-(runEnd mask i-i+1),by omega⟩
     rw[a];exact A e (by omega)
structure Ow (mask:Nat) (owner:Array (Option Nat)) (hs:List Int):Prop where
 sz:owner.size=mask+1
 lt:∀j k:Nat,owner[j]?=on (on k)->k<hs.length
 un:∀j j' k:Nat,owner[j]?=on (on k)->owner[j']?=on (on k)->j=j'
 cn:owner.toList.countP (·.isSome)=hs.length
 ex:∀(k:Nat) (h:Int),hs[k]?=on h->∃j n:Nat,owner[j]?=on (on k)/\(fh (tm mask) n ((tm mask).probeStart h)).j=j/\∀m<n,∃k':Nat,owner[(fh (tm mask) m ((tm mask).probeStart h)).j]?=on (on k')
theorem xy{mask:Nat}{owner:Array (Option Nat)}(hs:owner.size=mask+1){j:Nat}(b:j<=mask):(fr owner j=Oq↔owner[j]?=on Om)/\(fr owner j=Ov↔∃k:Nat,owner[j]?=on (on k)):=by
 have e:owner[j]?=on owner[j]:=getElem?_pos owner j (by omega);have a:owner.getD j (on 0)=owner[j]:=by simp[Rx,show j<owner.size by omega]
 unfold fr;rw[a,e];cases owner[j]<;>simp
theorem Ow.step{mask:Nat}{owner:Array (Option Nat)}{hs:List Int}(O:Ow mask owner hs)(h:Int)(hm:Mk mask)(W:hs.length<=mask):
  ∃j,layClean.free mask owner (turns mask) (bits h % (mask+1)) (bits h)=on j/\Ow mask (owner.setIfInBounds j (on hs.length)) (hs++[h]):=by
 have u:bits h % (mask+1)<=mask:=by have:=Wj (bits h) (show mask+1>0 by omega);omega
 have⟨v,h1,h2⟩:∃v,v<=mask/\fr owner v=Oq:=by
  refine Ri λz=>?_;have all:∀a∈owner.toList,Option.isSome a=Oq:=λa ha=>by
   obtain⟨i,g,e⟩:=U6 ha;have L:i<owner.size:=by simpa using g
   have N:fr owner i=Ov:=by
    cases q:fr owner i with
    |false=>rfl
    |true=>exact O4 ⟨i,by have:=O.sz;omega,q⟩ z
   obtain⟨k,A⟩:=(xy O.sz (show i<=mask by have:=O.sz;omega)).2.mp N;have:owner[i]?=on a:=by rw[<-RX,Os g,e]
   rw[this]at A;cases A;rfl
  have:=List.countP_eq_length.mpr all;rw[O.cn]at this;have:=O.sz;simp at*;omega
 have z:(bY mask 13 (bits h % (mask+1),bits h)).2=0:=by
  rw[nE];exact Nat.div_eq_of_lt (O3 (mT h) (by decide))
 have l:=vg mask 13 (bits h % (mask+1),bits h) u;obtain⟨k,A,e⟩:=vA hm l h1;have Q:fr owner (bY mask (13+k) (bits h % (mask+1),bits h)).1=Oq:=by
  rw[nF,show bY mask 13 (bits h % (mask+1),bits h)=((bY mask 13 (bits h % (mask+1),bits h)).1,0)from RW rfl z,kS];show fr owner (L1 mask k _)=Oq;rw[e];exact h2
 obtain⟨n,F,H,R⟩:=vX (owner:=owner) (turns mask) (bits h % (mask+1)) (bits h) u (mT h) ⟨13+k,by unfold turns;omega,Q⟩;have I:∀m,(fh (tm mask) m (ro (tm mask) (bits h % (mask+1)) (bits h))).j<=mask:=λm=>by
  have:=(lB m (pW (t:=tm mask) u (mT h))).j;show _<=(tm mask).mask;omega
 generalize J:(fh (tm mask) n (ro (tm mask) (bits h % (mask+1)) (bits h))).j=j at F H;have T:j<=mask:=by rw[<-J];exact I n
 have o:owner[j]?=on Om:=(xy O.sz T).1.mp H;have p:j<owner.size:=by have:=O.sz;omega
 have set:∀x:Nat,(owner.setIfInBounds j (on hs.length))[x]?=if j=x then on (on hs.length)else owner[x]?:=λx=>by
  rw[Array.getElem?_setIfInBounds];by_cases q:j=x
  .rw[OE q,OE q,OE p]
  .rw[OC q,OC q]
 refine⟨j,F,⟨by rw[Array.size_setIfInBounds];exact O.sz,λx k c=>?_,λx y k c f=>?_,?_,λk h' d=>?_⟩⟩
 .rw[set]at c
  rw[OQ];by_cases q:j=x
  .rw[OE q]at c;cases c;simp
  .rw[OC q]at c
   have:=O.lt x k c;omega
 .rw[set]at c f
  by_cases q:j=x
  .rw[OE q]at c;cases c
   by_cases r:j=y
   .omega
   .rw[OC r]at f
    exact O4 (O.lt y _ f) (PH _)
  .rw[OC q]at c
   by_cases r:j=y
   .rw[OE r]at f;cases f
    exact O4 (O.lt x _ c) (PH _)
   .rw[OC r]at f
    exact O.un x y k c f
 .rw[Array.toList_setIfInBounds,List.countP_set (by simpa using p),O.cn]
  have:owner.toList[j]'(by simpa using p)=Om:=by
   have e:=getElem?_pos owner j p;rw[o]at e;rw[Rq];exact(Pb e).symm
  rw[this];simp
 .by_cases q:k<hs.length
  .rw[Sv q]at d
   obtain⟨x,U,a1,a2,a3⟩:=O.ex k h' d;refine⟨x,U,?_,a2,λm hm=>?_⟩
   .rw[set,OC (λw=>by subst w;rw[o]at a1;cases a1)];exact a1
   .obtain⟨B,b⟩:=a3 m hm
    exact⟨B,by rw[set,OC (λw=>by rw[<-w,o]at b;cases b)];exact b⟩
  .have C:=(OI.mp d).1
   rw[OQ,PL]at C;have:k=hs.length:=by omega
   subst this;rw[QJ (OG _),UJ]at d;cases d;refine⟨j,n,by rw[set,OE rfl],J,λm hm=>?_⟩;obtain⟨B,b⟩:=(xy O.sz (I m)).2.mp (R m hm);exact⟨B,by rw[qJ,set,OC (λw=>by rw[<-w,o]at b;cases b)];exact b⟩
theorem Ow.nil(mask:Nat):Ow mask (Array.replicate (mask+1) Om) []:=by
 have g:∀x:Nat,(Array.replicate (mask+1) (Om:Option Nat))[x]?=if x<mask+1 then on Om else Om:=λx=>Array.getElem?_replicate;refine⟨by simp,λj k h=>?_,λj b k h=>?_,by simp,λk h a=>by simp at a⟩
 .rw[g]at h
  split at h<;>cases h
 .rw[g]at h
  split at h<;>cases h
theorem ui{mask:Nat}(hm:Mk mask):∀(l:List Int) (owner:Array (Option Nat)) (hs:List Int),Ow mask owner hs->hs.length+l.length<=mask+1->∃a,l.foldl (λ(acc:Option (Array (Option Nat)×Nat)) h=>do
   let (owner,k) <-acc
   let j <-layClean.free mask owner (turns mask) (bits h % (mask+1)) (bits h)
   QU (owner.setIfInBounds j (on k),k+1)) (on (owner,hs.length))=on (a,hs.length+l.length)/\Ow mask a (hs++l)
 |[],owner,hs,O,_=>⟨owner,rfl,by rw[Pi];exact O⟩
 |h::l,owner,hs,O,hl=>by
  rw[OR]at hl;obtain⟨j,e,d⟩:=O.step h hm (by omega);obtain⟨f,b,c⟩:=ui hm l _ (hs++[h]) d (by rw[OQ,PL];omega);refine⟨f,?_,by rw[PZ]at c;exact c⟩;rw[List.foldl_cons];simp only[Option.bind_eq_bind,Rc,e];rw[OQ,PL]at b;rw[OR,show hs.length+(l.length+1)=hs.length+1+l.length by omega];exact b
theorem Lw{mask:Nat}(hm:Mk mask)(hs:Array Int)(b:hs.size<=mask+1):∃owner,layClean mask hs=on owner/\Ow mask owner hs.toList:=by
 obtain⟨o,e,O⟩:=ui hm hs.toList _ [] (Ow.nil mask) (by simpa using b);refine⟨o,?_,O⟩;unfold layClean;rw[<-Array.foldl_toList];have a:=e;simp only[VR]at a;exact(Py (Option.map (·.1)) a).trans rfl
theorem uw{α β:Type}{f:α->Option β}{g:α->β}:∀{l:List α},(∀a∈l,f a=on (g a))->l.filterMap f=l.map g
 |[],_=>rfl
 |a::l,h=>by
  rw[Qu,h a Oz,OJ,uw λb c=>h b (Ot a c)]
noncomputable def bW(mask:Nat)(owner:Array (Option Nat)):List (Nat×Nat):=(OB (mask+1)).filterMap λj=>(owner.getD j Om).map (j,·)
theorem CT{mask:Nat}{owner:Array (Option Nat)}(hs:owner.size=mask+1){j k:Nat}:(j,k)∈bW mask owner↔owner[j]?=on (on k):=by
 unfold bW;rw[TU];constructor
 .rintro⟨x,c,e⟩
  have d:=OY.mp c;have a:owner.getD x Om=owner[x]:=by simp[Rx,show x<owner.size by omega]
  rw[a]at e;cases q:owner[x]with
  |none=>rw[q]at e;cases e
  |some f=>
   rw[q]at e;simp only[QO,Wu,Prod.mk.injEq]at e;obtain⟨rfl,rfl⟩:=e;rw[getElem?_pos owner x (by omega),q]
 .intro e
  have b:=(Px.mp e).1;refine⟨j,OY.mpr (by omega),?_⟩;have a:owner.getD j Om=owner[j]:=by simp[Rx,b]
  rw[getElem?_pos owner j b]at e;rw[a,Pb e];rfl
theorem zq(mask:Nat)(owner:Array (Option Nat)):(bW mask owner).Pairwise λa b=>a.1<b.1:=by
 unfold bW;refine List.Pairwise.filterMap _ (λa f h b d g c=>?_) List.pairwise_lt_range;cases q:owner.getD a Om with
 |none=>rw[q]at d;cases d
 |some k=>
  rw[q]at d;cases e:owner.getD f Om with
  |none=>rw[e]at c;cases c
  |some i=>
   rw[e]at c;cases d;cases c;exact h
theorem yD{t:PQ}{hs:Array Int}(hm:Mk (sizeAbove wanted-1))(nf:hs.size*5<(sizeAbove wanted-1)*3):
  ∃(t':PQ) (c:Array Nat),t.relaid hs wanted=on (t',c)/\c.toList.Perm (OB hs.size)/\Tb t' (c.toList.map λk=>hs.getD k 0)/\t'.led=t.led/\t'.plain=t.plain:=by
 have ho:=hm.odd;obtain⟨owner,e,O⟩:=Lw hm hs (by omega);generalize T:sizeAbove wanted-1=mask at*;have d:hs.toList.length=hs.size:=by simp
 have f:=zq mask owner;have g:∀{j k:Nat},(j,k)∈bW mask owner↔owner[j]?=on (on k):=CT O.sz;have U:t.relaid hs wanted=on ({mask,place:=((bW mask owner).map (·.1)).toArray,dummies:=#[],finger:=t.finger,led:=t.led,moves:=t.movedTo mask,plain:=t.plain},((bW mask owner).map (·.2)).toArray):=by
  unfold relaid laid;rw[T,e];rfl
 have perm:((bW mask owner).map (·.2)).Perm (OB hs.size):=by
  refine(List.perm_ext_iff_of_nodup ?_ VB).mpr λk=>?_
  .unfold List.Nodup
   rw[Uc];refine List.Pairwise.imp_of_mem (R:=λa b=>a.1<b.1) (λ{a b} ha B h z=>?_) f;obtain⟨j,k⟩:=a;obtain⟨r,v⟩:=b;have W:k=v:=z;subst W;have:=O.un j r k (g.mp ha) (g.mp B);have h':j<r:=h;omega
  .rw[OF,OY]
   constructor
   .rintro⟨⟨j,v⟩,h,rfl⟩
    have:=O.lt j v (g.mp h);rwa[d]at this
   .intro A
    obtain⟨j,n,C,_⟩:=O.ex k _ (Os (by rw[d];exact A));exact⟨(j,k),g.mpr C,rfl⟩
 have l:(bW mask owner).length=hs.size:=by
  have:=perm.length_eq;rwa[Ol,OZ]at this
 refine⟨_,_,U,by simpa using perm,?_,rfl,rfl⟩;have pg:∀{i:Nat} {x:Nat},(((bW mask owner).map (·.1)).toArray)[i]?=on x->∃k,(bW mask owner)[i]?=on (x,k):=λ{i x} h=>by
  rw[UN,Ox]at h;cases q:(bW mask owner)[i]? with
  |none=>rw[q]at h;cases h
  |some a=>
   rw[q]at h;cases h;exact⟨a.2,rfl⟩
 have F:∀{j k:Nat},owner[j]?=on (on k)->∃i:Nat,(((bW mask owner).map (·.1)).toArray)[i]?=on j:=λ{j k} h=>by
  obtain⟨i,X,Y⟩:=U6 (g.mpr h);exact⟨i,by rw[UN,Ox,Os X,Y];rfl⟩
 refine⟨hm,?_,?_,?_,rfl,?_,?_⟩
 .show(((bW mask owner).map (·.1)).toArray).size=_
  simp
 .intro i k x y H Z hy
  obtain⟨a,ha⟩:=pg Z;obtain⟨b,B⟩:=pg hy;obtain⟨C,I⟩:=OI.mp ha;obtain⟨h2,e2⟩:=OI.mp B;have:=Ro.mp f i k C h2 H;rw[I,e2]at this;exact this
 .intro i j h
  obtain⟨a,ha⟩:=pg h;have:=(Px.mp (g.mp (OT ha))).1;have:=O.sz;show j<=mask;omega
 .show(((bW mask owner).map (·.1)).toArray).size*5<mask*3
  have:(((bW mask owner).map (·.1)).toArray).size=hs.size:=by simp[l]
  omega
 .intro i h j J hj
  obtain⟨k,A⟩:=pg hj;have o:=g.mp (OT A);have eh:hs.toList[k]?=on h:=by
   rw[Ox]at J;have I:((bW mask owner).map (·.2)).toArray.toList[i]?=on k:=by
    show((bW mask owner).map (·.2))[i]?=_;rw[Ox,A];rfl
   rw[I]at J;have N:k<hs.size:=by have:=O.lt j k o;rwa[d]at this
   have:hs.getD k 0=h:=Pb J;rw[RX,getElem?_pos hs k N,<-this];simp[Rx,N]
  obtain⟨r,n,a1,a2,a3⟩:=O.ex k h eh;have:=O.un j r k o a1;subst this;have tr:∀(u:PQ),u.mask=mask->∀m,fh u m (u.probeStart h)=fh (tm mask) m ((tm mask).probeStart h):=λu Q m=>by
   rw[wC (u:=tm mask) Q,um (u:=tm mask) Q]
  refine⟨n,by rw[tr _ rfl];exact a2,λm L=>?_⟩;rw[tr _ rfl];obtain⟨v,p⟩:=a3 m L;exact F p
theorem qU{t:PQ}(a:t.probe f h p=r)(T:Tb t hs)(v:Pv t p)(b:e<10*turns t.mask)(c:¬Lv t (fh t e p).j):
  ∃m,m<=e/\(∀d<m,∃i,t.place[i]?=on (fh t d p).j/\f i≠h)/\
   ((¬Lv t (fh t m p).j/\r=on (.empty (fh t m p).j Om))\/∃i,t.place[i]?=on (fh t m p).j/\f i=h/\r=on (.candidate (fh t m p).j i (fh t (m+1) p))):=by
 subst a;exact Iu T.rs T.du _ p e v b c
section
variable{prog:Pf}{w:Po}{A:PV}{E:Oy->OD->Prop}{s:OD}
noncomputable abbrev jm(prog:Pf)(w:Po):HeapKind prog w (List Int):=tupleKind (UY prog w)
noncomputable abbrev hsh(prog:Pf)(w:Po)(k:List Int):Int:=(jm prog w).hash k
theorem Tb.fits{t:PQ}{hs:List Int}(T:Tb t hs)(hn:hs.length=n):t.fits n=Oq:=by
 have:=T.nf;have:=T.sz;have:=T.km.odd;unfold VU SetTable.fill;rw[T.du];simp;omega
theorem items_int(h:ItemsAre (UY prog w) ks vs):∀v∈vs,∃n t,v=Sc n t:=by
 induction h with
 |nil=>intro v hv;cases hv
 |@cons k v' ks vs h1 _ ih=>
  intro v hv;rcases ON.mp hv with rfl|hv
  .obtain⟨t,e⟩:=Vl h1
   exact⟨_,t,e⟩
  .exact ih v hv
theorem xZ{M:Model}{o:Pa}(b:s.heap.get? a=on o)(h:Q o.cls s):OK M A (typeOf (.ref a)) Q E s:=by
 show OK M A (loadPart a _>>=_) Q E s;exact My (wpAny_loadPart b (On h))
theorem tT(f:(jm prog w).is s.heap k x)(h:Q Ov s):OK (O7 prog w) A (V2 8 (.ref x)) Q E s:=by
 obtain⟨o,b,n,e,g,hd,i⟩:=f;unfold V2;refine My (xZ e ?_);rw[g];simp only[Ym,PN];refine My (On ?_);simp only[Re,OW,PF];refine My (QE e hd ?_);refine My ?_;show OK _ _ (forIn b _ _) _ _ s;rw[<-SB];refine UP _ (λrest r s'=>r.1=Om/\s'=s/\∀v∈rest,∃n t,v=Sc n t) _ ?_ ?_ _ _ ⟨rfl,rfl,items_int i⟩
 .rintro v rest r s' ⟨c,rfl,a⟩
  obtain⟨n,t,rfl⟩:=a v Oz;unfold V2;refine My (On ?_);simp only[OW,PF];exact On ⟨rfl,rfl,λu d=>a u (Ot _ d)⟩
 .rintro⟨r1,j⟩ s' ⟨c,rfl,_⟩
  simp only at c;subst c;exact On h
theorem DZ(e:(jm prog w).is s.heap k x)(h:Q Oq s):OK (O7 prog w) A (hashByValue 8 (.ref x)) Q E s:=by
 have f:=WB (s:=s) e;obtain⟨o,b,n,g,j,hd,i⟩:=e;unfold hashByValue;refine My (Rg f F.slot_tuple_hash.lookup ?_);simp only;refine My (QE g hd ?_);refine My ?_;show OK _ _ (forIn b _ _) _ _ s;rw[<-SB];refine UP _ (λrest r s'=>r.1=Om/\s'=s/\∀v∈rest,∃n t,v=Sc n t) _ ?_ ?_ _ _ ⟨rfl,rfl,items_int i⟩
 .rintro v rest r s' ⟨c,rfl,a⟩
  obtain⟨n,t,rfl⟩:=a v Oz;unfold hashByValue;refine My (On ?_);simp only[Re,OW,PF];exact On ⟨rfl,rfl,λu d=>a u (Ot _ d)⟩
 .rintro⟨r1,l⟩ s' ⟨c,rfl,_⟩
  simp only at c;subst c;exact On h
theorem JA(f:(jm prog w).is s.heap k x):∀(l:List (List Int×Ou)) {Q:Bool->OD->Prop},(∀y∈l,(jm prog w).is s.heap y.1 y.2)->Q Ov s->OK (O7 prog w) A (V4 (.ref x) (l.map λy=>OP y.2)) Q E s:=by
 intro l Q h i;unfold V4;refine My ?_;refine UP _ (λrest r s'=>r.1=Om/\s'=s/\∃b:List (List Int×Ou),rest=b.map (λy=>OP y.2)/\∀y∈b,(jm prog w).is s.heap y.1 y.2) _ ?_ ?_ _ _ ⟨rfl,rfl,l,rfl,h⟩
 .rintro v rest r s' ⟨d,rfl,b,e,a⟩
  cases b with
  |nil=>cases e
  |cons y b=>
   cases e;have g:=a y Oz;have nxt:(Om:Option Bool)=Om/\s'=s'/\∃c:List (List Int×Ou),b.map (λy=>OP y.2)=c.map (λy=>OP y.2)/\∀y∈c,(jm prog w).is s'.heap y.1 y.2:=⟨rfl,rfl,b,rfl,λu j=>a u (Ot y j)⟩;by_cases q:x==y.2
   .simp only[q,Bool.true_or,PN]
    exact On nxt
   .simp only[q,Bool.false_or,carriedByValue,TL,OW,PF]
    refine My ((jm prog w).quiet f ?_);simp only[Re,OW,PF];refine My ((jm prog w).quiet g ?_);simp only[Re,OW,PF];refine My (tT f ?_);simp only[OW,PF];refine My (tT g ?_);simp only[OW,PF];exact On nxt
 .rintro⟨r1,m⟩ s' ⟨d,rfl,_⟩
  simp only at d;subst d;exact On i
theorem yn{o:Pa}{es:Array (Int×Oy)}{t:PQ}{xs:List (List Int×Ou)}(hu:A.units<T7)(ho:s.heap.get? a=on o)(hd:o.data= .set es ep t)
  (H:es.toList=xs.map λx=>(hsh prog w x.1,OP x.2)) (hx:∀x∈xs,(jm prog w).is s.heap x.1 x.2) (T:Tb t (xs.map λx=>hsh prog w x.1)) (hk:(jm prog w).is s.heap k b)
  (he:e<10*turns t.mask) (U:¬Lv t (fh t e (t.probeStart (hsh prog w k))).j) (ha:∀m<e,Lv t (fh t m (t.probeStart (hsh prog w k))).j)
  (q1:k∈xs.map (·.1)->Q (.there Om) s) (q2:k∉xs.map (·.1)->Q (.free (fh t e (t.probeStart (hsh prog w k))).j Ov) s):
  ∀(n c m:Nat) (st:Option Probe),e=m+n->n<c->st.getD (t.probeStart (hsh prog w k))=fh t m (t.probeStart (hsh prog w k))->(∀g<m,∀(i:Nat) x,t.place[i]?=on (fh t g (t.probeStart (hsh prog w k))).j->xs[i]?=on x->x.1≠k)->
   OK (O7 prog w) A (setSearchFrom a (.ref b) (hsh prog w k) Oq c st) Q E s:=by
 have hsz:es.size=xs.length:=by rw[<-Pe,H,Ol]
 have W:t.fits es.size=Oq:=T.fits (by rw[Ol,hsz]);have l:∀i:Nat,es[i]?=(xs[i]?).map λx=>(hsh prog w x.1,OP x.2):=λi=>by rw[<-RX,H,Ox]
 have gw:t.gaveWay=Ov:=by
  have:=T.km.odd;unfold SetTable.gaveWay;rw[WE];omega
 intro n
 induction n using Nat.strongRecOn with
 |_ n ih=>
  intro c m st em hfu hst p;cases c with
  |zero=>omega
  |succ c=>
   unfold setSearchFrom;refine My (QB ho hd W ?_)
   dsimp only
   rw[hst,gw];simp only[OW,PF];have v:=lB m (nA t (hsh prog w k));have it:∀n',fh t n' (fh t m (t.probeStart (hsh prog w k)))=fh t (m+n') (t.probeStart (hsh prog w k)):=λn'=>(mF t m n' _).symm;have same:∀{i O j:Nat},t.place[i]?=on j->t.place[O]?=on j->i=O:=λ{i O j} u C=>by
    rcases R8 i O with q|q|q
    .exact O4 (T.rs i O j j q u C) (PH j)
    .exact q
    .exact O4 (T.rs O i j j q C u) (PH j)
   split
   .rename_i X heq
    obtain⟨g,hm',r,d⟩:=qU heq T v (e:=n) (by omega) (by rw[it,<-em];exact U);rcases d with⟨Y,I⟩|⟨i,R,hfi,I⟩
    .cases I
     have Z:g=n:=by
      rcases Vx g n with q|q
      .rw[it]at Y
       exact O4 (ha (m+g) (by omega)) Y
      .omega
     subst Z;refine On ?_;rw[it,<-em];refine q2 λhmem=>?_;obtain⟨x,hx1,J⟩:=OF.mp hmem;obtain⟨B,hi0,ei0⟩:=U6 hx1;have h:xs[B]?=on x:=by rw[Os hi0,ei0]
     have L:B<t.place.size:=by have:=T.sz;rw[Ol]at this;omega
     obtain⟨F,a1,a2⟩:=T.rch B (hsh prog w k) t.place[B] (by rw[Ox,h,<-J];rfl) (getElem?_pos t.place B L);have hlt:F<e:=by
      rcases R8 F e with q|q|q
      .exact q
      .subst q
       exact O4 ⟨B,by rw[a1];exact getElem?_pos t.place B L⟩ U
      .exact O4 (a2 e q) U
     have hp0:t.place[B]?=on (fh t F (t.probeStart (hsh prog w k))).j:=by rw[a1];exact getElem?_pos t.place B L
     by_cases q:F<m
     .exact p F q B x hp0 h J
     .obtain⟨i,u,C⟩:=r (F-m) (by omega)
      rw[it,show m+(F-m)=F by omega]at u;have:=same u hp0;subst this;refine C ?_;show(es[i]?.map (·.1)).getD 0=_;rw[l,h,<-J];rfl
    .cases I
     have N:i<xs.length:=by
      have u:=(Px.mp R).1;have:=T.sz;rw[Ol]at this;omega
     have h:xs[i]?=on xs[i]:=Os N;have hei:es[i]?=on (hsh prog w xs[i].1,OP xs[i].2):=by rw[l,h];rfl
     have hxk:=hx xs[i] (Pr N);rw[it]at R;simp only;have el:(PR (λx=>x.snd) (Array.filter (λx=>x.fst==hsh prog w k) es).toList)=(xs.filter λy=>hsh prog w y.1==hsh prog w k).map λy=>OP y.2:=by
      rw[Array.toList_filter,H,VQ,OA];rfl
     rw[el];have seen:∀{Q':Bool->OD->Prop},Q' Ov s->OK (O7 prog w) A (V4 (.ref b) ((xs.filter λy=>hsh prog w y.1==hsh prog w k).map λy=>OP y.2)) Q' E s:=λhq=>JA hk _ (λy hy=>hx y (SE.mp hy).1) hq;have sm:t.sameMemory t.moves t.mask=on Oq:=by unfold sameMemory;simp
     have sl:t.slot (fh t (m+g) (t.probeStart (hsh prog w k))).j= .live i:=qM T.rs R;cases hled:t.led
     all_goals simp only[UQ,Re,OW,PN,PF,it,hei]
     all_goals try refine My (seen ?_)
     all_goals try simp only[OW,PF]
     all_goals
      refine My (P4 ((jm prog w).eqBool hu hxk hk (My (QB ho hd W ?_))));simp only[S8];by_cases q:xs[i].1=k
      .rw[OE (OO q)]
       exact On (q1 (OF.mpr ⟨xs[i],Pr N,q⟩))
      .rw[OC (by simpa using q)]
       simp only[sm,PN,sl,hei];refine My ?_;unfold isSame;simp only[Ym,PN];refine On (My (On ?_));simp only[PN];rw[OC (by simpa using q)];have Z:g<n:=by
        rcases Vx g n with z|z
        .exact z
        .obtain rfl:g=n:=by omega
         rw[<-em]at R;exact O4 ⟨i,R⟩ U
       refine ih (n-(g+1)) (by omega) c (m+g+1) _ (by omega) (by omega) rfl λm2 hm2 i2 x2 u C z=>?_;by_cases q1:m2<m
       .exact p m2 q1 i2 x2 u C z
       .by_cases q2:m2=m+g
        .subst q2
         have:=same R u;subst this;rw[h]at C;cases C;exact q z
        .obtain⟨i3,h3,h4⟩:=r (m2-m) (by omega)
         rw[it,show m+(m2-m)=m2 by omega]at h3;have:=same h3 u;subst this;refine h4 ?_;show(es[i3]?.map (·.1)).getD 0=_;rw[l,C,<-z];rfl
   .rename_i hno
    have key:∀f:Nat->Int,(∀X,t.probe f (hsh prog w k) (fh t m (t.probeStart (hsh prog w k)))=on X->False)->False:=λf W=>by
     obtain⟨g,hm',r,d⟩:=qU (f:=f) rfl T v (e:=n) (by omega) (by rw[it,<-em];exact U);rcases d with⟨_,I⟩|⟨i,_,_,I⟩
     .exact W _ I
     .exact W _ I
    exact(key _ hno).elim
theorem NR{P:Nat->Prop}:∀n,P n->∃m,m<=n/\P m/\∀k<m,¬P k:=by
 intro n
 induction n using Nat.strongRecOn with
 |_ n ih=>
  intro h;by_cases q:∃k,k<n/\P k
  .obtain⟨k,a,b⟩:=q
   obtain⟨m,d,c⟩:=ih k a b;exact⟨m,by omega,c⟩
  .exact⟨n,OG n,h,λk a b=>q ⟨k,a,b⟩⟩
def qA(prog:Pf)(w:Po)(h:P5)(a:Ou)(xs:List (List Int×Ou)):Prop:=
 ∃o es ep t,h.get? a=on o/\o.ExactSet/\o.data= .set es ep t/\(es.toList=xs.map λx=>(hsh prog w x.1,OP x.2))/\(xs.map (·.1)).Nodup/\(∀x∈xs,(jm prog w).is h x.1 x.2)/\(Tb t (xs.map λx=>hsh prog w x.1))/\t.plain=Oq/\t.led=!(w.params.followText "set-order")
theorem oh{h h':P5}{o:Pa}{es ep t}(x:(jm prog w).is h k b)(i:h.get? a=on o)(hd:o.data= .set es ep t)(hs:Pd a h h'):(jm prog w).is h' k b:=by
 obtain⟨g,c,n,e,j,d,l⟩:=x;have f:b≠a:=by
  rintro rfl;obtain rfl:g=o:=Pb (e.symm.trans i);rw[hd]at d;exact nomatch d
 exact⟨g,c,n,(hs.2 b f).trans e,j,d,l⟩
theorem qI{h:P5}{o:Pa}(c:h.get? a=on o)(hd:o.data= .set es ep t)(b:Array (Int×Oy))(t':PQ):(h.update a (UK b t')).get? a=on {o with data:= .set b (ep+1) t'}:=by
 have:=Rl (UK b t') c (by rw[putSet_of b t' hd];rfl);rw[putSet_of b t' hd]at this;exact this
theorem KY{t:PQ}(T:Tb t hs)(j:Nat):(t.put j).1.dummies=#[]/\(t.put j).1.place.size=t.place.size+1/\(t.put j).2<=t.place.size:=by
 obtain⟨b1,b2,b3⟩:=iB (j:=j) T.rs;have hd:has t.dummies j=Ov:=by unfold has;rw[T.du];rfl
 refine⟨?_,fN b1,b1⟩;show(if has t.dummies j=Oq then _ else t.dummies)=#[];rw[hd,OC OH,T.du]
theorem JO{α β:Type}{xs:List α}{ys:Array β}{f:α->β}(e:ys.toList=xs.map f){p:Nat}(c:p<=ys.size)(x:α):(insertAt ys p (f x)).toList=(xs.take p++x::xs.drop p).map f:=by
 unfold insertAt;simp only[Array.toList_append,XN,Array.toList_extract];have a:(ys.toList.extract 0 p)=ys.toList.take p:=by simp[List.extract]
 have b:(ys.toList.extract p ys.size)=ys.toList.drop p:=by
  simp only[List.extract];rw[Rb (by simp)]
 rw[a,b,e,Pg,OJ,Vb,Rz,PZ];rfl
theorem MW{xs:List (List Int×Ou)}(hu:A.units<T7)(S:qA prog w s.heap a xs)(hk:(jm prog w).is s.heap k b)(hn:xs.length<63)
  (h:∀h' q,Pd a s.heap h'->qA prog w h' a q->(k∈xs.map (·.1)->q=xs)->(k∉xs.map (·.1)->q.Perm ((k,b)::xs))->Q (decide (k∉xs.map (·.1))) {s with heap:=h'}):
  OK (O7 prog w) A (setAddHashed a (.ref b) (hsh prog w k)) Q E s:=by
 have S0:=S;obtain⟨o,es,ep,t,U,X,hd,W,hnd,hx,T,hp,J⟩:=S;have F:es.size=xs.length:=by rw[<-Pe,W,Ol]
 have hf:t.fits es.size=Oq:=T.fits (by rw[Ol,F]);have Y:t.place.size=xs.length:=by rw[T.sz,Ol]
 obtain⟨e0,he0,hl0⟩:=T.free (nA t (hsh prog w k));obtain⟨e,hee,hl,Z⟩:=NR (P:=λe=>¬Lv t (fh t e (t.probeStart (hsh prog w k))).j) e0 hl0;have ha:∀m<e,Lv t (fh t m (t.probeStart (hsh prog w k))).j:=λm hm=>Classical.not_not.mp (Z m hm);have hmk:=T.km.odd;unfold setAddHashed setAddHashedIn;refine P4 (My (QB U hd hf ?_));have hb:byScan (OP b) es=Ov:=rfl;simp only[hb,OW,PF];refine My ?_;unfold setSearch;refine yn (e:=e) hu U hd W hx T hk (by omega) hl ha (λhm=>?_) (λhm=>?_) e 100000 0 Om (by omega) (by unfold turns at he0;omega) rfl (λm' hm'=>O4 hm' (Q7 _))
 .refine On ?_
  have:=h s.heap xs (Pd.refl a s.heap) S0 (λ_=>rfl) (λz=>O4 hm z);rw[Pp (λz=>z hm)]at this;exact this
 .have hQ:∀h' q,Pd a s.heap h'->qA prog w h' a q->q.Perm ((k,b)::xs)->Q Oq {s with heap:=h'}:=λh' q h1 h2 h3=>by
   have:=h h' q h1 h2 (λz=>O4 z hm) (λ_=>h3);rwa[OO hm]at this
  simp only;refine My (QB U hd hf ?_);generalize hj:(fh t e (t.probeStart (hsh prog w k))).j=j at hl;obtain⟨pd,ps,pl⟩:=KY T j;generalize y:t.put j=tp at pd ps pl;obtain⟨u,p⟩:=tp;simp only at pd ps pl⊢;have l:u.plain=Oq:=by
   have:(t.put j).1.plain=t.plain:=rfl;rw[y]at this;rw[this,hp]
  have L:u.led=t.led:=by
   have:(t.put j).1.led=t.led:=rfl;rw[y]at this;exact this
  have v:u.mask=t.mask:=by
   have:(t.put j).1.mask=t.mask:=rfl;rw[y]at this;exact this
  rw[l];simp only[PN];refine My (DZ hk ?_);simp only[PN];have N:=JO (f:=λx:List Int×Ou=>(hsh prog w x.1,OP x.2)) W (p:=p) (by omega) (k,b);have B:(insertAt es p (hsh prog w k,OP b)).size=es.size+1:=fN (by omega);have d:(xs.take p++(k,b)::xs.drop p).Perm ((k,b)::xs):=by
   have:=List.perm_middle (a:=(k,b)) (l₁:=xs.take p) (l₂:=xs.drop p);rwa[Rm]at this
  have nd1:((xs.take p++(k,b)::xs.drop p).map (·.1)).Nodup:=by
   refine(d.map (·.1)).nodup_iff.mpr ?_;rw[OJ,Pw];exact⟨hm,hnd⟩
  refine My (wpAny_storeSet_of U hd ?_ (by rw[B,Qr];omega));have H:=Qf s.heap a (UK (insertAt es p (hsh prog w k,OP b)) u);have g1:=qI U hd (insertAt es p (hsh prog w k,OP b)) u;have hx1:∀x∈xs.take p++(k,b)::xs.drop p,(jm prog w).is (s.heap.update a (UK (insertAt es p (hsh prog w k,OP b)) u)) x.1 x.2:=λx hx'=>by
   rcases ON.mp (d.mem_iff.mp hx')with rfl|hx'
   .exact oh hk U hd H
   .exact oh (hx x hx') U hd H
  by_cases r:u.tooFull=Oq
  .simp only[r,UQ,Uh,PN]
   have fu:u.fill*5≥u.mask*3:=by unfold tooFull at r;exact PU r
   have fe:u.fill=xs.length+1:=by unfold fill;rw[pd,ps,Y];rfl
   have nf0:=T.nf;have f1:u.fits (insertAt es p (hsh prog w k,OP b)).size=Oq:=by
    unfold VU;rw[B,fe,ps,Y,F,v];simp;omega
   have wm:Mk (sizeAbove (grown (es.size+1))-1)/\(es.size+1)*5<(sizeAbove (grown (es.size+1))-1)*3/\sizeAbove (grown (es.size+1))<=128:=by
    rw[fe,v]at fu;rw[F];rcases T.km with z|z|z
    .have:xs.length=4:=by omega
     rw[this];exact⟨.inr (.inl (by decide)),by decide,by decide⟩
    .have:xs.length=18:=by omega
     rw[this];exact⟨.inr (.inr (by decide)),by decide,by decide⟩
    .omega
   have C:(Array.map (λx=>x.fst) (insertAt es p (hsh prog w k,OP b))).size=es.size+1:=by rw[Array.size_map,B]
   obtain⟨t2,c,er,op,T2,led2,I⟩:=yD (t:=u) (hs:=(insertAt es p (hsh prog w k,OP b)).map (·.1)) (wanted:=grown (es.size+1)) wm.1 (by rw[C];exact wm.2.1);refine My ?_;unfold setRelay;refine My (QB g1 rfl f1 ?_);simp only;rw[OC (by rw[Qr];omega)];rw[er];generalize hE1:insertAt es p (hsh prog w k,OP b)=es1 at*;generalize hX1:xs.take p++(k,b)::xs.drop p=xs1 at*;have l1:xs1.length=es.size+1:=by rw[d.length_eq,OR,F]
   have O:∀i,i<xs1.length->es1[i]?=on (hsh prog w (xs1.getD i (k,b)).1,OP (xs1.getD i (k,b)).2):=λi R=>by
    rw[<-RX,N,Ox,Os R,Op,Os R];rfl
   have om:∀i∈c.toList,i<xs1.length:=λi R=>by
    have:=OY.mp (op.mem_iff.mp R);rw[C]at this;omega
   have efl:(c.filterMap λx=>es1[x]?).toList=(c.toList.map λi=>xs1.getD i (k,b)).map λx=>(hsh prog w x.1,OP x.2):=by
    rw[Array.toList_filterMap,uw (g:=λi=>(hsh prog w (xs1.getD i (k,b)).1,OP (xs1.getD i (k,b)).2)) λi R=>O i (om i R),OA];rfl
   have n:(c.toList.map λi=>xs1.getD i (k,b)).Perm xs1:=by
    refine(op.map _).trans (Vi ?_);rw[C,<-l1];refine QG (by simp) λi h1 h2=>?_;rw[Rh,RH,Op,Os h2];rfl
   have fsz:(c.filterMap λx=>es1[x]?).size=es1.size:=by
    rw[<-Pe,efl,Ol,n.length_eq,l1,B]
   refine My ?_;show OK _ _ (if((c.filterMap λx=>es1[x]?).size !=es1.size)=Oq then _ else _) _ _ _;rw[OC (by rw[fsz];simp)];refine On ?_;refine wpAny_storeSet_of g1 rfl ?_ (by rw[fsz,B,Qr];omega);have sb2:=Qf (s.heap.update a (UK es1 u)) a (UK (c.filterMap λx=>es1[x]?) t2);have g2:=qI g1 rfl (c.filterMap λx=>es1[x]?) t2;refine On (hQ _ (c.toList.map λi=>xs1.getD i (k,b)) (H.trans sb2) ⟨_,_,_,t2,g2,X,rfl,efl,?_,λx hx'=>?_,?_,by rw[I,l],by rw[led2,L,J]⟩ (n.trans d))
   .exact(n.map (·.1)).nodup_iff.mpr nd1
   .exact oh (hx1 x (n.mem_iff.mp hx')) g1 rfl sb2
   .have eh:(c.toList.map λi=>xs1.getD i (k,b)).map (λx=>hsh prog w x.1)=c.toList.map λi=>(es1.map (·.1)).getD i 0:=by
     rw[OA];refine O5 λi R=>?_;have h1:=O i (om i R);have h2:(es1.map (·.1))[i]?=on (hsh prog w (xs1.getD i (k,b)).1):=by rw[Array.getElem?_map,h1];rfl
     have h3:=(Px.mp h2);obtain⟨h4,h5⟩:=h3;simp only[TN];rw[<-h5];simp[Rx,h4];omega
    rw[eh];exact T2
  .simp only[r,UQ,Bool.and_false,PF,S8,OW]
   refine On (hQ _ (xs.take p++(k,b)::xs.drop p) H ⟨_,_,_,u,g1,X,rfl,N,nd1,hx1,?_,l,by rw[L,J]⟩ d);have nf:(t.place.size+1)*5<t.mask*3:=by
    have:¬(u.fill*5≥u.mask*3):=by
     intro z;exact r (by unfold tooFull;exact OO z)
    unfold fill at this;rw[pd,ps,v]at this;simp at this;omega
   have:=(T.put (h:=hsh prog w k) hl hj (by exact ha) nf).2.2.2.2;rw[y]at this;rw[Pg,OJ,Vb,Rz];exact this
end
namespace F2
theorem si_next:Slot "set_iterator" "__next__" "set_iterator.__next__":= .of (owner:="set_iterator") (n:="__next__") (by rw[WF,Vd];kernel_rfl) (by decide +kernel) (by decide +kernel) (by decide +kernel)
  (by first|exact .inl (by decide +kernel)|exact .inr (by decide +kernel)) (by rw[Td];kernel_rfl)
theorem si_iter:Slot "set_iterator" "__iter__" "set_iterator.__iter__":= .of (owner:="set_iterator") (n:="__iter__") (by rw[WF,Vd];kernel_rfl) (by decide +kernel) (by decide +kernel) (by decide +kernel)
  (by first|exact .inl (by decide +kernel)|exact .inr (by decide +kernel)) (by rw[Td];kernel_rfl)
theorem ent_next:entryFor table "set_iterator.__next__"=on Builtin.«set_iterator.__next__»:=entryFor_of_tree (by kernel_rfl)
theorem ent_iter:entryFor table "set_iterator.__iter__"=on Builtin.«dict_keyiterator.__iter__»:=W8 (id':="dict_keyiterator.__iter__") (by kernel_rfl) rfl (by decide +kernel) (by kernel_rfl)
theorem ent_set_iter:entryFor table "set.__iter__"=on Builtin.«frozenset.__iter__»:=W8 (id':="frozenset.__iter__") (by kernel_rfl) rfl (by decide +kernel) (by kernel_rfl)
theorem args_next(a:Oy):argsOk "set_iterator.__next__" ⟨[a],[]⟩:=by unfold argsOk;kernel_rfl
theorem args_iter(a:Oy):argsOk "set_iterator.__iter__" ⟨[a],[]⟩:=by unfold argsOk;kernel_rfl
end F2
theorem pM{α:Type}:∀{l:List α} {i:Nat} (h:i<l.length),(l[i]::l.eraseIdx i).Perm l
 |[],i,h=>O4 h (Q7 i)
 |a::l,0,h=> .refl _
 |a::l,i+1,h=>by
  show(l[i]'(by simpa using h)::a::l.eraseIdx i).Perm (a::l);exact(List.Perm.swap _ _ _).trans ((pM (by simpa using h)).cons a)
theorem vt{α:Type}(next:Nat->Nat):∀(fuel k:Nat) (left:List α) (a:Array α),left.length<=fuel->(V3 next fuel k left a).toList.Perm (a.toList++left)
 |0,k,left,a,h=>by
  have:left=[]:=Uw.mp (by omega);subst this;unfold V3;rw[Pi]
 |fuel+1,k,left,a,h=>by
  unfold V3;cases left with
  |nil=>simp
  |cons c d=>
   have b:next k % (c::d).length<(c::d).length:=Wj _ (by simp)
   rw[Os b];simp only;refine(vt next fuel (k+1) _ _ (by rw[List.length_eraseIdx_of_lt b];omega)).trans ?_
   rw[XN,PZ];exact List.Perm.append_left _ (pM b)
theorem yN{α:Type}(next:Nat->Nat)(xs:Array α):(Wp next xs).toList.Perm xs.toList:=by
 unfold Wp;refine(vt next xs.size 0 xs.toList #[] (by simp)).trans ?_
 simp
section
variable{prog:Pf}{w:Po}{A:PV}{E:Oy->OD->Prop}{s:OD}
noncomputable def dD(w:Po)(a:Ou)(ep:Nat)(es:Array (Int×Oy)):Array (Int×Oy):=if w.params.followText "set-order"=Oq then Wp (w.params.setOrder a ep) es else es
theorem jV(w:Po)(a:Ou)(ep:Nat)(es:Array (Int×Oy)):(dD w a ep es).toList.Perm es.toList:=by
 unfold dD;split
 .exact yN _ _
 .exact .refl _
structure PJ (w:Po) (h:P5) (I a:Ou) (es:Array (Int×Oy)) (ep:Nat) (t:PQ) (i:Nat):Prop where
 st:∃o,h.get? a=on o/\o.data= .set es ep t
 it:∃(o:Pa) (sl:Nat),h.get? I=on o/\o.cls= .type "set_iterator"/\o.data= .fields #[.int sl 0,.int i 0,.ref a,.int es.size 0,.int ep 0]/\(w.params.followText "set-order"=Ov->below t.place sl=i)
theorem lR{M:Model}(h:Q (M.w.params.followText "set-order") s):OK M A setsByText Q E s:=by
 unfold setsByText;exact My (Tx (On h))
theorem za{es:Array (Int×Oy)}{t:PQ}{e:Int×Oy}(T:Tb t hs)(h:t.fits es.size=Oq)(H:t.plain=Oq)(J:t.led=!(w.params.followText "set-order"))(x:PJ w s.heap I a es ep t i)(k:I≠a)(l:(dD w a ep es)[i]?=on e)
  (L:∀h',PJ w h' I a es ep t (i+1)->Pd I s.heap h'->Q (on e.2) {s with heap:=h'}):OK (O7 prog w) A (Sd (.ref I)) Q E s:=by
 obtain⟨⟨N,b,c⟩,o,sl,n,u,hd,p⟩:=id x;have y:s.TypeIs (.ref I) "set_iterator":=⟨o,n,u⟩;unfold Sd;refine My (Sb (wpAny_callSpecial?_slot (name:=Qq "__next__") y F2.si_next (Ph F2.si_next y F2.ent_next ?_ (F2.args_next _))));unfold Builtin.«set_iterator.__next__»;refine My (On ?_);refine My (Te n hd ?_);simp only;refine My (Vy b c h ?_);simp only[RZ,OW,PF];refine My ?_;simp only[P3]
 have d:∀nx:Nat,(w.params.followText "set-order"=Ov->below t.place nx=i+1)->OK (O7 prog w) A.in1 (do
    Vn (OP I) 0 (R4 nx)
    Vn (OP I) 1 (R4 (i+1))
    ret e.2) (λd s'=>∃v,d=Fin.done (Flow.ret v)/\OK (O7 prog w) A (QU (on v)) Q E s') (λe s'=>OK (O7 prog w) A (do
     if(<-VJ e (Ry "StopIteration"))=Oq then QU Om else throw e) Q E s') s:=λnx r=>by
  refine My (RQ n hd (by simp) ?_);have B:(s.heap.update I (WD (·.setIfInBounds 0 (R4 nx)))).get? I=on _:=Rl _ n (S7 (Qp hd _));refine My (RQ B (Qp hd _) (by simp) ?_);refine On ⟨_,rfl,On (L _ ⟨⟨N,?_,c⟩,⟨_,nx,Rl _ B (S7 (Qp (Qp hd _) _)),?_,?_,r⟩⟩ ((Qf ..).trans (Qf ..)))⟩
  .rw[QK _ _ _ _ (Ne.symm k),QK _ _ _ _ (Ne.symm k)];exact b
  .rw[Um,Um];exact u
  .rw[Qp (Qp hd _)];simp[R4]
 unfold setNext;refine My (QB b c h (My (lR ?_)));have C:(O7 prog w).w=w:=rfl;rw[C];cases q:w.params.followText "set-order"
 .have f:dD w a ep es=es:=by unfold dD;rw[q];rfl
  rw[f]at l;have O:=p q;have U:=(Px.mp l).1;simp only[OW,PF];have R:t.place.size=es.size:=by
   unfold VU at h;simp only[Pc,Sy,Pq]at h;exact h.1
  rw[OC (λz=>by
   have F:(!t.plain&&decide (es.size>1))=Oq:=z;rw[H]at F;cases F)]
  refine My ?_;show OK _ _ (if(!t.led&&!es.isEmpty)=Oq then _ else _) _ _ _;rw[OC (by rw[J,q];exact OH)];refine On (On ?_);have g:t.place[i]?=on t.place[i]:=getElem?_pos t.place i (by omega);rw[O,l,g];simp only;refine d _ λ_=>?_;obtain⟨b1,b2,b3⟩:=iB (j:=t.place[i]+1) T.rs;rcases R8 (below t.place (t.place[i]+1)) (i+1)with z|z|z
  .have:=b3 i _ (by omega) g
   omega
  .exact z
  .have m:t.place[i+1]?=on t.place[i+1]:=getElem?_pos t.place (i+1) (by omega)
   have W:=b2 (i+1) _ z m;have X:=T.rs i (i+1) _ _ (by omega) g m;omega
 .have f:dD w a ep es=Wp (w.params.setOrder a ep) es:=by unfold dD;rw[q];rfl
  rw[f]at l;simp only[PN,RZ,OW,PF];refine My ?_;unfold setWalk;refine My (QB b c h (My (lR ?_)));rw[C,q];simp only[PN];refine My (Tx (On ?_));refine On ?_;rw[show((O7 prog w).w.params.setOrder a ep)=w.params.setOrder a ep from rfl,l];simp only[QO];exact d _ λz=>by rw[q]at z;cases z
theorem CH{es:Array (Int×Oy)}{t:PQ}(r:A.handled=Om)(T:Tb t hs)(g:t.fits es.size=Oq)(u:t.plain=Oq)(y:t.led=!(w.params.followText "set-order"))(x:PJ w s.heap I a es ep t es.size)
  (B:∀h',US I s.heap h'->Q Om {s with heap:=h'}):OK (O7 prog w) A (Sd (.ref I)) Q E s:=by
 obtain⟨⟨F,d,f⟩,o,sl,h,C,hd,i⟩:=id x;have l:s.TypeIs (.ref I) "set_iterator":=⟨o,h,C⟩;unfold Sd;refine My (Sb (wpAny_callSpecial?_slot (name:=Qq "__next__") l F2.si_next (Ph F2.si_next l F2.ent_next ?_ (F2.args_next _))));unfold Builtin.«set_iterator.__next__»;refine My (On ?_);refine My (Te h hd ?_);simp only;refine My (Vy d f g ?_);simp only[RZ,OW,PF];refine My ?_;simp only[P3]
 have c:OK (O7 prog w) A.in1 (do
    Vn (OP I) 2 Pj
    let e <-Wn (Ry "StopIteration") []
    (Xc e:Sem Fin)) (λc s'=>∃v,c=Fin.done (Flow.ret v)/\OK (O7 prog w) A (QU (on v)) Q E s') (λe s'=>OK (O7 prog w) A (do
     if(<-VJ e (Ry "StopIteration"))=Oq then QU Om else throw e) Q E s') s:=by
  refine My (RQ h hd (by simp) ?_);refine My ?_;simp only[Wn,newTuple];refine My (Pk ?_ (by size_fits));refine My (m:=RO _ _) (R0 (a:=Pj) (by first|rfl|(simp only[RO];rfl)) ?_)
  refine Pk ?_ (by size_fits);simp only[Xc];refine My (VE ?_);rw[show A.in1.handled=Om from r];refine My (On (Wz ?_));refine My (QI (T:="StopIteration") (b:=Oq) ⟨_,OL _ rfl,rfl⟩ Vm ?_);exact On (B _ (((Qf ..).extBut.push _).push _))
 unfold setNext;refine My (QB d f g (My (lR ?_)));have n:(O7 prog w).w=w:=rfl;rw[n];have j:(dD w a ep es).size=es.size:=by rw[<-Pe,(jV w a ep es).length_eq,Pe]
 cases q:w.params.followText "set-order"
 .simp only[OW,PF]
  rw[OC (λz=>by
   have p:(!t.plain&&decide (es.size>1))=Oq:=z;rw[u]at p;cases p)]
  refine My ?_;show OK _ _ (if(!t.led&&!es.isEmpty)=Oq then _ else _) _ _ _;rw[OC (by rw[y,q];exact OH)];refine On (On ?_);rw[i q,Q9 (OG _)];exact c
 .have k:dD w a ep es=Wp (w.params.setOrder a ep) es:=by unfold dD;rw[q];rfl
  simp only[PN,RZ,OW,PF];refine My ?_;unfold setWalk;refine My (QB d f g (My (lR ?_)));rw[n,q];simp only[PN];refine My (Tx (On ?_));refine On ?_;rw[show((O7 prog w).w.params.setOrder a ep)=w.params.setOrder a ep from rfl,<-k,Q9 (by rw[j];exact OG _)];exact c
theorem PJ.at{h h':P5}(x:PJ w h I a es ep t i)(k:∀b,b=I\/b=a->∀o,h.get? b=on o->h'.get? b=on o):PJ w h' I a es ep t i:=by
 obtain⟨⟨e,c,d⟩,o,sl,f,r⟩:=x;exact⟨⟨e,k a (.inr rfl) e c,d⟩,o,sl,k I (.inl rfl) o f,r⟩
theorem AQ(q:A.handled=Om){es:Array (Int×Oy)}{t:PQ}(T:Tb t hs)(l:t.fits es.size=Oq)(m:t.plain=Oq)(n:t.led=!(w.params.followText "set-order"))(f:I≠a):
  Walks prog w A I [I,a] [I] es.size (λi v=>∃e,(dD w a ep es)[i]?=on e/\v=e.2) (λi h=>PJ w h I a es ep t i) where
 sub:=λb c=>by simp at c;simp[c]
 frame:=λ_ _ _ st r=>st.at λb c o e=>r b (by simpa using c) o e
 item:=λi s Q E L st d=>by
  have u:(dD w a ep es).size=es.size:=by rw[<-Pe,(jV w a ep es).length_eq,Pe]
  have p:(dD w a ep es)[i]?=on (dD w a ep es)[i]:=getElem?_pos _ i (by omega);exact za T l m n st f p λh' g y=>d _ h' s.toks ⟨_,p,rfl⟩ g λb o c e=>y.extBut b o (λh=>c (by simp[h])) e
 done:=λs Q E st d=>CH q T l m n st λh' j=>d h' s.toks λb o c e=>j b o (λh=>c (by simp[h])) e
 self:=λi s Q E st d=>by
  obtain⟨⟨N,B,C⟩,o,sl,F,H,hd,J⟩:=st;have k:s.TypeIs (.ref I) "set_iterator":=⟨o,F,H⟩;refine Tf k F2.si_iter (Ph F2.si_iter k F2.ent_iter ?_ (F2.args_iter _));show OK _ _ (ret (.ref I)) _ _ s;exact On ⟨_,rfl,"set_iterator",_,k,F2.si_next.lookup,d⟩
end
end L2.Hs
namespace L2.Hs
open PySem PySem.SetTable PyProof.Rows
section
variable{prog:Pf}{w:Po}{A:PV}{E:Oy->OD->Prop}{s:OD}
theorem DC{o:Pa}{es:Array (Int×Oy)}{t:PQ}(b:s.heap.get? a=on o)(f:o.cls= .type "set")(hd:o.data= .set es ep t)(c:t.fits es.size=Oq)(g:t.plain=Oq)
  (h:Q (.ref s.heap.objs.size) {s with heap:=s.heap.push {cls:= .type "set_iterator",data:= .fields #[.int (0:Nat) 0,.int (0:Nat) 0,.ref a,.int es.size 0,.int ep 0]}}):OK (O7 prog w) A (UZ (.ref a)) Q E s:=by
 have d:s.TypeIs (.ref a) "set":=⟨o,b,f⟩;refine Tf d F.slot_set_iter (Ph F.slot_set_iter d F2.ent_set_iter ?_ (F.args_set_iter_1 _));unfold Builtin.«frozenset.__iter__»;refine My (R0 (a:=a) rfl ?_);refine My (My (Vy b hd c (On ?_)));refine My ?_;unfold setDrawn;refine My (QB b hd c (My (lR (On ?_))));rw[OC (λz=>by
  have e:(!((O7 prog w).w.params.followText "set-order")&&(!t.plain&&decide (es.size>1)))=Oq:=z;rw[g]at e;simp at e)]
 refine My (On ?_);refine My (wpAny_setEpoch_of b hd c ?_);unfold newFields;refine My (Pk (On ⟨_,rfl,"set_iterator",_,⟨_,OL _ rfl,rfl⟩,F2.si_next.lookup,?_⟩));exact h
theorem uU{o:Pa}{es:Array (Int×Oy)}{t:PQ}(hh:A.handled=Om)(U:s.heap.get? a=on o)(B:o.cls= .type "set")(hd:o.data= .set es ep t)(T:Tb t hs)(X:t.fits es.size=Oq)(Y:t.plain=Oq)(hl:t.led=!(w.params.followText "set-order"))
  (hsz:es.size<=1000)
  (hQ:∀h' Z vs,(∀b o,s.heap.get? b=on o->h'.get? b=on o)->s.heap.objs.size<=h'.objs.size->s.toks<=Z->vs.Perm (es.toList.map (·.2))->Q vs {s with heap:=h',toks:=Z}):OK (O7 prog w) A (collect (.ref a)) Q E s:=by
 unfold collect;refine My (Xf (T3 XQ ?_));rw[S3 XR _];show OK _ A.in1 (newList []>>=λl=>VC (.builtin "list.__iadd__" ⟨[l,.ref a],[]⟩)) _ _ s;refine My (Pk ?_);refine On ⟨VD Uu _,T3 F.entry_list_iadd ?_⟩;rw[S3 Uu _];have ha:=O1 U;have g:(s.heap.push {cls:= .type "list",data:= .seq ([]:List Oy).toArray}).get? a=on o:=Oo _ U;have C:(s.heap.push {cls:= .type "list",data:= .seq ([]:List Oy).toArray}).get? s.heap.objs.size=on {cls:= .type "list",data:= .seq ([]:List Oy).toArray}:=OL _ rfl;have r:s.heap.objs.size≠a:=Rf ha;have y:R6 (.ref s.heap.objs.size) (.ref a)=Ov:=by simp[R6,r]
 have H:(⟨s.heap.push {cls:= .type "list",data:= .seq ([]:List Oy).toArray},s.gens,s.drawn,s.toks,s.os⟩:OD).TypeIs (.ref a) "set":=⟨o,g,B⟩;show OK _ A.in1 (RA (.ref s.heap.objs.size) (.ref a) (.ref s.heap.objs.size)) _ _ _;unfold RA;refine My (U4 H ?_);rw[OC (by rw[y];decide)];refine My (DC g B hd X Y ?_);refine My (P4 ?_);unfold U8;have n:(⟨(s.heap.push {cls:= .type "list",data:= .seq ([]:List Oy).toArray}).push {cls:= .type "set_iterator",data:= .fields #[.int (0:Nat) 0,.int (0:Nat) 0,.ref a,.int es.size 0,.int ep 0]},s.gens,s.drawn,s.toks,s.os⟩:OD).TypeIs (.ref a) "set":=⟨o,Oo _ g,B⟩;refine My (Rg n F.slot_set_len.lookup ?_)
 (generalize u:("set.__len__":String)=id0;wp_delta;rw[show splitId id0=on ("set","__len__")from by subst u;decide +kernel];subst u)
 refine My (QI (b:=Oq) n (by rw[Td];kernel_rfl) ?_);rw[OC (by decide)];show OK _ _ (if _ then _ else _) _ _ _;rw[OE (by decide)];refine My (U4 n ?_);refine On ?_;rw[OE (by decide)];refine My (R5 ?_);have eI:(s.heap.push {cls:= .type "list",data:= .seq ([]:List Oy).toArray}).objs.size=s.heap.objs.size+1:=by rw[size_push']
 generalize h:(s.heap.push {cls:= .type "list",data:= .seq ([]:List Oy).toArray}).push {cls:= .type "set_iterator",data:= .fields #[.int (0:Nat) 0,.int (0:Nat) 0,.ref a,.int es.size 0,.int ep 0]}=d;have gS:d.get? s.heap.objs.size=on (Q8 "list" #[] 0):=by rw[<-h];exact Oo _ C
 have gI:d.get? (s.heap.objs.size+1)=on {cls:= .type "set_iterator",data:= .fields #[.int (0:Nat) 0,.int (0:Nat) 0,.ref a,.int es.size 0,.int ep 0]}:=by rw[<-h,<-eI];exact OL _ rfl
 have ga:d.get? a=on o:=by rw[<-h];exact Oo _ g
 have p:∀b f,s.heap.get? b=on f->d.get? b=on f:=λb f e=>by rw[<-h];exact Oo _ (Oo _ e)
 unfold Vz;refine My (My (SN gS rfl ?_ (by show 0<=_;omega) (by show 1<=_;omega)));obtain⟨e1,g1⟩:∃e1,(d.update s.heap.objs.size (P6 λxs=>xs.push Pj)).get? s.heap.objs.size=on (Q8 "list" #[Pj] e1):=⟨_,get?_update_seq gS λxs=>xs.push Pj⟩;refine SN g1 rfl ?_ (by show 1<=OV;decide) (by show 0<=_;omega);obtain⟨J,g2⟩:∃J,((d.update s.heap.objs.size (P6 λxs=>xs.push Pj)).update s.heap.objs.size (P6 λxs=>xs.pop)).get? s.heap.objs.size=on (Q8 "list" #[] J):=⟨_,get?_update_seq g1 λxs=>xs.pop⟩;have c:∀b f,b≠s.heap.objs.size->d.get? b=on f->((d.update s.heap.objs.size (P6 λxs=>xs.push Pj)).update s.heap.objs.size (P6 λxs=>xs.pop)).get? b=on f:=λb f q e=>by
  rw[QK _ _ _ _ q,QK _ _ _ _ q];exact e
 generalize (d.update s.heap.objs.size (P6 λxs=>xs.push Pj)).update s.heap.objs.size (P6 λxs=>xs.pop)=h4 at g2 c;have L:s.heap.objs.size+1≠a:=Rf (R7 ha);have st:PJ w h4 (s.heap.objs.size+1) a es ep t 0:=⟨⟨o,c a o (Ne.symm r) ga,hd⟩,_,0,c _ _ (by omega) gI,rfl,rfl,λ_=>by
  have:=iB (j:=0) T.rs;rcases Nat.eq_zero_or_pos (below t.place 0)with z|z
  .exact z
  .have e:=getElem?_pos t.place 0 (by omega)
   have:=this.2.1 0 _ z e;omega⟩
 have W:=AQ (prog:=prog) (w:=w) (A:=A.in1) (I:=s.heap.objs.size+1) (a:=a) (ep:=ep) hh T X Y hl L;show OK _ _ (VC _) _ _ _;rw[eI];refine On ⟨VD F.plain_extend_loop _,codeAny_extend_loopS W.toS (by rw[Qr];omega) s.heap.objs.size (by simp;omega) _ es.size 0 _ #[] J rfl (PX _) st g2 (ItemsOf.nil _) λs' k c' hm v m=>?_⟩;show OK _ A (load s.heap.objs.size>>=_) _ _ s';refine My (wpAny_load v ?_);refine On ?_;have N:s'={s with heap:=s'.heap,toks:=s'.toks}:=by
  have y:=hm.gens;have d:=hm.drawn;have h3:=hm.os;obtain⟨a1,a2,a3,a4,a5⟩:=s';simp only at y d h3;subst y d h3;rfl
 rw[N];refine hQ _ _ _ (λb f e=>?_) (TF (O1 v)) hm.toks ?_
 .have q:=O1 e
  exact hm.heap b f (by simp only[ON,Qe,SG,Yq];exact⟨Ps q,Ps (R7 q)⟩) (c b f (Ps q) (p b f e))
 .refine List.Perm.trans (Vi ?_) ((jV w a ep es).map (·.2))
  have O:(dD w a ep es).size=es.size:=by rw[<-Pe,(jV w a ep es).length_eq,Pe]
  refine QG (by rw[Pe,Ol,Pe,O,m.1]) λi q1 q2=>?_;have R:i<k.size:=by simpa using q1
  obtain⟨e,he,hv⟩:=m.2 i _ (getElem?_pos k i R);rw[Rq,hv,Rh,Rq];have:=Px.mp he;obtain⟨z1,z2⟩:=this;rw[z2]
end
end L2.Hs
namespace L2.Hs
open PySem PySem.W PyProof.Rows
section
variable{α β:Type}{lt:Nat->Nat->Bool}{n:Nat}
def Rn(lt:Nat->Nat->Bool)(n:Nat):KasT α->(α->Prop)->Prop
 | .ret a,Φ=>Φ a
 | .ask i j k,Φ=>i<n/\j<n/\Rn lt n (k (lt i j)) Φ
theorem Rn.bind{Φ:β->Prop}:∀{t:KasT α},Rn lt n t (λa=>Rn lt n (f a) Φ)->Rn lt n (t.bind f) Φ
 | .ret a,h=>h
 | .ask i j k,⟨h1,h2,h3⟩=>⟨h1,h2,Rn.bind h3⟩
theorem Rn.mono{Φ Ψ:α->Prop}(b:∀a,Φ a->Ψ a):∀{t:KasT α},Rn lt n t Φ->Rn lt n t Ψ
 | .ret a,h=>b a h
 | .ask i j k,⟨h1,h2,h3⟩=>⟨h1,h2,Rn.mono b h3⟩
theorem Rn.wp{Φ:α->Prop}(b:∀i j,i<n->j<n->∀C:Bool->OD->Prop,C (lt i j) s->cmp i j C s)(c:∀a,Φ a->Q a s):∀{t:KasT α},Rn lt n t Φ->t.kasWp cmp Q s
 | .ret a,h=>c a h
 | .ask i j k,⟨h1,h2,h3⟩=>b i j h1 h2 _ (Rn.wp b c h3)
end
section
variable{rk:Nat->Nat}{n:Nat}
noncomputable abbrev ri(rk:Nat->Nat)(i j:Nat):Bool:=decide (rk i<rk j)
noncomputable abbrev ky(rk:Nat->Nat)(p:Array Nat)(i:Nat):Nat:=rk (p.getD i 0)
structure Pm (rk:Nat->Nat) (n:Nat) (p:Array Nat):Prop where
 perm:p.toList.Perm (OB n)
 inj:∀i j,i<n->j<n->rk i=rk j->i=j
theorem Pm.sz{p:Array Nat}(h:Pm rk n p):p.size=n:=by have:=h.perm.length_eq;simpa using this
theorem Pm.lt{p:Array Nat}(h:Pm rk n p)(a:i<n):p.getD i 0<n:=by
 have hs:=h.sz;have e:p.getD i 0=p[i]:=by simp[Rx,show i<p.size by omega]
 rw[e];exact OY.mp (h.perm.mem_iff.mp (by simp))
theorem Pm.ne(h:Pm rk n p)(a:i<j)(b:j<n):ky rk p i≠ky rk p j:=λz=>by
 have hs:=h.sz;have:=h.inj _ _ (h.lt (show i<n by omega)) (h.lt b) z;have nd:p.toList.Nodup:=h.perm.nodup_iff.mpr VB;have c:p.getD i 0=p.toList[i]'(by simp;omega):=by simp[Rx,show i<p.size by omega]
 have d:p.getD j 0=p.toList[j]'(by simp;omega):=by simp[Rx,show j<p.size by omega]
 rw[c,d]at this;exact O4 this (Ro.mp nd i j (by simp;omega) (by simp;omega) a)
theorem Pm.of{p q:Array Nat}(h:Pm rk n p)(a:q.Perm p):Pm rk n q:=⟨(Array.perm_iff_toList_perm.mp a).trans h.perm,h.inj⟩
def So(rk:Nat->Nat)(p:Array Nat)(k:Nat):Prop:=∀i j,i<j->j<k->ky rk p i<ky rk p j
def De(rk:Nat->Nat)(p:Array Nat)(k:Nat):Prop:=∀i j,i<j->j<k->ky rk p j<ky rk p i
theorem So.succ(h:So rk p k)(c:1<=k)(b:ky rk p (k-1)<ky rk p k):So rk p (k+1):=λi j a d=>by
 by_cases q:j=k
 .subst q
  by_cases z:i=j-1
  .subst z;exact b
  .exact TH (h i (j-1) (by omega) (by omega)) b
 .exact h i j a (by omega)
theorem De.succ(h:De rk p k)(c:1<=k)(b:ky rk p k<ky rk p (k-1)):De rk p (k+1):=λi j a d=>by
 by_cases q:j=k
 .subst q
  by_cases z:i=j-1
  .subst z;exact b
  .exact TH b (h i (j-1) (by omega) (by omega))
 .exact h i j a (by omega)
theorem uO(P:Pm rk n p):∀(f k:Nat),1<=k->k+f<=n->So rk p k->Rn (ri rk) n (kas_asc p f k) λm=>k<=m/\m<=k+f/\So rk p m/\(m=k+f\/ky rk p m<ky rk p (m-1))
 |0,k,_,_,h=>⟨OG k,OG _,h,.inl rfl⟩
 |f+1,k,h1,h2,h=>by
  refine⟨P.lt (by omega),P.lt (by omega),?_⟩;by_cases q:ky rk p k<ky rk p (k-1)
  .rw[show ri rk (p.getD k 0) (p.getD (k-1) 0)=Oq from OO q];dsimp only;rw[OE rfl]
   exact⟨OG k,by omega,h,.inr q⟩
  .rw[show ri rk (p.getD k 0) (p.getD (k-1) 0)=Ov from Pp q];dsimp only;rw[OC OH]
   have:=P.ne (show k-1<k by omega) (show k<n by omega);refine Rn.mono (λm hm=>?_) (uO P f (k+1) (by omega) (by omega) (h.succ h1 (by omega)));exact⟨by omega,by omega,hm.2.2.1,by rcases hm.2.2.2 with z|z;exact .inl (by omega);exact .inr z⟩
theorem v6(P:Pm rk n p):∀(f k:Nat),1<=k->k+f<=n->De rk p k->Rn (ri rk) n (kas_desc f p k 0) λr=>r.1=p/\r.2.2=0/\k<=r.2.1/\r.2.1<=k+f/\De rk p r.2.1
 |0,k,_,_,h=>⟨rfl,rfl,OG k,OG _,h⟩
 |f+1,k,h1,h2,h=>by
  refine⟨P.lt (by omega),P.lt (by omega),?_⟩;by_cases q:ky rk p k<ky rk p (k-1)
  .rw[show ri rk (p.getD k 0) (p.getD (k-1) 0)=Oq from OO q];dsimp only;rw[OE rfl,OC (PH 0)]
   refine Rn.mono (λm hm=>?_) (v6 P f (k+1) (by omega) (by omega) (h.succ h1 q));exact⟨hm.1,hm.2.1,by have:=hm.2.2.1;omega,by have:=hm.2.2.2.1;omega,hm.2.2.2.2⟩
  .rw[show ri rk (p.getD k 0) (p.getD (k-1) 0)=Ov from Pp q];dsimp only;rw[OC OH]
   have:=P.ne (show k-1<k by omega) (show k<n by omega);refine⟨P.lt (by omega),P.lt (by omega),?_⟩;rw[show ri rk (p.getD (k-1) 0) (p.getD k 0)=Oq from OO (show ky rk p (k-1)<ky rk p k by omega)];dsimp only;rw[OE rfl];exact⟨rfl,rfl,OG k,by show k<=_;omega,h⟩
theorem vW{p q:Array Nat}(h:p[i]?=q[j]?):p.getD i 0=q.getD j 0:=by
 have a:∀(r:Array Nat) (x:Nat),r.getD x 0=(r[x]?).getD 0:=λr x=>by
  by_cases b:x<r.size
  .simp[Rx,b]
  .simp[Rx,b]
 rw[a,a,h]
theorem KN{p:Array Nat}(a:k<=p.size)(h:De rk p k):So rk (kas_rev p 0 k) k:=λi j b c=>by
 have g:∀x,x<k->(kas_rev p 0 k).getD x 0=p.getD (k-1-x) 0:=λx d=>by
  refine vW ?_;unfold kas_rev;rw[getElem?_mirror_all a,OE (by omega)];congr 1;omega
 show rk _<rk _;rw[g i (by omega),g j c];exact h (k-1-j) (k-1-i) (by omega) (by omega)
theorem AY(P:Pm rk n p)(b:1<=k)(c:k<=n)(h:De rk p k):Rn (ri rk) n (kas_tail3 k n p) λr=>Pm rk n r.2/\1<=r.1/\r.1<=n/\So rk r.2 r.1:=by
 have a:Pm rk n (kas_rev p 0 k):=P.of (mirror_perm _ _ _ _);unfold kas_tail3;refine Rn.bind (Rn.mono (λm hm=>?_) (uO a (n-k) k b (by omega) (KN (by rw[P.sz];exact c) h)));exact⟨a,by omega,by omega,hm.2.2.1⟩
theorem DU(P:Pm rk n p)(d:1<=n):Rn (ri rk) n (kas_count n p) λr=>Pm rk n r.2/\1<=r.1/\r.1<=n/\So rk r.2 r.1:=by
 unfold kas_count;refine Rn.bind (Rn.mono (λm hm=>?_) (uO P (n-1) 1 (OG 1) (by omega) λi j a b=>by omega));obtain⟨a1,a2,a3,a4⟩:=hm;by_cases q:m=n
 .rw[OE (by rw[Sy];exact q)]
  exact⟨P,by omega,by omega,a3⟩
 .rw[OC (by rw[Sy];exact q)]
  have hd:ky rk p m<ky rk p (m-1):=by
   rcases a4 with z|z
   .omega
   .exact z
  by_cases q1:m>1
  .rw[OE q1]
   refine⟨P.lt (by omega),P.lt (by omega),?_⟩;rw[show ri rk (p.getD 0 0) (p.getD (m-1) 0)=Oq from OO (a3 0 (m-1) (by omega) (by omega))];dsimp only;rw[OE rfl];exact⟨P,by omega,by omega,a3⟩
  .rw[OC q1]
   obtain rfl:m=1:=by omega
   unfold kas_descPart;refine Rn.bind (Rn.mono (λr c=>?_) (v6 P (n-(1+1)) (1+1) (by omega) (by omega) λi j a b=>by
    obtain rfl:j=1:=by omega
    obtain rfl:i=0:=by omega
    exact hd))
   obtain⟨rfl,b2,b3,b4,b5⟩:=c;rw[OC (by omega)];exact AY P (by omega) (by omega) b5
theorem nK(P:Pm rk n p)(a:k<n):∀(f l r:Nat),l<=r->r<=k->r-l<=f->(∀i,i<l->ky rk p i<ky rk p k)->(∀i,r<=i->i<k->ky rk p k<ky rk p i)->So rk p k->
  Rn (ri rk) n (kas_place p k f l r) λm=>m<=k/\(∀i,i<m->ky rk p i<ky rk p k)/\∀i,m<=i->i<k->ky rk p k<ky rk p i
 |0,l,r,h1,h2,h3,ha,hb,_=>by
  obtain rfl:l=r:=by omega
  exact⟨h2,ha,hb⟩
 |f+1,l,r,h1,h2,h3,ha,hb,so=>by
  unfold kas_place;by_cases q:l≥r
  .rw[OE q]
   obtain rfl:l=r:=by omega
   exact⟨h2,ha,hb⟩
  .rw[OC q]
   refine⟨P.lt (by omega),P.lt (by omega),?_⟩;by_cases z:ky rk p k<ky rk p ((l+r)/2)
   .rw[show ri rk (p.getD k 0) (p.getD ((l+r)/2) 0)=Oq from OO z];dsimp only;rw[OE rfl]
    refine nK P a f l ((l+r)/2) (by omega) (by omega) (by omega) ha (λi c b=>?_) so;by_cases w:i=(l+r)/2
    .subst w;exact z
    .exact TH z (so _ i (by omega) b)
   .rw[show ri rk (p.getD k 0) (p.getD ((l+r)/2) 0)=Ov from Pp z];dsimp only;rw[OC OH]
    have d:=P.ne (show(l+r)/2<k by omega) a;refine nK P a f ((l+r)/2+1) r (by omega) h2 (by omega) (λi c=>?_) hb so;by_cases w:i=(l+r)/2
    .subst w;omega
    .exact TH (so i ((l+r)/2) (by omega) (by omega)) (by omega)
theorem AE:∀(f:Nat) {p:Array Nat} {k:Nat},Pm rk n p->k+f=n->So rk p k->Rn (ri rk) n (kas_bin f p k) λb=>Pm rk n b/\So rk b n
 |0,p,k,P,hk,so=>⟨P,by rw[<-hk];exact so⟩
 |f+1,p,k,P,hk,so=>by
  unfold kas_bin;refine Rn.bind (Rn.mono (λm hm=>?_) (nK P (by omega) k 0 k (PX _) (OG _) (by omega) (λi h=>O4 h (Q7 i)) (λi l c=>by omega) so));obtain⟨l,c,o⟩:=hm;have r:Pm rk n (bubble p k (k-m)):=P.of (bubble_perm _ _ _);refine AE f r (by omega) λi j a t=>?_;have ks:k<p.size:=by rw[P.sz];omega
  have g:∀x:Nat,(bubble p k (k-m)).getD x 0=p.getD (if x=m then k else if m<x/\x<=k then x-1 else x) 0:=λx=>by
   refine vW ?_;rw[getElem?_bubble ks (k-m) (by omega)];by_cases q:x=m
   .rw[OE (by omega),OE q]
   .rw[OC (by omega),OC q]
    by_cases q2:m<x/\x<=k
    .rw[OE (by omega),OE q2]
    .rw[OC (by omega),OC q2]
  show rk _<rk _;rw[g i,g j];by_cases q1:i=m
  .rw[OE q1,OC (by omega),OE (by omega)]
   exact o (j-1) (by omega) (by omega)
  .rw[OC q1]
   by_cases q2:j=m
   .rw[OE q2,OC (by omega)]
    exact c i (by omega)
   .rw[OC q2]
    by_cases d:m<i/\i<=k
    .rw[OE d,OE (by omega)]
     exact so (i-1) (j-1) (by omega) (by omega)
    .rw[OC d]
     by_cases e:m<j/\j<=k
     .rw[OE e]
      exact so i (j-1) (by omega) (by omega)
     .rw[OC e]
      exact so i j a (by omega)
theorem I9(a:1<=n)(inj:∀i j,i<n->j<n->rk i=rk j->i=j):Rn (ri rk) n (kas_sort n) λp=>Pm rk n p/\So rk p n:=by
 unfold kas_sort;have P:Pm rk n (List.toArray (OB n)):=⟨.refl _,inj⟩;refine Rn.bind (Rn.mono (λr b=>?_) (DU P a));obtain⟨a1,a2,a3,a4⟩:=b;by_cases q:r.1<n
 .rw[OE q,Nat.max_eq_left a2]
  exact AE _ a1 (by omega) a4
 .rw[OC q]
  obtain rfl:r.1=n:=by omega
  exact⟨a1,a4⟩
noncomputable def cL:List Int->List Int->Bool
 |[],[]=>Ov
 |[],_::_=>Oq
 |_::_,[]=>Ov
 |a::as,b::bs=>if a=b then cL as bs else decide (a<b)
theorem gY:∀x,cL x x=Ov
 |[]=>rfl
 |a::as=>by unfold cL;rw[OE rfl];exact gY as
theorem pf:∀{x y z},cL x y=Oq->cL y z=Oq->cL x z=Oq
 |[],[],_,h,_=>by cases h
 |[],_::_,[],_,h=>by cases h
 |[],_::_,_::_,_,_=>rfl
 |_::_,[],_,h,_=>by cases h
 |_::_,_::_,[],_,h=>by cases h
 |a::as,b::bs,c::cs,h1,h2=>by
  unfold cL at h1 h2⊢;by_cases q1:a=b
  .rw[OE q1]at h1
   by_cases q2:b=c
   .rw[OE q2]at h2
    rw[OE (q1.trans q2)];exact pf h1 h2
   .rw[OC q2]at h2
    rw[OC (by rw[q1];exact q2),q1];exact h2
  .rw[OC q1]at h1
   have d:=PU h1;by_cases q2:b=c
   .rw[OC (by rw[<-q2];exact q1),<-q2];exact h1
   .rw[OC q2]at h2
    have e:=PU h2;rw[OC (by omega)];exact OO (by omega)
theorem mB:∀{x y},cL x y=Ov->cL y x=Ov->x=y
 |[],[],_,_=>rfl
 |[],_::_,h,_=>by cases h
 |_::_,[],_,h=>by cases h
 |a::as,b::bs,h1,h2=>by
  unfold cL at h1 h2;by_cases q:a=b
  .rw[OE q]at h1
   rw[OE q.symm]at h2;rw[q,mB h1 h2]
  .rw[OC q]at h1
   rw[OC (Ne.symm q)]at h2;have:=of_decide_eq_false h1;have:=of_decide_eq_false h2;omega
theorem uH:∀{L:List Nat},(∀l∈L,p l=Oq->q l=Oq)->∀{i},i∈L->p i=Ov->q i=Oq->L.countP p<L.countP q
 |[],_,i,h,_,_=>by cases h
 |a::L,hpq,i,hi,h1,h2=>by
  have le:L.countP p<=L.countP q:=List.countP_mono_left λl b=>hpq l (Ot a b);rcases ON.mp hi with rfl|hi
  .rw[List.countP_cons_of_neg (by rw[h1];exact OH),List.countP_cons_of_pos h2]
   omega
  .have ih:=uH (λl b=>hpq l (Ot a b)) hi h1 h2
   rw[List.countP_cons,List.countP_cons];have:(if p a=Oq then 1 else 0)<=(if q a=Oq then 1 else 0):=by
    by_cases z:p a=Oq
    .rw[OE z,OE (hpq a Oz z)];exact OG 1
    .rw[OC z];exact PX _
   omega
def gC(ks:LI)(i:Nat):Nat:=(OB ks.length).countP λj=>cL (ks.getD j []) (ks.getD i [])
theorem rL{ks:LI}(a:i<ks.length)(h:cL (ks.getD i []) (ks.getD j [])=Oq):gC ks i<gC ks j:=
 uH (λl _ b=>pf b h) (OY.mpr a) (gY _) h
theorem yA{ks:LI}(b:i<ks.length)(c:j<ks.length):decide (gC ks i<gC ks j)=cL (ks.getD i []) (ks.getD j []):=by
 cases h:cL (ks.getD i []) (ks.getD j [])with
 |true=>exact OO (rL b h)
 |false=>
  refine Pp λz=>?_;cases a:cL (ks.getD j []) (ks.getD i [])with
  |true=>have:=rL c a;omega
  |false=>
   have e:=mB h a;unfold gC at z;rw[e]at z;exact PH _ z
theorem KK{ks:LI}(nd:ks.Nodup)(a:i<ks.length)(b:j<ks.length)(h:gC ks i=gC ks j):i=j:=by
 have e:ks.getD i []=ks.getD j []:=by
  refine mB ?_ ?_
  .cases z:cL (ks.getD i []) (ks.getD j [])with
   |false=>rfl
   |true=>have:=rL a z;omega
  .cases z:cL (ks.getD j []) (ks.getD i [])with
   |false=>rfl
   |true=>have:=rL b z;omega
 rw[Op,Op,Os a,Os b]at e;have c:ks[i]=ks[j]:=e;rcases R8 i j with z|z|z
 .exact O4 c (Ro.mp nd i j a b z)
 .exact z
 .exact O4 c.symm (Ro.mp nd j i b a z)
abbrev Up(l:LI):Prop:=l.Pairwise λa b=>cL a b=Oq
theorem rG:∀{l m:LI},Up l->Up m->(∀x,x∈l↔x∈m)->l=m
 |[],[],_,_,_=>rfl
 |[],b::m,_,_,h=>by have:=(h b).mpr Oz;cases this
 |a::l,[],_,_,h=>by have:=(h a).mp Oz;cases this
 |a::l,b::m,h1,h2,h=>by
  obtain⟨d,f⟩:=SH.mp h1;obtain⟨q1,q2⟩:=SH.mp h2;have e:a=b:=by
   rcases ON.mp ((h a).mp Oz)with z|z
   .exact z
   .rcases ON.mp ((h b).mpr Oz)with w|w
    .exact w.symm
    .have:=pf (q1 a z) (d b w)
     rw[gY]at this;cases this
  subst e;congr 1;refine rG f q2 λx=>⟨λc=>?_,λc=>?_⟩
  .rcases ON.mp ((h x).mp (Ot a c))with rfl|z
   .have:=d x c;rw[gY]at this;cases this
   .exact z
  .rcases ON.mp ((h x).mpr (Ot a c))with rfl|z
   .have:=q1 x c;rw[gY]at this;cases this
   .exact z
variable{prog:Pf}{w:Po}{A:PV}{E:Oy->OD->Prop}{s:OD}
theorem vK{b:Bool}:∀{xs ys:List Int} {us vs:List Oy} (i:Nat),ItemsAre (UY prog w) xs us->ItemsAre (UY prog w) ys vs->∀n m:Nat,(decide (n+us.length<m+vs.length)=decide (xs.length<ys.length))->Q (cL xs ys) s->KatLex prog w A Oq (decide (n+us.length<m+vs.length)) Q (us.zip vs) i s
 |[],ys,us,vs,i,hx,hy,n,m,e,q=>by
  cases hx;cases hy with
  |nil=>rw[Vt];exact kat_nil (by rw[e];exact q)
  |cons c d=>rw[Vt];exact kat_nil (by rw[e];exact q)
 |x::xs,ys,us,vs,i,hx,hy,n,m,e,q=>by
  cases hx with
  |@cons _ u _ us' c d=>
   cases hy with
   |nil=>rw[List.zip_nil_right];exact kat_nil (by rw[e];exact q)
   |@cons y v ys' vs' h3 h4=>
    obtain⟨g,rfl⟩:=Vl c;obtain⟨h,rfl⟩:=Vl h3;rw[QX];refine kat_cons (wpAny_eqBool_int ?_);unfold cL at q;by_cases z:x=y
    .rw[OE z]at q
     rw[show(x==y)=Oq by rw[Sy];exact z];refine kat_yes ?_;have f:∀k l:Nat,decide (k+(us'.length+1)<l+(vs'.length+1))=decide (k+1+us'.length<l+1+vs'.length):=λk l=>decide_eq_decide.mpr (by omega);rw[OR,OR,f];refine vK (b:=b) (i+1) d h4 (n+1) (m+1) ?_ q;rw[<-f,<-OR (a:=Sc x g),<-OR (a:=Sc y h),e,OR,OR];exact decide_eq_decide.mpr (by omega)
    .rw[OC z]at q
     rw[show(x==y)=Ov by rw[WE];exact z];refine kat_no ?_;cases j:(Oq&&i==0)with
     |true=>exact oneLt_int q
     |false=>exact kat_one _ _ (lt_int (show PySem.W.BoolBack Q (.bool _) s from q))
theorem Lq(i:(jm prog w).is s.heap xs x)(j:(jm prog w).is s.heap ys y)(h:Q (cL xs ys) s):OK (O7 prog w) A (keyLt' (tuples' Oq) (.ref x) (.ref y)) Q E s:=by
 obtain⟨m,o,p,d,k,e,a⟩:=i;obtain⟨o2,q,r,f,l,g,c⟩:=j;refine kat_lt d e f g ?_;have:=vK (A:=A) (b:=Oq) (Q:=Q) (s:=s) 0 a c 0 0 (by rw[QN,QN,a.length,c.length]) h;rw[QN,QN,Pe,Pe]at this;exact this
theorem uY:∀{ks:List (List Int×Ou)},(∀k∈ks,(jm prog w).is s.heap k.1 k.2/\1<=k.1.length)->∃fs:List Oy,KatTups s.heap (ks.map λk=>OP k.2) fs/\fs.length=ks.length/\∀v∈fs,∃n t,v=Sc n t
 |[],_=>⟨[],trivial,rfl,λv hv=>by cases hv⟩
 |k::ks,h=>by
  obtain⟨fs,c,d,f⟩:=uY λg i=>h g (Ot k i);obtain⟨⟨o,its,n,j,l,hd,b⟩,p⟩:=h k Oz;have a:=b.length;have m:0<its.size:=by rw[<-Pe,<-a];omega
  have e:=getElem?_pos its 0 m;refine⟨its[0]::fs,KatTups.cons j l hd e c,by rw[OR,OR,d],λv hv=>?_⟩;rcases ON.mp hv with rfl|hv
  .exact items_int b _ (by rw[<-Rq];exact Pr _)
  .exact f v hv
theorem qK{ks:List (List Int×Ou)}{n:Nat}{P:Ur->OD->Prop}(L:s.heap.get? a=on (Q8 "list" (ks.map λk=>OP k.2).toArray n))(hk:∀k∈ks,(jm prog w).is s.heap k.1 k.2/\1<=k.1.length)(nd:(ks.map (·.1)).Nodup)(h64:ks.length<64)
  (h:∀(h':P5) (l:List (List Int×Ou)) (n':Nat),l.Perm ks->Up (l.map (·.1))->h'.get? a=on (Q8 "list" (l.map λk=>OP k.2).toArray n')->(∀b o,b≠a->s.heap.get? b=on o->h'.get? b=on o)->P (.done (.ret .none)) {s with heap:=h'}):
  OK (O7 prog w) A (Builtin.«list.sort» ⟨[.ref a],[]⟩) P E s:=by
 have ha:a<s.heap.objs.size:=O1 L;rw[list_sort_plain];refine My (listItems_at L rfl ?_);refine My (SN L rfl ?_ (by simp[Qr];omega) (by simp));obtain⟨F,N⟩:∃F,(s.heap.update a (P6 λ_=>#[])).get? a=on (Q8 "list" #[] F):=⟨_,get?_update_seq L (λ_=>#[])⟩;refine My (seqEpoch_at N rfl ?_);refine My (Xe ?_ (by simp[Qr];omega));refine My (XM ?_ (PX _));refine P4 ?_;generalize q:(ks.map λk=>OP k.2)=vs at*;have u:vs.length=ks.length:=by rw[<-q,Ol]
 have d:(((s.heap.update a (P6 λ_=>#[])).push (Q8 "tuple" vs.toArray 0)).push (Q8 "list" #[] 0)).get? a=on (Q8 "list" #[] F):=by
  rw[Yc _ _ _ (by rw[size_push',Heap.size_update];exact Ps (R7 ha)),Yc _ _ _ (by rw[Heap.size_update];exact Ps ha)];exact N
 have keep:∀b o,b≠a->s.heap.get? b=on o->(((s.heap.update a (P6 λ_=>#[])).push (Q8 "tuple" vs.toArray 0)).push (Q8 "list" #[] 0)).get? b=on o:=λb o X e=>by
  refine Oo _ (Oo _ ?_);rw[QK _ _ _ _ X];exact e
 show OK (O7 prog w) A _ P E {s with heap:=((s.heap.update a (P6 λ_=>#[])).push (Q8 "tuple" vs.toArray 0)).push (Q8 "list" #[] 0)};generalize hh6:((s.heap.update a (P6 λ_=>#[])).push (Q8 "tuple" vs.toArray 0)).push (Q8 "list" #[] 0)=h6 at d keep
 dsimp only
 have O:∀(l:List (List Int×Ou)) (y:Array Oy),l.Perm ks->Up (l.map (·.1))->y=(l.map λk=>OP k.2).toArray->P (.done (.ret .none)) {s with heap:=h6.update a (P6 λ_=>y)}:=λl y p1 p2 e=>by
  refine h _ l _ p1 p2 (by rw[<-e];exact get?_update_seq d λ_=>y) λb o X Y=>?_;rw[QK _ _ _ _ X];exact keep b o X Y
 by_cases I:vs.toArray.size<2
 .rw[OE I,OE I]
  refine My (On ?_);rw[StateT.run_pure];refine My (On ?_)
  dsimp only
  refine My (seqEpoch_at d rfl ?_);have Z:((arrOf (SortSt.mk' general' (vs.toArray.zip vs.toArray) #[] 7 Om)).map (·.2))=vs.toArray:=by
   show(vs.toArray.zip vs.toArray).map (·.2)=_;apply Array.toList_inj.mp;rw[Array.toList_map,Array.toList_zip];exact List.map_snd_zip (OG _)
  rw[Z];refine My (SN d rfl ?_ (by simp) (by simp[Qr];omega));simp only[RZ,OW,PF];refine On (O ks _ (.refl _) ?_ (by rw[q]));have R:ks.length<2:=by rw[<-u];simpa using I
  match ks,R with
  |[],_=>exact UH
  |[k],_=>exact SK _ _
  |_::_::_,R=>simp at R;omega
 .rw[OC I,OC I]
  have h2':2<=ks.length:=by rw[<-u];simp at I;omega
  have H:∀k∈ks,(jm prog w).is h6 k.1 k.2/\1<=k.1.length:=λk hk'=>by
   obtain⟨⟨o,its,m,h1,h3,h4,h5⟩,R⟩:=hk k hk';refine⟨⟨o,its,m,keep _ _ (λz=>?_) h1,h3,h4,h5⟩,R⟩;rw[z,L]at h1;cases h1;exact O4 (Ry.inj h3) (by decide)
  obtain⟨fs,t1,t2,t3⟩:=uY (s:={s with heap:=h6}) H;rw[q]at t1;refine My (kat_kind (T:= .type "int") t1 (by omega) (λv hv=>?_) rfl ?_)
  .obtain⟨x,t,rfl⟩:=t3 v hv
   exact Looks.of_pure rfl
  show OK _ _ (StateT.run sortRuns' (SortSt.mk' (tuples' Oq) (vs.toArray.zip vs.toArray) #[] 7 Om)>>=_) _ _ _;have J:(ks.map (·.1)).length=vs.length:=by rw[Ol,u]
  have at_:∀i,i<vs.length->∃k∈ks,vs.getD i Pj= .ref k.2/\(ks.map (·.1)).getD i []=k.1/\ks[i]?=on k:=λi c=>by
   have f:i<ks.length:=by omega
   refine⟨ks[i],Pr f,?_,?_,Os f⟩
   .rw[<-q,Op,Ox,Os f];rfl
   .rw[Op,Ox,Os f];rfl
  refine My (PP (kat_run (κ:=tuples' Oq) (ks:=vs) (vs:=vs) (Q:=λg s'=>s'={s with heap:=h6}/\failedOf g=Om/\∃p:Array Nat,Pm (gC (ks.map (·.1))) vs.length p/\So (gC (ks.map (·.1))) p vs.length/\arrOf g=p.map (kas_item (vs.toArray.zip vs.toArray)))
   (G:=λp s'=>s'={s with heap:=h6}/\Pm (gC (ks.map (·.1))) vs.length p/\So (gC (ks.map (·.1))) p vs.length) rfl (by omega) (by omega) (λp g s' a1 a2 a3 a4=>⟨a4.1,a3,p,a4.2.1,a4.2.2,a2⟩)
   (Rn.wp (lt:=ri (gC (ks.map (·.1)))) (n:=vs.length) (λi j c B C hC=>?_) (λp hp=>⟨rfl,hp⟩) (I9 (by omega) λi j c B hr=>KK nd (by rw[J];exact c) (by rw[J];exact B) hr))) (λr s' hr=>?_) λ_ _ e=>e)
  .obtain⟨k1,m1,F,f1,_⟩:=at_ i c
   obtain⟨k2,m2,e2,f2,_⟩:=at_ j B;unfold kas_ask;rw[F,e2];refine Lq (H k1 m1).1 (H k2 m2).1 ?_;have:=yA (ks:=ks.map (·.1)) (i:=i) (j:=j) (by rw[J];exact c) (by rw[J];exact B);rw[f1,f2]at this;rw[<-this];exact hC
  .obtain⟨⟨⟩,g⟩:=r
   obtain⟨rfl,hf,p,P1,so,har⟩:=hr
   dsimp only
   have Z:(arrOf g).map (·.2)=(p.toList.map λi=>vs.getD i Pj).toArray:=kat_snds rfl har;have U:=P1.sz;rw[Z];refine My (seqEpoch_at d rfl ?_);refine My (SN d rfl ?_ (by simp) (by simp[Qr];omega));rw[hf];simp only[RZ,OW,PF];have W:∀i∈p.toList,i<vs.length:=λi c=>OY.mp (P1.perm.mem_iff.mp c);refine On (O (p.toList.map λi=>ks.getD i ([],0)) _ ?_ ?_ ?_)
   .refine(P1.perm.map _).trans (Vi ?_)
    rw[u];refine QG (by simp) λi q1 q2=>?_;rw[Rh,RH,Op,Os q2];rfl
   .rw[OA]
    unfold Up;rw[Uc];refine Ro.mpr λi j c B hij=>?_;have f:i<vs.length:=by simpa[U]using c
    have hj':j<vs.length:=by simpa[U]using B
    have gd:∀x (hx:x<p.toList.length),p.getD x 0=p.toList[x]:=λx hx=>by
     have:x<p.size:=by simpa using hx
     simp[Rx,this]
    have z:=so i j hij hj';unfold ky at z;rw[gd i c,gd j B]at z;obtain⟨k1,m1,F,f1,g1⟩:=at_ p.toList[i] (W _ (Pr c));obtain⟨k2,m2,e2,f2,g2⟩:=at_ p.toList[j] (W _ (Pr B));have:=yA (ks:=ks.map (·.1)) (i:=p.toList[i]) (j:=p.toList[j]) (by rw[J];exact W _ (Pr c)) (by rw[J];exact W _ (Pr B));rw[OO z,f1,f2]at this;simp only[TN];rw[Op,Op,g1,g2];exact this.symm
   .rw[OA]
    congr 1;refine O5 λi c=>?_;obtain⟨k1,m1,F,f1,g1⟩:=at_ i (W i c);rw[F];simp only[TN];rw[Op,g1];rfl
theorem BV{α β:Type}{f:α->β}{vs g:List β}(p:vs.Perm g):∀{xs:List α},g=xs.map f->∃ks:List α,ks.Perm xs/\vs=ks.map f:=by
 induction p with
 |nil=>
  intro xs e;cases xs with
  |nil=>exact⟨[],.refl _,rfl⟩
  |cons _ _=>cases e
 |cons x _ ih=>
  intro xs e;cases xs with
  |nil=>cases e
  |cons a xs=>
   cases e;obtain⟨ks,c,d⟩:=ih rfl;exact⟨a::ks,c.cons a,by rw[d];rfl⟩
 |swap x y l=>
  intro xs e
  match xs,e with
  |[],e=>cases e
  |[_],e=>cases e
  |a::b::xs,e=>
   cases e;exact⟨b::a::xs,.swap _ _ _,rfl⟩
 |trans _ _ ih1 ih2=>
  intro xs e;obtain⟨ks,c,d⟩:=ih2 e;obtain⟨h,i,j⟩:=ih1 d;exact⟨h,i.trans c,j⟩
theorem wD{xs:List (List Int×Ou)}(H:A.handled=Om)(S:qA prog w s.heap a xs)(I:∀x∈xs,1<=x.1.length)(J:xs.length<64)
  (h:∀(l:Ou) (h':P5) (f v:Nat) (g:List (List Int×Ou)),g.Perm xs->Up (g.map (·.1))->h'.get? l=on (Q8 "list" (g.map λk=>OP k.2).toArray v)->s.heap.objs.size<=l->(∀b o,s.heap.get? b=on o->h'.get? b=on o)->s.toks<=f->Q (.ref l) {s with heap:=h',toks:=f}):
  OK (O7 prog w) A (VI (.builtin "sorted") [.ref a]) Q E s:=by
 obtain⟨o,es,ep,t,L,y,hd,i,B,N,T,O,j⟩:=S;have C:es.size=xs.length:=by rw[<-Pe,i,Ol]
 have R:t.fits es.size=Oq:=T.fits (by rw[Ol,C]);refine V7 kind_sorted plain_sorted entry_sorted (args_sorted1 _) ?_;unfold Builtin.«sorted»;refine My (m:=checkCount "sorted" 1 1 _) (On ?_);refine My (uU H L y.1 hd T R O j (by omega) λp f vs keep q htk pv=>?_);rw[i,OA]at pv;obtain⟨ks,r,rfl⟩:=BV pv rfl;have U:ks.length=xs.length:=r.length_eq;refine My (XM ?_ (by rw[Ol,Qr];omega));have c:∀b d,s.heap.get? b=on d->(p.push (Q8 "list" (ks.map λk=>OP k.2).toArray 0)).get? b=on d:=λb d e=>Oo _ (keep b d e);have u:(p.push (Q8 "list" (ks.map λk=>OP k.2).toArray 0)).get? p.objs.size=on (Q8 "list" (ks.map λk=>OP k.2).toArray 0):=OL _ rfl;show OK _ _ _ _ _ {s with heap:=p.push (Q8 "list" (ks.map λk=>OP k.2).toArray 0),toks:=f};refine My (P4 (Ph slot_list_sort ⟨_,u,rfl⟩ entry_list_sort (qK u (λk F=>⟨?_,I k (r.mem_iff.mp F)⟩) ((r.map (·.1)).nodup_iff.mpr B) (by omega) λh' g v q1 q2 q3 q4=>⟨_,rfl,?_⟩) (args_list_sort _)))
 .obtain⟨W,its,m,X,Y,Z,z4⟩:=N k (r.mem_iff.mp F)
  exact⟨W,its,m,c _ _ X,Y,Z,z4⟩
 .refine On ⟨_,rfl,h p.objs.size h' f v g (q1.trans r) q2 q3 q (λb d e=>q4 b d (λz=>?_) (c b d e)) htk⟩
  have:=O1 e;exact O4 (z▸this) (Nat.not_lt.mpr q)
end
end L2.Hs
namespace L2.Hs
open PySem PySem.Spec PyProof.Rows
section
variable{prog:Pf}{w:Po}
def qB(prog:Pf)(w:Po)(a:Ou)(xs:List (List Int×Ou))(h:P5):Prop:=
 ∃o es ep t,h.get? a=on o/\o.ExactSet/\o.data= .set es ep t/\(es.toList=xs.map λx=>(hsh prog w x.1,OP x.2))/\(xs.map (·.1)).Nodup/\(Tb t (xs.map λx=>hsh prog w x.1))/\t.plain=Oq/\t.led=!(w.params.followText "set-order")
noncomputable def lV(prog:Pf)(w:Po)(a:Ou)(xs:List (List Int×Ou)):HO:= .ext (qB prog w a xs)
theorem qB.to(S:qB prog w a xs h)(b:∀x∈xs,(jm prog w).is h x.1 x.2):qA prog w h a xs:=by
 obtain⟨o,es,ep,t,c,d,e,f,g,i⟩:=S;exact⟨o,es,ep,t,c,d,e,f,g,b,i⟩
theorem va(S:qB prog w a xs h):bF prog w H h a (lV prog w a xs):=by
 refine⟨S,?_,λb c z k=>?_⟩
 .obtain⟨o,_,_,_,e,_⟩:=S
  exact⟨o,e⟩
 .obtain⟨o,es,ep,t,e,r⟩:=z
  exact⟨o,es,ep,t,k _ e,r⟩
theorem DD{k:List Int}:∀{its:List Oy},au (k.map V.int) its->ItemsAre (UY prog w) k its:=by
 induction k with
 |nil=>intro its h;cases h;exact .nil
 |cons i k ih=>
  intro its h;cases h with
  |cons a b=>
   obtain⟨t,rfl⟩:=a;exact .cons (by simp[UY,W2]) (ih b)
variable{X:Cx}
theorem j5{s:OD}{k:List Int}(I:dc X a_ σ H s)(h:i_ X.K H b (k.map V.int)):(jm X.prog X.w).is s.heap k b:=by
 obtain⟨its,a,⟨o,e,c,n,hd⟩,_⟩:=I.tuple h;exact⟨o,its.toArray,n,e,c,hd,DD a⟩
theorem tb0{b:Bool}:Tb (.fresh 0 0 b) []:=⟨.inl rfl,rfl,λi j a b h=>by simp[X3]at*,λi j h=>by simp[X3]at h,rfl,by show 0*5<7*3;decide,λi h j c=>by simp at c⟩
theorem kE:∀a:List (List Int×Ou),au (a.map λz=>V.ref z.2) (a.map λk=>OP k.2)
 |[]=> .nil
 |_::a=> .cons rfl (kE a)
theorem JC:Zp X (newSet (.type "set")) λD=>lV X.prog X.w D []:=λa s c H E Q I h=>by
 unfold newSet setsByText;refine My (My (Tx (On ?_)))
 dsimp only
 simp only[newObj];refine My (wpAny_alloc (On (h _ (I.laid (t':=s.toks) (λ_ _ q=>Oo _ q) (OG _) (va ?_)) λb o e=>Oo _ e)));exact⟨_,#[],0,_,OL _ rfl,⟨rfl,rfl,rfl⟩,rfl,rfl,.nil,tb0,rfl,rfl⟩
def AA(P:Pf)(w:Po)(K:OX)(D:Ou)(e:TE):TB:=λd H Q=>e d H λv c=>∃xs k b,c D=on (lV P w D xs)/\v= .ref b/\i_ K c b (k.map V.int)/\(∀x∈xs,i_ K c x.2 (x.1.map V.int))/\xs.length<63/\
 ∀a,(k∈xs.map (·.1)->a=xs)->(k∉xs.map (·.1)->a.Perm ((k,b)::xs))->Q d (upd c D (lV P w D a))
theorem tQ{D:Ou}(p:X.A.units+1<T7)(L:gens[d+1]?=Om)(N:PE X elt te)(j:X.xe=λ_ _=>False):PB X (.S elt) gens scope pos d D (AA X.prog X.w X.K D te):=by
 intro a s y H Q I h k Q' E' O;unfold gx;rw[L];show OK _ _ ((do let v <-P0 elt X.env;Sm elt.pos;let _ <-VI (.builtin "set.add") [.ref D,v])>>=λ_=>k) _ _ _
 have c:=N a s y H _ I h;rw[j]at c;refine My (My (PP c (λu g l=>?_) λ_ _ f=>f.elim));obtain⟨v,H1,i,r,xs,R,b,B,rfl,C,J,hn,q⟩:=l;cases r;have S:qB X.prog X.w D xs g.heap:=(i.hok D _ B).1;have T:qA X.prog X.w g.heap D xs:=S.to λx h=>j5 i (J x h);obtain⟨o,es,ep,t,U,W,_⟩:=S;refine My (Q5 (My (Ph F.slot_set_add ⟨o,U,W.1⟩ F.entry_set_add ?_ (F.args_set_add_2 _ _))));unfold Builtin.«set.add» Builtin.Frozenset.oneOther;simp only[List.isEmpty_nil,bind_assoc];unfold Builtin.Frozenset.addrOf setAdd;refine My (On ?_)
 try dsimp only
 refine My (On ?_)
 try dsimp only
 refine My (P4 (My ((jm X.prog X.w).pyHash p (j5 i C) ?_)));refine MW (s:={g with toks:=g.toks+(jm X.prog X.w).draws R}) p T (j5 (s:=g) i C) hn λh' m Y Z c1 c2=>?_;show OK _ _ (ret Pj) _ _ _;refine On ⟨_,rfl,On (O _ y _ (i.write (by rw[B];trivial) (.inl rfl) (λb u n e=>(Y.2 b n).trans e) ?_ (va ?_)) (q m c1 c2))⟩
 all_goals obtain⟨o,es,ep,t,c,l,h3,h4,h5,J,h6⟩:=Z
 .exact⟨o,c⟩
 .exact⟨o,es,ep,t,c,l,h3,h4,h5,h6⟩
def kH(c:Ou->HO)(dq:List Pn)(c4:List Nat)(d:TI)(e:Ou->It->TB):TE:=λa H Q=>d a H λJ b=>∀D,b D=Om->e D J (jA dq c4 a) (upd b D (c D)) λ_ f=>Q (.ref D) f
theorem Jq{d a b:Expr}{f:List Expr}{rest:List Qs}{scope:Scope}{pos:TK}{j dq:List Pn}{c4:List Nat}{g:TG}{tt:TT}{o:Ou->TB}{p:TI}(r:X.calm=Oq)(S:dr X scope j dq c4)(t:PI X a b p)
  (u:∀(cl:List (Pn×Ou)) (C:Ou) (k:List Ou) (s:OD) (H:Hp),PG (az X j scope cl C k s H) a g/\dy (az X j scope cl C k s H) f tt/\∀D,PB (az X j scope cl C k s H) (.S d) (⟨a,b,f,0⟩::rest) scope pos 0 D (o D))
  (hs:∀x,PD b X.env x=QU x:=by intro _;rfl):PE X (.SetComp d (⟨a,b,f,0⟩::rest) scope pos) (kH (λD=>lV X.prog X.w D []) dq c4 p λD J=>cN J g tt (o D)):=by
 intro i s y H Q I h;refine RE (use:=Om) rfl hs (S.clo I.ok) S.kind S.loc (PP (t i s y H _ I h) (λv Y B=>PP B (λF Z L=>?_) λ_ _ x=>x) λ_ _ x=>x);obtain⟨it,k,tn,J,H2,e,N,T,l,f2,q⟩:=L;subst e;refine gu (c:= .S d) JC (RR:=λacc C=>W7 (O7 X.prog X.w) X.A X.xe Om _ acc C) r S u N T l f2 q λD C s' O m R ns U W=>?_;exact⟨m,ns,λh' n=>⟨.ref D,O,R.letgo U n,rfl,W⟩⟩
def vh(P:Pf)(w:Po)(K:OX):List V->Hp->VK->Prop:=λxs H Q=>∃a ys,xs=[.ref a]/\H a=on (lV P w a ys)/\(∀x∈ys,i_ K H x.2 (x.1.map V.int)/\1<=x.1.length)/\ys.length<64/\
 ∀(l:Ou) (b:List (List Int×Ou)),H l=Om->b.Perm ys->Up (b.map (·.1))->Q (.ref l) (upd H l (.lst (b.map λz=>V.ref z.2)))
theorem uV(e:X.calm=Oq):cP X (.builtin "sorted") (vh X.prog X.w X.K):=by
 intro c s m H xs us Q I r h;obtain⟨a,ys,rfl,ha,d,hn,q⟩:=h;obtain⟨u,rfl,rfl⟩:=iF r;have S:qB X.prog X.w a ys s.heap:=(I.hok a _ ha).1;refine wD (I.ok.hd e) (S.to λx h=>j5 I (d x h).1) (λx h=>(d x h).2) hn λl h' f g b p i j hs keep n=>?_;refine⟨.ref l,_,I.laid (t':=f) (o:= .lst (b.map λz=>V.ref z.2)) keep hs ⟨?_,b.map λk=>OP k.2,g,?_,j⟩,rfl,q l b (I.hok.fresh hs) p i⟩
 .rw[Ol,p.length_eq,Qr];omega
 .exact kE b
end
end L2.Hs
namespace L2.Pu
open PySem PySem.Spec PyProof.Rows L2.Hs
def gr(nv:Nat)(c4:List Nat)(it:FL)(tg:mm)(tt:Dn->M Bool)(b:FL)(a:List D->Option D):FD:=λδ β=>match it δ β with
 |none=>Om
 |some (.error C,β1)=>on (.error C,β1)
 |some (.ok ds,β1)=>match nj tg tt b ds (lj nv c4 δ) β1 with
  |some (.ok os,β2)=>(a os).map λd=>(.ok d,β2)
  |_=>Om
section
variable{K:OX}{E:St->XK}
theorem qF{R:AR}{p:Ou->HO}{c:List D->Option D}{dq:List Pn}{c4:List Nat}{it:FL}{g:TG}{tg:mm}{tt:Dn->M Bool}{T:Ou->TB}{b:FL}(hg:ck K g tg)(sg:dm tg)(hb:∀D,d6 K R D (T D) b)
  (r0:∀F H D,R.R F (upd H D (p D)) D []) (hp:∀os d,c os=on d->R.Z os) {U:St} {H:Hp} {Q W:VK} (h:tV K (gr dq.length c4 it tg tt b c) E U H W)
  (k:∀F B f D os d,Fr F B f->¬F.A D->R.R F B D os->c os=on d->(∀v j,To F B j f->c_ K F j d v->W v j)->Q (.ref D) B):
  kH p dq c4 (iV K it E) (λD J=>cN J g (g8 K tt E0) (T D)) U H Q:=by
 obtain⟨F,δ,β,fr,X,r,f,e,h⟩:=h;unfold gr at e;refine⟨F,δ,β,fr,X,?_⟩;split at e
 .cases e
 .rename_i C β1 q
  cases e;exact⟨.error C,_,q,h⟩
 .rename_i ds β1 q
  split at e
  .rename_i os β2 q2
   cases hd:c os with
   |none=>rw[hd]at e;cases e
   |some d=>
    rw[hd]at e;cases e;refine⟨.ok ds,β1,q,λJ I t hJ D m=>?_⟩;have i:¬F.A D:=t.fr.fresh m;have nb:∀b l,F.bg=on (b,l)->D≠b/\D≠l:=λb l z=>⟨λw=>i (w▸(fr.bgA b l z).1),λw=>i (w▸(fr.bgA b l z).2.1)⟩;have Y:=t.fr.upd (p D) m;have L:Fr ⟨λa=>F.A a\/a=D,F.bg⟩ (upd I D (p D)) β1:=by
     refine⟨λa ha z=>?_,λb l z=>let ⟨x,y,w⟩:=fr.bgA b l z;⟨.inl x,.inl y,w⟩,Y.fr.bag⟩
     rcases ha with ha|ha
     .exact Y.fr.occ a ha z
     .subst ha;rw[aj]at z;cases z
    have u:Tr F I ⟨λa=>F.A a\/a=D,F.bg⟩ (upd I D (p D)):=⟨λa ha hs z=>by
     rcases z with z|z
     .exact ha z
     .subst z;exact hs m,λa o ha z=>by rw[bt (ay z m)];exact z,rfl⟩
    refine mC (R:=R) (D:=D) (as:=[]) (os:=os) hg sg (hb D) L (.inr rfl) nb (pU (X.tr ((t.tr fr).trans u))) (r0 _ _ _) (hJ.tr u) q2 (hp os d hd) λσ1 j N vk3 O=>?_;have tf:To F I j f:=by
     refine⟨λa o z n=>N.kp a o (by rw[bt (ay z m)];exact z) (ay z m) n,λa ha z=>N.fr.occ a (Q1 ha) z,fr.bgA,N.fr.bag⟩
    exact k F j f D os d tf.fr i (R.tr (F:=⟨λa=>F.A a\/a=D,F.bg⟩) O (λ_ z=>z) ⟨λa ha _ z=>ha (Q1 z),λa o _ z=>z,rfl⟩) hd λv H3 t4 hv=>h v H3 ((t.trans tf).trans t4) hv
  .cases e
noncomputable abbrev lk(k:List Int):D:= .tup (k.map .int)
theorem qt{k:List Int}(h:c_ K F H (lk k) v):∃b,v= .ref b/\i_ K H b (k.map V.int):=by
 obtain⟨a,xs,rfl,sq,c⟩:=c_.sqT h;cases bb.ints k c;exact⟨a,rfl,sq⟩
theorem d7(h:lk k=lk l):k=l:=by
 injection h with h
 exact Vg (λa b z=>by injection z)|>.mp h
theorem nd_len{α:Type} [BEq α] [LawfulBEq α]:∀{l m:List α},l.Nodup->(∀x∈l,x∈m)->l.length<=m.length
 |[],_,_,_=>PX _
 |a::l,m,nd,h=>by
  obtain⟨c,d⟩:=Pw.mp nd;have:=nd_len (m:=m.erase a) d λx b=>(List.mem_erase_of_ne (λ(z:x=a)=>c (z▸b))).mpr (h x (Ot a b));rw[List.length_erase_of_mem (h a Oz)]at this;have:=UD (h a Oz);rw[OR];omega
noncomputable def RS(P:Pf)(w:Po)(K:OX):AR where
 R:=λF H D as=>∃xs,H D=on (lV P w D xs)/\(xs.map (·.1)).Nodup/\(∀x∈xs,c_ K F H (lk x.1) (.ref x.2)/\lk x.1∈as)/\∀d∈as,∃k∈xs.map (·.1),d=lk k
 Z:=λl=>∃ks:LI,ks.length<63/\∀d∈l,∃k∈ks,d=lk k
 tr:=λh k t=>by
  obtain⟨xs,a,b,c,f⟩:=h;exact⟨xs,k _ a,b,λx e=>⟨c_.tr t _ _ (c x e).1,(c x e).2⟩,f⟩
 zp:=λh=>by
  obtain⟨ks,a,b⟩:=h;exact⟨ks,a,λd hd=>b d (Rw _ hd)⟩
theorem CV{P:Pf}{w:Po}{D:Ou}:d6 K (RS P w K) D (AA P w K D (tV K f E0)) (ln f):=λF H δ β u R as os Q fr T A J U e W k=>by
 obtain⟨xs,X,nd,j,ha⟩:=U;obtain⟨d,β1,Y,Z⟩:=M.bind_inv e;cases Z;refine⟨F,δ,β,fr,J,E0.run Y λv B t L=>?_⟩;have C:=t.kp D _ X A;obtain⟨ks,z1,N⟩:=W;obtain⟨r,hk',rfl⟩:=N d (Pt _ Oz);obtain⟨b,rfl,sq⟩:=qt L;have c:∀x∈xs,c_ K F B (lk x.1) (.ref x.2):=λx h=>c_.tr (t.tr fr) _ _ (j x h).1;have g:xs.length<63:=by
  have:=nd_len (m:=ks) nd λx I=>by
   obtain⟨y,hy,rfl⟩:=OF.mp I;obtain⟨l,hl,e⟩:=N _ (Rw _ (j y hy).2);rw[d7 e];exact hl
  rw[Ol]at this;omega
 refine⟨xs,r,b,C,rfl,sq,λx h=>?_,g,λi c1 c2=>?_⟩
 .obtain⟨b',e,q⟩:=qt (c x h)
  cases e;exact q
 have O:ms F D B (upd B D (lV P w D i)) u:=by
  refine⟨λa o h n _=>by rw[bt n];exact h,λa h q=>?_,fr.bgA,λb l q=>?_⟩
  .by_cases z:a=D
   .subst z;rw[aj]at q;cases q
   .rw[bt z]at q;exact t.fr.occ a h q
  .rw[bt (A b l q).1.symm,bt (A b l q).2.symm]
   exact t.fr.bag b l q
 have tt:=O.tr t.fr T;refine k R _ ((t.toD D).trans O) (J.tr ((t.tr fr).trans tt)) ⟨i,aj,?_⟩;by_cases hm:r∈xs.map (·.1)
 .cases c1 hm
  refine⟨nd,λx h=>⟨c_.tr tt _ _ (c x h),Rw _ (j x h).2⟩,λd hd=>?_⟩;rcases Qd.mp hd with hd|hd
  .exact ha d hd
  .exact⟨r,hm,O9.mp hd⟩
 .have p:=c2 hm
  refine⟨(p.map (·.1)).nodup_iff.mpr (Pw.mpr ⟨hm,nd⟩),λx h=>?_,λd hd=>?_⟩
  .rcases ON.mp (p.mem_iff.mp h)with rfl|h
   .exact⟨c_.tr tt _ _ L,Pt _ Oz⟩
   .exact⟨c_.tr tt _ _ (c x h),Rw _ (j x h).2⟩
  .rcases Qd.mp hd with hd|hd
   .obtain⟨k2,h2,e⟩:=ha d hd
    exact⟨k2,(p.map (·.1)).mem_iff.mpr (Ot _ h2),e⟩
   .exact⟨r,(p.map (·.1)).mem_iff.mpr Oz,O9.mp hd⟩
def YB(ks:LI)(os:List D):Prop:=Up ks/\ks.length<63/\(∀k∈ks,1<=k.length/\lk k∈os)/\∀d∈os,∃k∈ks,d=lk k
theorem YB.eq{os:List D}(a:YB ks os)(b:YB ls os):ks=ls:=rG a.1 b.1 λx=>⟨λh=>by
 obtain⟨l,c,e⟩:=b.2.2.2 _ (a.2.2.1 x h).2;rw[d7 e];exact c,λh=>by
 obtain⟨l,c,e⟩:=a.2.2.2 _ (b.2.2.1 x h).2;rw[d7 e];exact c⟩
open Classical in
def fq(os:List D):Option D:=if h:∃ks,YB ks os then on (.lst (h.choose.map lk))else Om
theorem sO{ks:LI}{os:List D}(h:YB ks os):fq os=on (.lst (ks.map lk)):=by
 have q:∃ks,YB ks os:=⟨ks,h⟩;unfold fq;rw[dif_pos q,q.choose_spec.eq h]
theorem iG{os:List D}(h:fq os=on d):∃ks,YB ks os/\d= .lst (ks.map lk):=by
 unfold fq at h;split at h
 .rename_i q
  cases h;exact⟨_,q.choose_spec,rfl⟩
 .cases h
theorem lJ:∀{a:List (List Int×Ou)},(∀z∈a,c_ K F H (lk z.1) (.ref z.2))->bb K F H ((a.map (·.1)).map lk) (a.map λz=>V.ref z.2)
 |[],_=>bb.nil
 |z::a,h=>bb.cons (h z Oz) (lJ λx b=>h x (Ot z b))
end
section
variable{X:Cx}{E:St->XK}{elt b_ iter:Expr}{ifs:List Expr}{rest:List Qs}{scope:Scope}{pos p pos':TK}{Nc dq:List Pn}{c4:List Nat}{g:TG}{tb:Ou->TB}
theorem AU(i:Gl X "sorted")(hm:X.mg "sorted"=Om)(o:X.calm=Oq)(S:dr X scope Nc dq c4)(r:PI X b_ iter (iV X.K it E))
  (t:∀(cl:List (Pn×Ou)) (C:Ou) (j:List Ou) (s:OD) (H:Hp),PG (az X Nc scope cl C j s H) b_ g/\dy (az X Nc scope cl C j s H) ifs (g8 X.K tt E0)/\∀D,PB (az X Nc scope cl C j s H) (.S elt) (⟨b_,iter,ifs,0⟩::rest) scope pos 0 D (tb D))
  (u:ck X.K g tg) (A:dm tg) (B:∀D,d6 X.K (RS X.prog X.w X.K) D (tb D) b) (hs:∀x,PD iter X.env x=QU x:=by intro _;rfl):
  PE X (.Call (.Name "sorted" p) [.SetComp elt (⟨b_,iter,ifs,0⟩::rest) scope pos] [] pos') (tV X.K (gr dq.length c4 it tg tt b fq) E):=
 (jR (uV o) i hm (by kernel_rfl) (eA (Jq o S r t hs) ik)).imp λZ H Q h=>by
  refine qF (Q:=λv I=>vh X.prog X.w X.K [v] I Q) u A B (λF H D=>⟨[],aj,.nil,λx a=>O4 a (by simp),λd hd=>O4 hd (by simp)⟩) (λos d e=>?_) h λF H' J D os d fr L N e q=>?_
  .obtain⟨ks,s,_⟩:=iG e
   exact⟨ks,s.2.1,s.2.2.2⟩
  .obtain⟨ks,s,rfl⟩:=iG e
   obtain⟨xs,O,nd,a,ha⟩:=N;have k:∀x∈xs,x.1∈ks:=λx h=>by
    obtain⟨l,f,e⟩:=s.2.2.2 _ (a x h).2;rw[d7 e];exact f
   have hn:xs.length<64:=by
    have:=nd_len (m:=ks) nd λy c=>by
     obtain⟨x,h,rfl⟩:=OF.mp c;exact k x h
    rw[Ol]at this;have:=s.2.1;omega
   refine⟨D,xs,rfl,O,λx h=>?_,hn,λl R f n T=>?_⟩
   .obtain⟨b',e,q⟩:=qt (a x h).1
    cases e;exact⟨q,(s.2.2.1 _ (k x h)).1⟩
   .have U:ks=R.map (·.1):=rG s.1 T λy=>by
     refine⟨λc=>?_,λc=>?_⟩
     .obtain⟨k2,W,e⟩:=ha _ (s.2.2.1 y c).2
      rw[d7 e];exact(n.map (·.1)).mem_iff.mpr W
     .obtain⟨x,h,rfl⟩:=OF.mp ((n.map (·.1)).mem_iff.mp c)
      exact k x h
    rw[U]at q;exact q _ _ (fr.upd _ f) (c_.newL fr f (lJ λz Y=>(a z (n.mem_iff.mp Y)).1))
end
end L2.Pu
namespace L2.Hs
open PySem PySem.Spec PyProof.Rows
section
variable{prog:Pf}{w:Po}{A:PV}{E:Oy->OD->Prop}{s:OD}
def I_(prog:Pf)(w:Po)(h:P5)(k:et)(a:Ou):Prop:=∃o n t b,h.get? a=on o/\o.cls= .type "tuple"/\o.data= .seq #[.int k.1 t,.ref b] n/\(jm prog w).is h k.2 b
theorem I_.ty(x:I_ prog w s.heap k a):s.TypeIs (.ref a) "tuple":=let ⟨o,_,_,_,ho,hc,_⟩:=x;⟨o,ho,hc⟩
theorem I_.inj(f:I_ prog w h x a)(g:I_ prog w h y a):x=y:=by
 obtain⟨o,n,t,b,i,_,hd,j⟩:=f;obtain⟨k,p,t',q,d,_,c,e⟩:=g;obtain rfl:o=k:=Pb (i.symm.trans d);rw[hd]at c;simp only[Data.seq.injEq,Array.mk.injEq,RB,Sc.injEq,OP.injEq]at c;obtain⟨⟨⟨l,_⟩,m,_⟩,_⟩:=c;subst m;exact RW l ((jm prog w).inj j e)
theorem LG(k:List Int):hsh prog w k=hI k:=by unfold hsh hI;show tupleKeyHash _ _=_;unfold tupleKeyHash;rfl
theorem LH{k:et}(g:A.units+1<T7)(f:I_ prog w s.heap k a)(h:Q (hB Oq k) {s with toks:=s.toks+(k.2.length+3)}):OK (O7 prog w) A (pyHash (.ref a)) Q E s:=by
 have c:=f.ty;obtain⟨o,n,t,b,i,_,hd,j⟩:=f;unfold pyHash
 first|unfold pyHashByItsType|skip
 refine My (wpAny_cRoomFor_or (.inr (by omega)) ?_);refine My (Rg c F.slot_tuple_hash.lookup ?_);show OK _ _ (if(on (Value.builtin "tuple.__hash__")==on Pj)=Oq then _ else _) Q E s;rw[OC (by rw[beq_builtin_none];exact OH)];refine My (Rg c F.slot_tuple_hash.lookup ?_);show OK _ _ (callSpecialIfBoundUnlessNone? (.ref a) "__hash__" _>>=_) Q E s;refine My (wpAny_callSpecialIfBoundUnlessNone?_slot c F.slot_tuple_hash (Ph F.slot_tuple_hash c F.entry_tuple_hash ?_ (F.args_tuple_hash_1 _)));show OK _ _ (Va (.ref a)>>=_) _ _ s;refine My (VM i hd ?_);refine My ?_;rw[<-SB];simp only[RV,R9];refine My (My (wpAny_pyHash_int ?_));refine On (My (My ((jm prog w).pyHash g j ?_)));refine On (On ?_);have h':Q (hB Oq k) {s with toks:=s.toks+1+(k.2.length+1)+1}:=by
  have e:s.toks+1+(k.2.length+1)+1=s.toks+(k.2.length+3):=by omega
  rw[e];exact h
 refine wpAny_ret_mkInt ?_;generalize l:Ta _=z;have m:hB Oq k=reduceHash z:=by rw[<-l,show(jm prog w).hash k.2=hI k.2 from LG k.2];rfl
 rw[m]at h';show OK _ _ (if(decide (-(2:Int)^63<=z)&&decide (z<2^63))=Oq then _ else _) Q E _;unfold reduceHash at h';by_cases d:(decide (-(2:Int)^63<=z)&&decide (z<2^63))=Oq
 .rw[OE d]
  rw[OE d]at h';exact On h'
 .rw[OC d]
  rw[OC d]at h';exact My (R5 (On h'))
theorem Z9(q:A.units+1<T7)(d:I_ prog w s.heap x a)(f:I_ prog w s.heap y b)(h:Q (decide (x=y)) s):OK (O7 prog w) A (eqBool (.ref a) (.ref b)) Q E s:=by
 unfold eqBool
 try with_reducible refine P4 ?_
 show OK _ _ (if(OP a==OP b)=Oq then _ else _) Q E s;by_cases c:(OP a==OP b)=Oq
 .rw[OE c]
  have e:a=b:=by have:=eq_of_beq c;injection this
  subst e;obtain rfl:=d.inj f;exact My (R5 (On (by simpa using h)))
 .rw[OC c]
  refine My (wpAny_richCompare_same_room (op:= .Eq) d.ty f.ty F.slot_tuple_eq
   (Ph F.slot_tuple_eq d.ty F.entry_tuple_eq ?_ (F.args_tuple_eq_2 _ _)) (by omega))
  have j:=f.ty;obtain⟨r,t,u,v,k,_,l,m⟩:=d;obtain⟨B,C,H,I,n,_,o,p⟩:=f;show OK _ _ (VJ (.ref b) (.type "tuple")>>=_) _ _ s;refine My (QI j Ve ?_);simp only[Re,OW,PF];refine My (VM k l ?_);refine My (VM n o ?_);refine My ?_;simp only[QX,Vt,RV,R9];refine My (My ((UY prog w).eqBool (a:=x.1) (b:=y.1) (by simp[UY,W2]) (by simp[UY,W2]) ?_));by_cases g:x.1=y.1
  .rw[OO g]
   refine On (My (My ((jm prog w).eqBool q m p ?_)));by_cases i:x.2=y.2
   .rw[OO i]
    rw[OO (RW g i)]at h;exact On (On (On ⟨_,rfl,(λe=>nomatch e),P8 h⟩))
   .rw[Pp i]
    rw[Pp (λe=>i (Py _ e))]at h;exact My (On (On (On (On ⟨_,rfl,(λe=>nomatch e),P8 h⟩))))
  .rw[Pp g]
   rw[Pp (λe=>g (Py _ e))]at h;exact My (On (On (On (On ⟨_,rfl,(λe=>nomatch e),P8 h⟩))))
theorem Jj(f:(jm prog w).is s.heap k a)(h:Q Oq s):OK (O7 prog w) A (X6 (m+1) (.ref a)) Q E s:=by
 have g:=WB f;obtain⟨o,c,n,i,_,hd,j⟩:=f;unfold X6;refine My (Rg g F.slot_tuple_eq.lookup ?_);show OK _ _ (VJ (.ref a) (.type "tuple")>>=_) _ _ s;refine My (QI g Ve ?_);simp only[Re,OW,PF];refine My (QE i hd ?_);refine My ?_;show OK _ _ (forIn c _ _) _ _ s;rw[<-SB];refine UP _ (λrest r s'=>r.1=Om/\s'=s/\∀v∈rest,carriedByValue v=Oq) _ ?_ ?_ _ _ ⟨rfl,rfl,j.byValue⟩
 .rintro v rest r s' ⟨d,rfl,b⟩
  rw[eqIsQuiet_byValue _ (b v Oz)];refine My (On ?_);simp only[Re,OW,PF];exact On ⟨rfl,rfl,λu e=>b u (Ot _ e)⟩
 .rintro⟨r1,l⟩ s' ⟨d,rfl,_⟩
  simp only at d;subst d;exact On h
theorem Jk(c:I_ prog w s.heap k a)(h:Q Oq s):OK (O7 prog w) A (X6 8 (.ref a)) Q E s:=by
 have d:=c.ty;obtain⟨o,n,t,b,e,_,hd,f⟩:=c;unfold X6;refine My (Rg d F.slot_tuple_eq.lookup ?_);show OK _ _ (VJ (.ref a) (.type "tuple")>>=_) _ _ s;refine My (QI d Ve ?_);simp only[Re,OW,PF];refine My (QE e hd ?_);refine My ?_;show OK _ _ (forIn #[Sc k.1 t,OP b] _ _) _ _ s;rw[<-SB];simp only[RV,R9];rw[eqIsQuiet_byValue _ (v:= .int k.1 t) rfl];exact My (My (On (On (My (My (Jj (m:=6) f (On (On (On h)))))))))
def PKd(prog:Pf)(w:Po):HeapKind prog w et where
 is:=I_ prog w
 hash:=hB Oq
 draws:=λk=>k.2.length+3
 room:=λA=>A.units+1<T7
 inj:=λd e=>d.inj e
 keeps:=λx i hd hs=>by
  obtain⟨j,n,t,b,c,l,a,m⟩:=x;refine⟨j,n,t,b,(hs.2 _ ?_).trans c,l,a,(jm prog w).keeps m i hd hs⟩;rintro rfl;obtain rfl:=Pb (c.symm.trans i);rw[hd]at a;exact nomatch a
 pyHash:=λf g h=>LH f g h
 eqBool:=λf d e h=>Z9 f d e h
 quiet:=λg h=>Jk g h
def FKd(prog:Pf)(w:Po):HeapKind prog w et where
 is:=λh k a=>k.1=0/\(jm prog w).is h k.2 a
 hash:=hB Ov
 draws:=λk=>k.2.length+1
 room:=λA=>A.units+1<T7
 inj:=λc d=>RW (c.1.trans d.1.symm) ((jm prog w).inj c.2 d.2)
 keeps:=λx i hd hs=>⟨x.1,(jm prog w).keeps x.2 i hd hs⟩
 pyHash:=λf g h=>(jm prog w).pyHash (Nat.lt_of_succ_lt f) g.2 h
 eqBool:=λ{A E s x y a b Q} f c d h=>(jm prog w).eqBool (Nat.lt_of_succ_lt f) c.2 d.2 (by
  have e:decide (x.2=y.2)=decide (x=y):=by
   by_cases q:x.2=y.2
   .rw[OO q,OO (RW (c.1.trans d.1.symm) q)]
   .rw[Pp q,Pp (λz=>q (Py _ z))]
  rw[e];exact h)
 quiet:=λg h=>(jm prog w).quiet g.2 h
def KB(prog:Pf)(w:Po):Bool->HeapKind prog w et
 |true=>PKd prog w
 |false=>FKd prog w
theorem qq{b:Bool}:(KB prog w b).hash=hB b:=by cases b<;>rfl
theorem jv{b:Bool}{A:PV}(h:A.units+1<T7):(KB prog w b).room A:=by cases b<;>exact h
def s_(K:OX)(H:Hp):Bool->et->Ou->Prop
 |true,k,c=>∃e,i_ K H c [.int k.1,.ref e]/\i_ K H e (k.2.map V.int)
 |false,k,c=>k.1=0/\i_ K H c (k.2.map V.int)
abbrev XY(x:et×Ou×V)(y:et×Ou×Oy):Prop:=x.1=y.1/\x.2.1=y.2.1/\aI x.2.2 y.2.2
theorem jg:∀{xs:List (et×Ou×V)} {ys:List (et×Ou×Oy)},TZ XY xs ys->xs.map (·.1)=ys.map (·.1)
 |_,_,.nil=>rfl
 |_,_,.cons h t=>by rw[OJ,OJ,h.1,jg t]
theorem xQ:∀{xs:List (et×Ou×V)} {ys:List (et×Ou×Oy)},TZ XY xs ys->∀y∈ys,∃x∈xs,XY x y
 |_,_,.nil,y,h=>by cases h
 |_,_,.cons (a:=a) h t,y,hy=>by
  rcases ON.mp hy with rfl|hy
  .exact⟨a,Oz,h⟩
  .obtain⟨x,b,e⟩:=xQ t y hy
   exact⟨x,Ot _ b,e⟩
noncomputable def ni(xs:List (et×Ou×V))(k:et):Option V:=(xs.find? λx=>decide (x.1=k)).map (·.2.2)
theorem jh:∀{xs:List (et×Ou×V)} {ys:List (et×Ou×Oy)},TZ XY xs ys->gG (ni xs k) ((V0 ys k).map (·.2))
 |_,_,.nil=>by simp[ni,V0,gG]
 |_,_,.cons (a:=a) (b:=b) h t=>by
  have ih:=jh (k:=k) t;unfold ni V0 at ih⊢;rw[Rr,Rr,<-h.1];by_cases q:a.1=k
  .rw[OO q];exact h.2.2
  .rw[Pp q];exact ih
theorem p7(h:XY x y):∀{xs:List (et×Ou×V)} {ys:List (et×Ou×Oy)},TZ XY xs ys->TZ XY (xs++[x]) (ys++[y])
 |_,_,.nil=> .cons h .nil
 |_,_,.cons h' t=> .cons h' (p7 h t)
variable{X:Cx}{a_:List (Ou×Pa)}{σ:St}{H:Hp}
theorem mD{b:Bool}(I:dc X a_ σ H s)(h:s_ X.K H b k c):(KB X.prog X.w b).is s.heap k c:=by
 cases b with
 |true=>
  obtain⟨e,a,d⟩:=h;obtain⟨its,f,⟨o,g,i,n,hd⟩,_⟩:=I.tuple a;obtain⟨j,l,rfl,⟨t,rfl⟩,rfl⟩:=rF f;exact⟨o,n,t,e,g,i,hd,j5 I d⟩
 |false=>exact⟨h.1,j5 I h.2⟩
theorem Yx{a_:List (Ou×Pa)}{σ:St}{H:Hp}{s:OD}(I:dc X a_ σ H s):Tw<s.heap.objs.size:=TH (by decide) (show QY<s.heap.objs.size from(I.mod.glob.keeps I.bk).lt)
theorem ix{b:Bool}(I:dc X a_ σ H s)(d:H a=on (cc a b ep xs))(e:∀x∈xs,s_ X.K H b x.1 x.2.1):∃ys,s.heap.DictOfH (KB X.prog X.w b) a ys/\TZ XY xs ys/\ys.length<=OV/\(a==Tw)=Ov:=by
 obtain⟨o,es,ys,f,g,h,i,j,k,l,c⟩:xN a b ep xs s.heap:=(I.hok a _ d).1;refine⟨ys,⟨o,es,ep,f,g,h,?_,λy m=>?_,j⟩,c,l,k⟩
 .rw[i];unfold entryOfKey;rw[qq]
 .obtain⟨x,n,p,q,_⟩:=xQ c y m
  rw[<-p,<-q];exact mD I (e x n)
def KS(K:OX):R2:=λx y H Q=>∃a b ep xs k c v,x= .ref a/\y= .ref c/\H a=on (cc a b ep xs)/\(∀x∈xs,s_ K H b x.1 x.2.1)/\s_ K H b k c/\ni xs k=on v/\Q v H
theorem zE(l:X.A.units+2<T7):Iv X (KS X.K):=by
 intro g i a_ s σ H x y v u Q I m n h hs;obtain⟨a,b,ep,xs,k,c,o,rfl,rfl,t,B,C,J,q⟩:=h;cases m;cases n;obtain⟨ys,d,p,_,_⟩:=ix I t B;have f:=jh (k:=k) p;rw[J]at f;cases e:V0 ys k with
 |none=>rw[e]at f;exact f.elim
 |some r=>
  rw[e]at f;exact U1 (x:=r.2) d.typeIs PySem.F.slot_dict_getitem.lookup (wpAny_getItem_heap (Q:=λj s'=>j=r.2/\EP X a_ σ Q j s') (jv l) (mD I C) d e ⟨rfl,o,H,I.tok _,f,q⟩) hs
theorem nN{b:Bool}:Zp X newDict λD=>cc D b 0 []:=λa_ s σ H E Q I h=>Pk (h _ (I.laid (t':=s.toks) (λ_ _ q=>Oo _ q) (OG _) (qu ⟨_,#[],[],OL _ rfl,⟨rfl,rfl,rfl⟩,rfl,rfl,.nil,beq_eq_false_iff_ne.mpr (Ne.symm (Ps (Yx I))),PX _,.nil⟩)) λb o e=>Oo _ e)
def AB(K:OX)(b:Bool)(D:Ou)(e f:TE):TB:=λσ H Q=>e σ H λx g=>f σ g λy a=>∃ep xs k c,x= .ref c/\a D=on (cc D b ep xs)/\(∀x∈xs,s_ K a b x.1 x.2.1)/\s_ K a b k c/\k∉xs.map (·.1)/\xs.length<OV/\∀d,Q σ (upd a D (cc D b d (xs++[(k,c,y)])))
theorem jT{D:Ou}{b:Bool}(L:X.A.units+1<T7)(N:gens[d+1]?=Om)(O:PE X ke tk)(R:PE X ve tv)(a:X.xe=λ_ _=>False):PB X (.D ke ve) gens scope pos d D (AB X.K b D tk tv):=by
 intro a_ s σ H Q I h k Q' E' T;unfold gx;rw[N];show OK _ _ (Zf (.D ke ve) (.ref D) X.env>>=λ_=>k) _ _ _;unfold Zf;have t:=O a_ s σ H _ I h;rw[a]at t;refine My (My (PP t (λu U W=>?_) λ_ _ f=>f.elim));obtain⟨v,Y,Z,r,q1⟩:=W;have B:=R a_ U σ Y _ Z q1;rw[a]at B;refine My (P4 (PP B (λu2 s2 h4=>?_) λ_ _ f=>f.elim));obtain⟨v2,H2,i,r2,ep0,xs,j,c,rfl,C,hx,hc,hn,hl,q⟩:=h4;cases r;obtain⟨ys,dd,p,hz,l⟩:=ix i C hx;have F:=jg p;have e0:V0 ys j=Om:=by
  cases e:V0 ys j with
  |none=>rfl
  |some r=>
   exfalso
   unfold V0 at e;cases m:ys.find? (λx=>decide (x.1=j))with
   |none=>rw[m]at e;cases e
   |some y=>
    have:=List.find?_some m;exact hn (by rw[F];exact OF.mpr ⟨y,List.mem_of_find?_eq_some m,PU this⟩)
 refine My (Q5 (P4 (wpAny_dictSet_heap (jv L) (mD i hc) dd (λh' d' sb=>?_) hz)));rw[storedH_new e0]at d';obtain⟨o,es,ep,J,g2,g3,g4,g5,g6⟩:=d';have g:ys.length=xs.length:=by rw[<-Ol (f:=(·.1)),<-F,Ol]
 refine T _ σ _ (i.write (by rw[C];trivial) (.inl rfl) (λb u n e=>(sb.2 b n).trans e) ⟨o,J⟩ (qu ⟨o,es,_,J,g2,g3,?_,g6,l,?_,p7 ⟨rfl,rfl,r2⟩ p⟩)) (q ep)
 .rw[g4];unfold entryOfKey;rw[qq]
 .rw[OQ,g,PL];omega
theorem BZ{b:Bool}{k l a d:Expr}{f:List Expr}{rest:List Qs}{scope:Scope}{pos:TK}{i dq:List Pn}{c4:List Nat}{g:TG}{tt:TT}{p:Ou->TB}{r:TI}(t:X.calm=Oq)(S:dr X scope i dq c4)(u:PI X a d r)
  (y:∀(cl:List (Pn×Ou)) (C:Ou) (j:List Ou) (s:OD) (H:Hp),PG (az X i scope cl C j s H) a g/\dy (az X i scope cl C j s H) f tt/\∀D,PB (az X i scope cl C j s H) (.D k l) (⟨a,d,f,0⟩::rest) scope pos 0 D (p D))
  (hs:∀x,PD d X.env x=QU x:=by intro _;rfl):PE X (.DictComp k l (⟨a,d,f,0⟩::rest) scope pos) (kH (λD=>cc D b 0 []) dq c4 r λD J=>cN J g tt (p D)):=by
 intro a_ s σ H Q I h;refine RE (use:=Om) rfl hs (S.clo I.ok) S.kind S.loc (PP (u a_ s σ H _ I h) (λv Y B=>PP B (λF Z L=>?_) λ_ _ x=>x) λ_ _ x=>x);obtain⟨it,j,tn,J,H2,e,N,T,n,f2,q⟩:=L;subst e;refine gu (c:= .D k l) nN (RR:=λacc C=>W7 (O7 X.prog X.w) X.A X.xe Om _ acc C) t S y N T n f2 q λD C s' O m R ns U W=>?_;exact⟨m,ns,λh' o=>⟨.ref D,O,R.letgo U o,rfl,W⟩⟩
end
end L2.Hs
namespace L2.Pu
open PySem PySem.Spec PyProof.Rows L2.Hs
def dK:Bool->et->D
 |true,k=> .tup [.int k.1,lk k.2]
 |false,k=>lk k.2
def z_(b:Bool)(k:et):Prop:=b=Ov->k.1=0
theorem LZ{b:Bool}(a:z_ b k)(c:z_ b l)(h:dK b k=dK b l):k=l:=by
 cases b with
 |true=>
  simp only[dK,D.tup.injEq,RB,D.int.injEq,and_true]at h;exact RW h.1 (d7 (Py D.tup h.2))
 |false=>exact RW ((a rfl).trans (c rfl).symm) (d7 h)
section
variable{K:OX}{F:Fx}{H:Hp}{E:St->XK}
theorem uE(h:c_ K F H (.tup ds) v):∃a xs,v= .ref a/\TQ K F H a xs/\bb K F H ds xs:=by
 unfold c_ at h;exact h
theorem oy(h:TQ K F H a xs)(hd:bb K F H ds xs):c_ K F H (.tup ds) (.ref a):=by
 unfold c_;exact⟨a,xs,rfl,h,hd⟩
theorem TQ.sq(h:TQ K F H c xs):i_ K H c xs:=h.imp (·.2) id
theorem eK.s{b:Bool}(h:eK K F H b k c):s_ K H b k c:=by
 cases b with
 |true=>
  obtain⟨e,a,d⟩:=h;exact⟨e,a.sq,d.sq⟩
 |false=>exact⟨h.1,h.2.sq⟩
theorem eK.z{b:Bool}(h:eK K F H b k c):z_ b k:=λe=>by subst e;exact h.1
theorem pk{b:Bool}(g:z_ b k)(h:c_ K F H (dK b k) v):∃c,v= .ref c/\eK K F H b k c:=by
 cases b with
 |true=>
  obtain⟨a,xs,rfl,q,d⟩:=uE h;obtain⟨i,j,rfl,d1,d2⟩:=bb.two d;cases d1.int;obtain⟨e,ys,rfl,q2,f⟩:=uE d2;cases bb.ints k.2 f;exact⟨a,rfl,e,q,q2⟩
 |false=>
  obtain⟨a,xs,rfl,q,d⟩:=uE h;cases bb.ints k.2 d;exact⟨a,rfl,g rfl,q⟩
theorem HP{b:Bool}(h:eK K F H b k c):c_ K F H (dK b k) (.ref c):=by
 cases b with
 |true=>
  obtain⟨e,a,d⟩:=h;exact oy a (bb.cons rfl (bb.cons (oy d (bb.ofInts k.2)) bb.nil))
 |false=>exact oy h.2 (bb.ofInts k.2)
abbrev x_(b:Bool)(p:et×D):D:= .tup [dK b p.1,p.2]
def Dk(b:Bool)(kvs:List (et×D))(os:List D):Prop:=os=kvs.map (x_ b)/\(kvs.map (·.1)).Nodup/\kvs.length<=OV/\∀p∈kvs,z_ b p.1
theorem Ju{b:Bool}{p q:et×D}(a:z_ b p.1)(c:z_ b q.1)(h:x_ b p=x_ b q):p=q:=by
 simp only[x_,D.tup.injEq,RB,and_true]at h;exact RW (LZ a c h.1) h.2
theorem jU{b:Bool}:∀{l m:List (et×D)},(∀p∈l,z_ b p.1)->(∀p∈m,z_ b p.1)->l.map (x_ b)=m.map (x_ b)->l=m
 |[],[],_,_,_=>rfl
 |[],_::_,_,_,h=>by cases h
 |_::_,[],_,_,h=>by cases h
 |p::l,q::m,hl,hm,h=>by
  rw[OJ,OJ,RB]at h;rw[Ju (hl p Oz) (hm q Oz) h.1,jU (λx a=>hl x (Ot _ a)) (λx a=>hm x (Ot _ a)) h.2]
theorem Dk.eq{b:Bool}{os:List D}(x:Dk b l os)(y:Dk b m os):l=m:=jU x.2.2.2 y.2.2.2 (x.1.symm.trans y.1)
open Classical in
def ki(b:Bool)(os:List D):Option D:=if h:∃kvs,Dk b kvs os then on (.dct b (h.choose.map (·.1)) (h.choose.map (·.2)))else Om
theorem v9{b:Bool}{kvs:List (et×D)}{os:List D}(h:Dk b kvs os):ki b os=on (.dct b (kvs.map (·.1)) (kvs.map (·.2))):=by
 have q:∃kvs,Dk b kvs os:=⟨kvs,h⟩;unfold ki;rw[dif_pos q,q.choose_spec.eq h]
theorem uG{b:Bool}{os:List D}(h:ki b os=on d):∃kvs,Dk b kvs os/\d= .dct b (kvs.map (·.1)) (kvs.map (·.2)):=by
 unfold ki at h;split at h
 .rename_i q
  cases h;exact⟨_,q.choose_spec,rfl⟩
 .cases h
noncomputable def RD(K:OX)(b:Bool):AR where
 R:=λF H D as=>∃ep,∃a:List ((et×Pu.D)×Ou×V),as=a.map (λz=>x_ b z.1)/\H D=on (cc D b ep (a.map λz=>(z.1.1,z.2)))/\∀z∈a,eK K F H b z.1.1 z.2.1/\c_ K F H z.1.2 z.2.2
 Z:=λl=>∃kvs more,Dk b kvs (l++more)
 tr:=λh k t=>by
  obtain⟨ep,a,e,f,c⟩:=h;exact⟨ep,a,e,k _ f,λz d=>⟨(c z d).1.tr t,c_.tr t _ _ (c z d).2⟩⟩
 zp:=λh=>by
  obtain⟨kvs,more,h⟩:=h;exact⟨kvs,_,by rw[<-PZ];exact h⟩
def DY(f g:FD):FL:=λδ=>M.bind (f δ) λk=>M.bind (g δ) λv=>M.ret [.tup [k,v]]
theorem nR{b:Bool}{D:Ou}:d6 K (RD K b) D (AB K b D (tV K f E0) (tV K g E0)) (DY f g):=λF H δ β I σ as os Q fr hA B J hR e hz k=>by
 obtain⟨ep,d,rfl,hD,C⟩:=hR;obtain⟨W,β1,e1,e2⟩:=M.bind_inv e;obtain⟨X,β2,e3,e4⟩:=M.bind_inv e2;cases e4;obtain⟨kvs,more,L,Y,z3,Z⟩:=hz;have N:∀p∈d.map (·.1),z_ b p.1:=λp r=>by
  obtain⟨z,h,rfl⟩:=OF.mp r;exact(C z h).1.z
 have O:d.length<kvs.length:=by
  have:=Py Ua L;simp at this;omega
 have ez:(d.map (·.1)).map (x_ b)=(kvs.take d.length).map (x_ b):=by
  rw[Vb,<-L,PZ,List.take_append_of_le_length (by simp),Rb (by simp),OA];rfl
 have ek:=jU N (λp r=>Z p (UV r)) ez;have R:x_ b kvs[d.length]= .tup [W,X]:=by
  have h0:(kvs.map (x_ b))[d.length]?=on (.tup [W,X]):=by
   rw[<-L,PZ,QJ (by simp)];simp
  rw[Ox,Os O]at h0;exact Pb h0
 have u:=Z _ (Pr O);generalize r:kvs[d.length]=p at R u;obtain⟨j,vv⟩:=p;simp only[x_,Pu.D.tup.injEq,RB,and_true]at R;obtain⟨rfl,rfl⟩:=R;have y:j∉d.map (·.1.1):=λhm=>by
  have h2:kvs.take d.length++(j,vv)::kvs.drop (d.length+1)=kvs:=by
   rw[<-r,<-Qa O,Rm]
  rw[<-h2,<-ek,Pg,OJ,Ub]at Y;refine Y.2.2 j ?_ j Oz rfl;rw[OA];exact hm
 refine⟨F,δ,β,fr,J,E0.run e1 λv H1 t hv=>⟨F,δ,β1,t.fr,J.tr (t.tr fr),E0.run e3 λv2 H2 m T=>?_⟩⟩;have U:=c_.tr (m.tr t.fr) _ _ hv;obtain⟨c,rfl,kc⟩:=pk u U;have i:=(t.tr fr).trans (m.tr t.fr);refine⟨ep,_,j,c,rfl,m.kp D _ (t.kp D _ hD B) B,λx h=>?_,kc.s,?_,?_,λA=>?_⟩
 .obtain⟨z,h',rfl⟩:=OF.mp h
  exact((C z h').1.tr i).s
 .rw[OA];exact y
 .rw[Ol];omega
 have tD:ms F D H2 (upd H2 D (cc D b A ((d.map λz=>(z.1.1,z.2))++[(j,c,v2)]))) I:=by
  refine⟨λa o h n _=>by rw[bt n];exact h,λa h q=>?_,fr.bgA,λb l q=>?_⟩
  .by_cases z:a=D
   .subst z;rw[aj]at q;cases q
   .rw[bt z]at q;exact m.fr.occ a h q
  .rw[bt (B b l q).1.symm,bt (B b l q).2.symm]
   exact m.fr.bag b l q
 have tt:=tD.tr m.fr hA;refine k σ _ (((t.trans m).toD D).trans tD) (J.tr (i.trans tt)) ⟨A,d++[((j,vv),c,v2)],by rw[Pg];rfl,by rw[Pg];exact aj,λz h=>?_⟩;rcases Qd.mp h with h|h
 .exact⟨(C z h).1.tr (i.trans tt),c_.tr (i.trans tt) _ _ (C z h).2⟩
 .cases O9.mp h
  exact⟨kc.tr tt,c_.tr tt _ _ T⟩
theorem uF{F:Fx}{H:Hp}{α:Type}{f:α->D}{g:α->V}:∀{a:List α},(∀z∈a,c_ K F H (f z) (g z))->bb K F H (a.map f) (a.map g)
 |[],_=>bb.nil
 |z::a,h=>bb.cons (h z Oz) (uF λx b=>h x (Ot z b))
end
theorem uD{K:OX}{E:St->XK}{kb:Bool}{dq:List Pn}{c4:List Nat}{g:TG}{f:Ou->TB}{it:FL}{tg:mm}{tt:Dn->M Bool}{b:FL}(j:ck K g tg)(k:dm tg)(l:∀D,d6 K (RD K kb) D (f D) b){i:St}{H:Hp}{Q:VK}(h:tV K (gr dq.length c4 it tg tt b (ki kb)) E i H Q):
  kH (λD=>cc D kb 0 []) dq c4 (iV K it E) (λD J=>cN J g (g8 K tt E0) (f D)) i H Q:=by
 refine qF j k l (λF H D=>⟨0,[],rfl,aj,λx a=>O4 a (by simp)⟩) (λos d e=>?_) h λF v m D os d fr c n e q=>?_
 .obtain⟨kvs,s,_⟩:=uG e
  exact⟨kvs,[],by rw[Pi];exact s⟩
 .obtain⟨kvs,s,rfl⟩:=uG e
  obtain⟨ep,o,rfl,r,a⟩:=n;have t:kvs=o.map (·.1):=jU s.2.2.2 (λp u=>by
   obtain⟨z,h,rfl⟩:=OF.mp u;exact(a z h).1.z) (by rw[<-s.1,OA];rfl)
  refine q _ _ (To.refl fr) ?_;unfold c_;subst t;refine⟨D,ep,_,rfl,⟨c,r⟩,by simp,λx h=>?_,?_⟩
  .obtain⟨z,h',rfl⟩:=OF.mp h
   exact(a z h').1
  .rw[OA,OA]
   exact uF λz h=>(a z h).2
section
variable{X:Cx}{E:St->XK}{ke ve b_ iter:Expr}{ifs:List Expr}{rest:List Qs}{scope:Scope}{pos:TK}{Nc dq:List Pn}{c4:List Nat}{g:TG}{tb:Ou->TB}
theorem IN{kb:Bool}(c:X.calm=Oq)(S:dr X scope Nc dq c4)(d:PI X b_ iter (iV X.K it E))
  (e:∀(cl:List (Pn×Ou)) (C:Ou) (a:List Ou) (s:OD) (H:Hp),PG (az X Nc scope cl C a s H) b_ g/\dy (az X Nc scope cl C a s H) ifs (g8 X.K tt E0)/\∀D,PB (az X Nc scope cl C a s H) (.D ke ve) (⟨b_,iter,ifs,0⟩::rest) scope pos 0 D (tb D))
  (f:ck X.K g tg) (i:dm tg) (j:∀D,d6 X.K (RD X.K kb) D (tb D) b) (hs:∀x,PD iter X.env x=QU x:=by intro _;rfl):
  PE X (.DictComp ke ve (⟨b_,iter,ifs,0⟩::rest) scope pos) (tV X.K (gr dq.length c4 it tg tt b (ki kb)) E):=
 (BZ (b:=kb) c S d e hs).imp λk H Q h=>uD f i j h
noncomputable def gA:List D->Option (List Int)
 |[]=>on []
 | .int i::r=>(gA r).map (i::·)
 |_=>Om
def fK:Bool->D->Option et
 |false,.tup ds=>(gA ds).map λl=>(0,l)
 |true,.tup [.int i,.tup ds]=>(gA ds).map λl=>(i,l)
 |_,_=>Om
theorem p9:∀(l:List Int),gA (l.map .int)=on l
 |[]=>rfl
 |i::l=>by show(gA (l.map .int)).map _=_;rw[p9 l];rfl
theorem lK:∀{ds:List D} {l:List Int},gA ds=on l->ds=l.map .int
 |[],l,h=>by cases h;rfl
 | .int i::r,l,h=>by
  have h':(gA r).map (i::·)=on l:=h;cases q:gA r with
  |none=>rw[q]at h';cases h'
  |some m=>rw[q]at h';cases h';rw[lK q];rfl
 | .non::_,_,h=>by cases h
 | .bl _::_,_,h=>by cases h
 | .str _::_,_,h=>by cases h
 | .ty _::_,_,h=>by cases h
 | .txt::_,_,h=>by cases h
 | .lst _::_,_,h=>by cases h
 | .tup _::_,_,h=>by cases h
 | .scr _::_,_,h=>by cases h
 | .obj _ _ _::_,_,h=>by cases h
 | .bag::_,_,h=>by cases h
 | .adr _::_,_,h=>by cases h
 | .dct _ _ _::_,_,h=>by cases h
theorem mE{b:Bool}(h:z_ b k):fK b (dK b k)=on k:=by
 cases b with
 |true=>show(gA _).map _=_;rw[p9];rfl
 |false=>show(gA _).map _=_;rw[p9];exact Py on (RW (h rfl).symm rfl)
theorem j4{b:Bool}(h:fK b d=on k):z_ b k/\d=dK b k:=by
 unfold fK at h;split at h
 .rename_i ds
  cases q:gA ds with
  |none=>rw[q]at h;cases h
  |some l=>rw[q]at h;cases h;exact⟨λ_=>rfl,by rw[lK q];rfl⟩
 .rename_i i ds
  cases q:gA ds with
  |none=>rw[q]at h;cases h
  |some l=>rw[q]at h;cases h;exact⟨λz=>(by cases z),by rw[lK q];rfl⟩
 .cases h
noncomputable def lm(ks:List et)(vs:List D)(k:et):Option D:=((ks.zip vs).find? λp=>decide (p.1=k)).map (·.2)
variable{K:OX}{F:Fx}{H:Hp}
def RelD(K:OX)(F:Fx)(H:Hp):Option D->Option V->Prop
 |none,v=>v=Om
 |some d,v=>∃u,v=on u/\c_ K F H d u
theorem pe:∀{xs:List (et×Ou×V)} {vs:List D},bb K F H vs (xs.map (·.2.2))->RelD K F H (lm (xs.map (·.1)) vs k) (ni xs k)
 |[],vs,_=>by unfold lm ni;rfl
 |x::xs,vs,h=>by
  cases vs with
  |nil=>cases h
  |cons d vs=>
   obtain⟨u,r,e,a,b⟩:=h;rw[OJ,RB]at e;obtain⟨rfl,rfl⟩:=e;have ih:=pe (k:=k) b;unfold lm ni at ih⊢;rw[OJ,QX,Rr,Rr];by_cases q:x.1=k
   .rw[OO q];exact⟨_,rfl,a⟩
   .rw[Pp q];exact ih
def DS:D->D->Option D
 | .dct b ks vs,y=>(fK b y).bind (lm ks vs)
 |_,_=>Om
theorem NW:aX K (KS K) DS:=λF H β Q d1 d2 d y A fr h i e k=>by
 unfold DS at e;split at e
 .rename_i b ks vs
  cases q:fK b d2 with
  |none=>rw[q]at e;cases e
  |some f=>
   rw[q]at e;have j:lm ks vs f=on d:=e;obtain⟨l,rfl⟩:=j4 q;obtain⟨c,rfl,m⟩:=pk l i;unfold c_ at h;obtain⟨a,ep,xs,rfl,n,rfl,o,p⟩:=h;have:=pe (k:=f) p;rw[j]at this;obtain⟨u,r,t⟩:=this;exact⟨a,b,ep,xs,f,c,u,rfl,rfl,n.2,λx v=>(o x v).s,m.s,r,k u H (To.refl fr) t⟩
 .cases e
def Nz(K:OX):V->List V->Hp->VK->Prop:=λx ys H Q=>∃a b ep xs k c z,x= .ref a/\ys=[.ref c,z]/\H a=on (cc a b ep xs)/\(∀x∈xs,s_ K H b x.1 x.2.1)/\s_ K H b k c/\Q ((ni xs k).getD z) H
variable{o e:Expr}{es:List Expr}{apos cpos:TK}
theorem JB(n:X.A.units+2<T7):MtR X "dict.get" (Nz X.K):=by
 intro l s N H x xs v us Q I r t h;obtain⟨a,b,ep,ys,k,c,z,rfl,rfl,u,B,C,q⟩:=h;cases r;obtain⟨O,J,rfl,r1,L⟩:=rF t;cases r1;obtain⟨j,d,p,_,hs⟩:=ix I u B;have f:=jh (k:=k) p;refine call_meetsIn Wv d.typeIs PySem.F.entry_dict_get (PySem.F.args_dict_get_3 _ _ _) (meetsH_dict_get_default (KB X.prog X.w b) a c hs J) ⟨jv n,k,j,mD I C,d,_,H,I.tok _,?_,q⟩;cases m:ni ys k with
 |none=>
  rw[m]at f;cases i:(V0 j k).map (·.2)with
  |none=>exact L
  |some w=>rw[i]at f;exact f.elim
 |some y=>
  rw[m]at f;cases i:(V0 j k).map (·.2)with
  |none=>rw[i]at f;exact f.elim
  |some w=>rw[i]at f;exact f
def DQ(f:FD)(g:FL):FD:=λδ=>M.bind (f δ) λd=>match d with
 | .dct b ks vs=>M.bind (g δ) λas=>M.ofO (match as with
  |[k,z]=>(fK b k).map λk=>(lm ks vs k).getD z
  |_=>Om)
 |_=>M.fail
theorem Nh{g:FL}(hu:X.A.units+2<T7)(ho:PE X o (tV X.K f E))(ha:PA X (e::es) (js X.K g E))
  (n:SM o "get" X.env (P0 o X.env)=P0 o X.env:=by rfl)
  (B:((Q0 cpos (OM (e::es) X.env)).all (λx=>!x.1)&&(RN cpos (QH [] X.env)).all (λx=>x.1.isSome)
   &&decide ((e::es).length+([]:List Vr).length+(if([]:List Vr).isEmpty then 0 else 1)<30))=Oq:=by rfl)
  (p:(apos.endLine==cpos.line)=Oq:=by rfl) (hs:OM (e::es) X.env=(Ov,P0 e X.env)::OM es X.env:=by rfl) (m:(Q0 cpos (OM es X.env)).any (·.1)=Ov:=by rfl):
  PE X (.Call (.Attribute o "get" apos) (e::es) [] cpos) (tV X.K (DQ f g) E):=by
 intro j s J H Q I h;obtain⟨F,δ,β,fr,vk,h⟩:=h;refine Ys n B p rfl (eo (ho j s J H _ I ⟨F,δ,β,fr,vk,(run.bind (R:=c_ X.K F) h)⟩) λv s1 h1=>?_);obtain⟨x,H1,I1,r1,d,β1,t,hd,q1⟩:=h1;have fail:∀{N:M D},N=M.fail->run (c_ X.K F) F E J N H1 Q β1->False:=λ{N} e r=>by
  obtain⟨r,β',e',_⟩:=r;rw[e]at e';cases e'
 cases d<;>first|exact(fail rfl q1).elim|skip
 rename_i b ks vs;have C:=hd;unfold c_ at C;obtain⟨a,ep,xs,rfl,O,rfl,hk,dl⟩:=C;cases r1;obtain⟨ys,dd,_,_,_⟩:=ix I1 O.2 λx T=>(hk x T).s;refine⟨"dict","dict.get",Wd,Wv,PySem.F.type_dict_get,dd.typeIs,λb e=>?_,?_⟩
 .cases e
  obtain⟨ob,_,_,g1,g2,_⟩:=dd;exact⟨ob,g1,g2.2.1⟩
 have hA:=ha cpos j s1 J H1 _ I1 ⟨F,δ,β1,t.fr,vk.tr (t.tr fr),run.bind (R:=bb X.K F) q1⟩;rw[hs]at hA⊢;refine Uz (by show(Ov||(Q0 cpos (OM es X.env)).any (·.1))=Ov;rw[m]<;>rfl) (WR (eo hA λus s2 h2=>?_))
 obtain⟨ws,L,I2,r2,as,β2,t2,U,q2⟩:=h2;obtain⟨z,y,kf⟩:=run.ofO q2;have tt:=t2.tr t.fr;split at y
 .rename_i k zz
  cases W:fK b k with
  |none=>rw[W]at y;cases y
  |some i=>
   rw[W]at y;cases y;obtain⟨hz,rfl⟩:=j4 W;obtain⟨w1,Y,rfl,Z,hw2⟩:=bb.two U;obtain⟨c,rfl,kc⟩:=pk hz Z;have dl2:=bb.tr tt _ _ dl;have hk2:∀x∈xs,s_ X.K L b x.1 x.2.1:=λx T=>((hk x T).tr tt).s;refine JB hu j s2 J L (.ref a) [.ref c,Y] (.ref a) us Q I2 rfl r2 ⟨a,b,ep,xs,i,c,Y,rfl,rfl,tt.kp a _ O.1 O.2,hk2,kc.s,?_⟩;refine kf _ L (To.refl t2.fr) ?_;show c_ X.K F L ((lm (xs.map (·.1)) vs i).getD zz) ((ni xs i).getD Y);have l:=pe (k:=i) dl2;cases q:lm (xs.map (·.1)) vs i with
   |none=>
    rw[q]at l;have l':ni xs i=Om:=l;rw[l'];exact hw2
   |some d=>
    rw[q]at l;obtain⟨u,l',hu'⟩:=l;rw[l'];exact hu'
 .cases y
end
end L2.Pu
namespace L2.Hs
open PySem PySem.Spec PyProof.Rows
section
variable{prog:Pf}{w:Po}{A:PV}{E:Oy->OD->Prop}{s:OD}{d it v:Ou}{od:Pa}{es:Array Q2}{ep i:Nat}{ok ov:Oy}
theorem xI(a:s.TypeIs (.ref d) "dict")(hd:(d==Tw)=Ov)(h:Q (.ref s.heap.objs.size) {s with heap:=s.heap.push {cls:= .type "dict_items",data:= .fields #[.ref d]}}):OK (O7 prog w) A (VI (.builtin "dict.items") [.ref d]) Q E s:=by
 refine Ph F.slot_dict_items a F.entry_dict_items ?_ (F.args_dict_items_1 _);unfold Builtin.«dict.items»;refine My ?_;unfold Builtin.Dict.noArgs;refine My (wpAny_notOrdered_dict a ?_);show OK _ _ (QU d) _ _ s;refine On ?_;show OK _ _ (SC d>>=_) _ _ s;unfold SC;rw[OC (by rw[hd];exact OH)];exact My (On (My (Pk (On ⟨_,rfl,h⟩))))
theorem xm(a:s.heap.IsItemsView v d)(e:s.heap.get? d=on od)(hd:od.data= .dict es ep)
  (h:Q (.ref s.heap.objs.size) {s with heap:=s.heap.push {cls:= .type "dict_itemiterator",data:= .fields #[.none,.bool Ov,.ref d,.int 0 0,.int es.size 0,.int ep 0,.none,.none]}}):OK (O7 prog w) A (UZ (.ref v)) Q E s:=by
 obtain⟨o,b,f,c⟩:=id a;refine Tf a.typeIs Xu (Ph Xu a.typeIs F.entry_dict_items_iter ?_ (F.args_dict_items_iter_1 _));unfold Builtin.«dict_items.__iter__»;refine My (On (My ?_));unfold Builtin.Dict_items.dictOf;refine My (Qb b c (x:= .ref d) rfl (On (My ?_)));unfold Builtin.Dict_items.newIterator;refine My (Ss e hd (My (SS e hd ?_)));simp only[show QP "dict_itemiterator"=Oq from by decide,PN];refine Pk (On ⟨_,rfl,"dict_itemiterator",_,⟨_,OL _ rfl,rfl⟩,QA.lookup,?_⟩)
  (by simp only[sizeOk,TV,OU,OQ,OR,VR,Qr];omega)
 simpa[R4,TV]using h
theorem xk(a:Uo s.heap it d i es.size ep ok ov)(h:Q (.ref it) s):OK (O7 prog w) A (UZ (.ref it)) Q E s:=by
 have c:s.TypeIs (.ref it) "dict_itemiterator":=⟨_,a,rfl⟩;refine Tf c V9 (Ph V9 c (b:=Builtin.«dict_keyiterator.__iter__») (W8 (id':="dict_keyiterator.__iter__") (by kernel_rfl) rfl (by decide +kernel) (by kernel_rfl)) ?_ (F.args_dict_itemiterator_iter_1 _));show OK _ _ (ret (.ref it)) _ _ s;exact On ⟨_,rfl,"dict_itemiterator",_,c,QA.lookup,h⟩
theorem xl{e:Q2}(m:Uo s.heap it d i es.size ep ok ov)(ho:s.heap.get? d=on od)(hd:od.data= .dict es ep)(Y:es[i]?=on e)
  (hQ:∀h',IsItemIterOut h' it d (i+1) es.size ep e.key e.val s.heap.objs.size->h'.get? s.heap.objs.size=on {cls:= .type "tuple",data:= .seq #[e.key,e.val]}->h'.objs.size=s.heap.objs.size+1->
   (∀b o,b≠it->s.heap.get? b=on o->h'.get? b=on o)->Q (on (.ref s.heap.objs.size)) {s with heap:=h'}):OK (O7 prog w) A (Sd (.ref it)) Q E s:=by
 obtain⟨n,g,T,U,os⟩:=s;have u:Shared.TypeIs ⟨n,g,T,U,os⟩ (.ref it) "dict_itemiterator":=⟨_,m,rfl⟩;have W:i<es.size:=by
  rcases Vx i es.size with h|h
  .exact h
  .simp[Q9 h]at Y
 obtain rfl:es[i]=e:=by rw[Se W]at Y;exact Pb Y
 unfold Sd;refine My (Sb (wpAny_callSpecial?_slot (name:=Qq "__next__") u QA
  (Ph QA u VX ?_ (VO _))))
 refine My (On (My (My ?_)))
 first|refine My (RT u (On ?_))|refine My (SI u (On ?_))
 refine My (Te m rfl ?_);simp only[show QP "dict_itemiterator"=Oq from by decide,PN];show OK _ _ (if(OP d==Pj)=Oq then _ else _) _ _ _;rw[OC (show ¬((OP d==Pj)=Oq)from OH)];refine My (On (My (Ss ho hd ?_)));rw[OC (by simp)];refine My (On (My (SS ho hd ?_)));rw[OC (by simp)];refine On ?_;simp only[show ¬((i:Int)<0)from by omega,PF,P3,Se W];refine My ?_
 first|refine My (RT u (On ?_))|refine My (SI u (On ?_))
 refine My (U2 u ?_);show OK _ _ (Vn (.ref it) 3 (R4 ((i:Int)+1))>>=_) _ _ ⟨n,g,T,U,os⟩;refine My (Qk m (by simp) λa c f=>?_)
 replace f:Pd it n a:=f
 replace c:Uo a it d (i+1) es.size ep ok ov:=by
  have e:((i+1:Nat):Int)=(i:Int)+1:=by omega
  unfold Uo;rw[e];simpa[R4]using c
 have l:Shared.TypeIs ⟨a,g,T,U,os⟩ (.ref it) "dict_itemiterator":=⟨_,c,rfl⟩;refine My (P4 (My (U2 l (My (U2 l ?_)))));show OK _ _ (Ui (.ref it) 6 es[i].key es[i].val) _ _ ⟨a,g,T,U,os⟩;unfold Ui;refine My (Xe ?_);have j:Uo (a.push {cls:= .type "tuple",data:= .seq #[es[i].key,es[i].val]}) it d (i+1) es.size ep ok ov:=Oo _ c;have k:a.objs.size=n.objs.size:=f.1;have Z:it≠n.objs.size:=Ps (O1 m);have y:(a.push {cls:= .type "tuple",data:= .seq #[es[i].key,es[i].val]}).get? n.objs.size=on {cls:= .type "tuple",data:= .seq #[es[i].key,es[i].val]}:=by rw[<-k];exact OL _ rfl
 have B:(a.push {cls:= .type "tuple",data:= .seq #[es[i].key,es[i].val]}).objs.size=n.objs.size+1:=by rw[Qn,k]
 have C:∀b o,b≠it->n.get? b=on o->(a.push {cls:= .type "tuple",data:= .seq #[es[i].key,es[i].val]}).get? b=on o:=λb o X e=>Oo _ (f.extBut b o X e);generalize a.push {cls:= .type "tuple",data:= .seq #[es[i].key,es[i].val]}=h₂ at*;show OK _ _ (TW (.ref it)>>=_) _ _ ⟨h₂,g,T,U,os⟩;rw[k];refine My ?_;unfold TW;refine My (Qb j rfl (x:= .none) rfl (On ?_));simp only[PN];refine My (Qb j rfl (x:=ok) rfl (My (Qb j rfl (x:=ov) rfl ?_)));refine My (Qk j (by simp) λp F H=>?_);refine My (Qk F (by simp) λq I J=>?_);refine My (Qk I (by simp) λr L N=>?_);refine My (Qk L (by simp) λt O R=>?_);have sb:=((show Pd it h₂ p from H).trans (show Pd it p q from J)).trans ((show Pd it q r from N).trans (show Pd it r t from R));exact My (Wx (On (On ⟨_,rfl,On (hQ t O (sb.extBut _ _ Z.symm y) (by rw[sb.1,B]) λb o X e=>sb.extBut b o X (C b o X e))⟩)))
theorem zF(g:A.handled=Om)(c:Uo s.heap it d i es.size ep ok ov)(f:s.heap.get? d=on od)(hd:od.data= .dict es ep)(h:es.size<=i)
  (j:∀h',US it s.heap h'->Q Om {s with heap:=h'}):OK (O7 prog w) A (Sd (.ref it)) Q E s:=by
 have e:s.TypeIs (.ref it) "dict_itemiterator":=⟨_,c,rfl⟩;unfold Sd;refine My (Sb (wpAny_callSpecial?_slot (name:=Qq "__next__") e QA
  (Ph QA e VX ?_ (VO _))))
 refine My (On (My (My ?_)))
 first|refine My (RT e (On ?_))|refine My (SI e (On ?_))
 refine My (Te c rfl ?_);simp only[show QP "dict_itemiterator"=Oq from by decide,PN];show OK _ _ (if(OP d==Pj)=Oq then _ else _) _ _ s;rw[OC (show ¬((OP d==Pj)=Oq)from OH)];refine My (On (My (Ss f hd ?_)));rw[OC (by simp)];refine My (On (My (SS f hd ?_)));rw[OC (by simp)];refine On ?_;simp only[show ¬((i:Int)<0)from by omega,PF,P3,Q9 h];refine My ?_
 first|refine My (RT e (On ?_))|refine My (SI e (On ?_))
 show OK _ _ (Vn (.ref it) 2 .none>>=_) _ _ s;refine My (RQ c rfl (by simp) ?_);show OK _ _ (Wn (.type "StopIteration") []>>=_) _ _ _;refine My ?_;simp only[Wn,newTuple];refine My (Pk ?_ (by size_fits));refine My (m:=RO _ _) (R0 (a:=Pj) (by first|rfl|(simp only[RO];rfl)) ?_)
 refine Pk ?_ (by size_fits);simp only[Xc];refine My (VE ?_);rw[show A.in1.handled=Om from g];refine My (On (Wz ?_));refine My (QI (T:="StopIteration") (b:=Oq) ⟨_,OL _ rfl,rfl⟩ Vm ?_);exact On (j _ (((Qf ..).extBut.push _).push _))
end
end L2.Hs
namespace L2.Pu
open PySem PySem.Spec PyProof.Rows L2.Hs
noncomputable def Iti(a:Ou)(ep n:Nat):It:=
 ⟨λi H=>∃b xs,H a=on (cc a b ep xs)/\xs.length=n/\i<n,
  λi H v c=>∃p x,H p=Om/\v= .ref p/\c=upd H p (.tup [.ref x.1,x.2])/\∀b xs,H a=on (cc a b ep xs)->(xs[i]?).map (·.2)=on x,
  λi H=>∃b xs,H a=on (cc a b ep xs)/\xs.length=n/\i=n⟩
theorem GK:∀{xs:List (et×Ou×V)} {ys:List (et×Ou×Oy)} {i:Nat} {y:et×Ou×Oy},TZ XY xs ys->ys[i]?=on y->∃x,xs[i]?=on x/\XY x y
 |_,_,0,_,.cons h t,e=>by cases e;exact⟨_,rfl,h⟩
 |_,_,i+1,_,.cons h t,e=>GK (i:=i) t e
 |_,_,0,_,.nil,e=>by cases e
 |_,_,_+1,_,.nil,e=>by cases e
section
variable{X:Cx}{a_:List (Ou×Pa)}{σ:St}{H:Hp}{s:OD}{a:Ou}{b:Bool}{ep i:Nat}{xs:List (et×Ou×V)}
theorem pP(I:dc X a_ σ H s)(h:H a=on (cc a b ep xs)):∃(o:Pa) (es:Array Q2),s.heap.get? a=on o/\o.data= .dict es ep/\es.size=xs.length/\o.ExactDict/\(a==Tw)=Ov/\∀(i:Nat) (e:Q2),es[i]?=on e->∃x,xs[i]?=on x/\e.key= .ref x.2.1/\aI x.2.2 e.val:=by
 obtain⟨o,es,ys,j,k,l,d,u,m,v,g⟩:xN a b ep xs s.heap:=(I.hok a _ h).1;have n:ys.length=xs.length:=by rw[<-Ol (f:=(·.1)),<-jg g,Ol]
 refine⟨o,es,j,l,by rw[<-Pe,d,Ol,n],k,m,λi e c=>?_⟩;rw[<-RX,d,Ox]at c;cases q:ys[i]? with
 |none=>rw[q]at c;cases c
 |some y=>
  rw[q]at c;cases c;obtain⟨x,p,_,r,t⟩:=GK g q;exact⟨x,p,by rw[r],t⟩
theorem wv{P:Pf}{w:Po}{K:OX}{x1}(a it:Ou)(n ep:Nat):
  nw P w K (.Tuple elts x1 pos) (Iti a ep n) [it] it (λi h=>∃ok d,Uo h it a i n ep ok d) where
 mem:=by simp
 obj:=λi h st b c=>by
  obtain⟨ok,d,e⟩:=st;cases O9.mp c;exact⟨_,e,λv q=>by cases q⟩
 keep:=λi h h' st k=>by
  obtain⟨ok,d,e⟩:=st;exact⟨ok,d,k it (by simp) _ e⟩
 item:=by
  intro X m p r J i a_ s σ H E I f st t;subst m p r;obtain⟨ok,d,e⟩:=st;obtain⟨b,xs,A,W,L⟩:=t;obtain⟨o,es,g,j,Y,h4,h5,Z⟩:=pP I A;have hn:n=es.size:=by omega
  subst hn;have B:es[i]?=on es[i]:=Se L;refine xl e g j B λh' io gt sz kp=>⟨_,rfl,wpAny_letOwnedTupleGo_items (s:={s with heap:=h'}) io λC ei N=>?_⟩;obtain⟨x,ex,O,Q⟩:=Z i _ B;have R:s.heap.objs.size≠it:=Rf (O1 e);have I2:dc X a_ σ (upd H s.heap.objs.size (.tup [.ref x.2.1,x.2.2])) {s with heap:=C,toks:=s.toks}:=
   dc.turnNew I f (λb u c q=>N.extBut b u (λz=>c (by rw[z];simp)) (kp b u (λz=>c (by rw[z];simp)) q)) (OG _) ⟨by show 2<=OV;decide,[es[i].key,es[i].val],.cons O (.cons Q .nil),_,N.extBut _ _ R gt,rfl,_,rfl⟩
  refine⟨.ref s.heap.objs.size,_,I2,rfl,⟨s.heap.objs.size,x.2,I.hok.fresh (OG _),rfl,rfl,λb' xs' F=>?_⟩,⟨_,_,ei⟩,λb c=>?_⟩
  .obtain⟨o',es',T,U,_,_,_,g6⟩:=pP I F
   rw[g]at T;cases T;rw[j]at U;cases U;obtain⟨y,ey,l,fv⟩:=g6 i _ B;rw[ey];rw[O]at l
   injection l with l
   exact Py on (RW l.symm (aI.inj fv Q))
  .cases O9.mp c
   rw[bt R.symm];exact(f _ c).1
 done:=by
  intro X m p r J i a_ s σ H E I f st t;subst m p r;obtain⟨ok,d,e⟩:=st;obtain⟨b,xs,A,W,L⟩:=t;obtain⟨o,es,g,j,Y,_⟩:=pP I A;have hn:n=es.size:=by omega
  subst hn;refine zF (I.ok.hd J) e g j (by omega) λh' kp=>⟨rfl,dc.turnL (t':=s.toks) I f λb o c q=>kp b o (λz=>c (by rw[z];simp)) q⟩
 self:=λ_ _ _ _ _ st h=>by
  obtain⟨ok,d,e⟩:=st;exact xk (es:=(O0 n (⟨0,.none,.none⟩:Q2)).toArray) (by rw[OU,Qz];exact e) h
variable{E:St->XK}{K:OX}{o:Expr}{apos cpos tpos:TK}{elts:List Expr}{x1:Nat}
def ZZ(to:TE):TI:=λσ H R=>to σ H λx c=>∃a b ep xs,x= .ref a/\c a=on (cc a b ep xs)/\R (Iti a ep xs.length) c
theorem BU(p:PE X o to)(c:SM o "items" X.env (P0 o X.env)=P0 o X.env:=by rfl)(d:(apos.endLine==cpos.line)=Oq:=by rfl):PI X (.Tuple elts x1 tpos) (.Call (.Attribute o "items" apos) [] [] cpos) (ZZ to):=by
 intro a_ s σ H R I h;refine wpAny_Call_method0_late c d (eo (p a_ s σ H _ I h) λv f g=>?_);obtain⟨x,m,n,r1,a,b,ep,xs,rfl,r,q⟩:=g;cases r1;obtain⟨j,es,g,t,u,k,y,_⟩:=pP n r;refine⟨"dict","dict.items",Wd,PySem.F.slot_dict_items,PySem.F.type_dict_items,⟨j,g,k.1⟩,λb e=>?_,?_⟩
 .cases e;exact⟨j,g,k.2.1⟩
 refine Uz rfl (PySem.evalArgs_none (xI ⟨j,g,k.1⟩ y ?_));have l:dc X a_ σ m {f with heap:=f.heap.push {cls:= .type "dict_items",data:= .fields #[.ref a]},toks:=f.toks}:=n.kept λb o e=>Oo _ e;refine xm (s:={f with heap:=f.heap.push {cls:= .type "dict_items",data:= .fields #[.ref a]}}) ⟨_,OL _ rfl,rfl,rfl⟩ (Oo _ g) t ?_;rw[u];exact⟨_,[_],_,_,m,rfl,l.kept (t':=f.toks) λb o e=>Oo _ e,wv a _ _ ep,⟨_,_,OL _ rfl⟩,λb A=>by
  cases O9.mp A;exact l.fpOk (OG _) (l.hok.fresh (OG _)),q⟩
def ZW:D->Option (List D)
 | .dct b ks vs=>on (TC (λk v=> .tup [dK b k,v]) ks vs)
 |_=>Om
theorem zG{F:Fx}{H:Hp}{b:Bool}{a:Ou}{ep:Nat}{xs:List (et×Ou×V)}(C:¬F.A a)(I:H a=on (cc a b ep xs))(g:ks=xs.map (·.1))(J:∀x∈xs,eK K F H b x.1 x.2.1)(h:bb K F H vs (xs.map (·.2.2))):up K (Iti a ep xs.length) F H (TC (λk v=> .tup [dK b k,v]) ks vs):=λT j β2 t fr i=>by
 have L:vs.length=xs.length:=by rw[h.length,Ol]
 have N:ks.length=xs.length:=by rw[g,Ol]
 have c:=t.kp a _ C I;refine⟨λd hd=>?_,λe=>⟨b,xs,c,rfl,by rw[e,U7,N,L,WW]⟩⟩;have e:i<xs.length:=by
  have:=(OI.mp hd).1;rw[U7]at this;omega
 refine⟨⟨b,xs,c,rfl,e⟩,λy U O=>?_⟩;obtain⟨p,x,l,rfl,rfl,Q⟩:=O;have m:=Q b xs c;rw[Os e]at m;have f:xs[i].2=x:=Pb m;subst f;have n:bJ j (upd j p (.tup [.ref xs[i].2.1,xs[i].2.2])):=bJ.upd l;obtain⟨v,q⟩:∃v,vs[i]?=on v:=⟨_,Os (by omega)⟩;have R:ks[i]?=on xs[i].1:=by rw[g,Ox,Os e];rfl
 rw[WT,R,q]at hd;cases hd;have d2:=bb.tr t _ _ h;obtain⟨u,r,du⟩:=d2.get q;rw[Ox,Os e]at r;cases r;have B:=(fr.same n).tr fr;exact⟨n,oy (.inl ⟨fr.fresh l,.inl aj⟩) (bb.cons (c_.tr B _ _ (HP ((J _ (Pr e)).tr t))) (bb.cons (c_.tr B _ _ du) bb.nil))⟩
def ZM(f:FD):FL:=λδ=>M.bind (f δ) λd=>M.ofO (ZW d)
theorem JP(m:PE X o (tV X.K f E))(c:SM o "items" X.env (P0 o X.env)=P0 o X.env:=by rfl)(g:(apos.endLine==cpos.line)=Oq:=by rfl):PI X (.Tuple elts x1 tpos) (.Call (.Attribute o "items" apos) [] [] cpos) (iV X.K (ZM f) E):=
 (BU m c g).imp λσ H R j=>lg j λF δ β fr n h=>⟨F,δ,β,fr,n,(run.bind (R:=c_ X.K F) h).mono λv p j=>by
  obtain⟨d,β1,t,hd,r1⟩:=j;obtain⟨ds,e,k⟩:=run.ofO r1;cases d<;>first|(cases e;done)|skip
  cases e;unfold c_ at hd;obtain⟨a,ep,xs,rfl,l,q,r,u⟩:=hd;exact⟨a,_,ep,xs,rfl,l.2,k _ p (To.refl t.fr) (zG l.1 l.2 q r u)⟩⟩
end
end L2.Pu
namespace L2.Hs
open PySem PySem.Spec PyProof.Rows
theorem vG:mroOf (.type "reversed")=QU [.type "reversed",.type "object"]:=by rw[mroOf_type];kernel_rfl
theorem CS:typeLookup (.type "reversed") "__new__"=QU (on (.builtin "reversed.__new__")):=by rw[WF,Vd];kernel_rfl
theorem CM:Bind.madeBy (.type "reversed")=QU (on "reversed.__new__"):=madeBy_type vG CS (by decide +kernel)
theorem IX:isSubtype (.type "reversed") (.type "reversed")=QU Oq:=by rw[Td];kernel_rfl
theorem BD:isSubtype (.type "range_iterator") (.type "reversed")=QU Ov:=by rw[Td];kernel_rfl
theorem JV:entryFor table "reversed.__new__"=on Builtin.«reversed.__new__»:=entryFor_of_tree (by kernel_rfl)
section
variable{prog:Pf}{w:Po}{A:PV}{E:Oy->OD->Prop}{s:OD}
theorem DW(a:IsRange s.heap r 0 n 1 t u v)(j:0<=n)(g:n<2^62)
  (h:Q (.ref s.heap.objs.size) {s with heap:=s.heap.push {cls:= .type "range_iterator",data:= .fields #[R4 (n-1),R4 n,R4 (-1)]}}):OK (O7 prog w) A (VI (.type "reversed") [.ref r]) Q E s:=by
 refine wpAny_call (codeAny_of_tree ?_);show OK _ _ (callAny (.type "reversed") _) _ _ _;refine On ⟨Code.quiet_builtin _ (by decide +kernel),T3 F.entry_type_call ?_⟩;rw[Around.under_plain (weight_type_call_type "reversed" [.ref r] []) (units_type_call_type "reversed" [.ref r] [])];have g:(Ry "reversed"==Ry "type")=Ov:=by decide +kernel
 have k:((XV "reversed").bind (·.mro.findSome? λt=>(XV t).bind λb=>if b.noNew then on Oq else if b.attrs.any (·.1=="__new__")then on Ov else Om)).getD Ov=Ov:=by decide +kernel
 have e:=vG;have c:=CM;have i:checkTypeCall "reversed" ⟨[.ref r],[]⟩=QU ():=by kernel_rfl
 repeat (any_goals (first|assumption|wp_step))
 refine codeAny_call_builtin (by decide +kernel) JV (R0 (show checkBuiltinCall "reversed.__new__" ⟨[.type "reversed",.ref r],[]⟩=QU () by kernel_rfl) ?_);have f:s.TypeIs (.ref r) "range":=⟨_,a,rfl⟩;unfold Builtin.«reversed.__new__»
 repeat (any_goals (first|assumption|wp_step))
 refine R0 IX (On ?_);refine My (m:=T9 _ _ _) ?_;refine R0 (show T9 "reversed" (Ry "reversed") ⟨[.type "reversed",.ref r],[]⟩=QU ()from rfl) ?_;refine My (m:=checkCount "reversed" 1 1 _) (On ?_);show OK _ _ (specialOf (.ref r) (Qq "__reversed__")>>=_) _ _ s;refine My (Rg f F.slot_range_reversed.lookup ?_);show OK _ _ (bindSpecial (.builtin "range.__reversed__") (.ref r)>>=_) _ _ s;refine My (R0 (F.slot_range_reversed.bind _) ?_);show OK _ _ (rule "reversed.__new__.own-method">>=_) _ _ s;refine My (R5 (My (Xf (codeAny_call_builtin F.slot_range_reversed.plain F.entry_range_reversed (F.slot_range_reversed.check _ _ _ _ _ _ _ _ f (F.args_range_reversed_1 _) ?_)))));unfold Builtin.«range.__reversed__»;refine My (m:=selfOnly "range.__reversed__" _) (On (My ?_));unfold Builtin.Range.rangeFields;refine My (Qb a rfl (x:= .int 0 t) rfl (My (m:=asInt? _) (On ?_)));refine My (Qb a rfl (x:= .int n u) rfl (My (m:=asInt? _) (On ?_)));refine My (Qb a rfl (x:= .int 1 v) rfl (My (m:=asInt? _) (On (On ?_))));have hn:Vq 0 n 1=n:=by rw[rangeSize_one];split<;>omega
 simp only[hn];have d:(P9 0&&P9 n&&P9 1&&P9 (-1)&&P9 (0-1)&&P9 n)=Oq:=by
  have:P9 n=Oq:=by unfold P9;simp;omega
  rw[this];decide
 simp only[d,PN,Re,OW,PF];rw[show(0:Int)+(n-1)*1=n-1 by omega];refine My (Pk (On (On ?_)));exact My (QI (T:="range_iterator") (b:=Ov) ⟨_,OL _ rfl,rfl⟩ BD (My (R5 (On h))))
end
end L2.Hs
namespace L2.Pu
open PySem PySem.Spec PyProof.Rows L2.Hs
noncomputable def Itd(n:Nat):It:=⟨λi _=>i<n,λi H v a=>v= .int ((n:Int)-1-i)/\a=H,λi _=>n<=i⟩
theorem uQ{P:Pf}{w:Po}{K:OX}(it:Ou)(n:Nat):nw P w K tg (Itd n) [it] it (λi h=>Ws h it ((n:Int)-1+(i:Nat)*-1) ((n:Int)-(i:Nat)) (-1)) where
 mem:=by simp
 obj:=λi h st b c=>by
  cases O9.mp c;exact⟨_,st,λv z=>by
   have C:Data.fields _=Data.cell v:=z;cases C⟩
 keep:=λi h h' st k=>k it (by simp) _ st
 item:=by
  intro X g j l m i a s A H E I f st p;subst g j l;obtain⟨q,f1,f2,r,u,y⟩:=f it (by simp);refine(Walks.range (prog:=X.prog) (w:=X.w) (I.ok.hd m) it ((n:Int)-1) (-1) n).item i s _ _ p st λv h' B F d J=>?_;obtain⟨t,rfl⟩:=F;have L:dc X a A H {s with heap:=h',toks:=B}:=I.turned (λb o c e=>J b o (by simpa using c) e) q f1 r u y;exact⟨_,rfl,rX (s:={s with heap:=h',toks:=B}) (n:="range_iterator") d rfl rfl (by decide) ⟨.int ((n:Int)-1-i),H,L,⟨t,by rw[show(n:Int)-1+(i:Int)*-1=(n:Int)-1-i by omega]⟩,⟨rfl,rfl⟩,d,λb c=>(f b c).1⟩⟩
 done:=by
  intro X g j l m i a s A H E I f st p;subst g j l;obtain⟨q,f1,f2,r,u,y⟩:=f it (by simp);exact Yt (I.ok.hd m) st (by have:n<=i:=p;omega) λh' N=>⟨rfl,I.turned (t':=s.toks) (λb o c e=>N b o c e) q f1 r u y⟩
 self:=λ_ _ _ _ _ st h=>U3 st h
section
variable{X:Cx}{E:St->XK}{K:OX}{tg:Expr}
def N7(a:TA):TI:=λb H R=>a b H λvs c=>∃j:Int,vs=[.int j]/\0<=j/\j<2^62/\R (Itd j.toNat) c
theorem yP(f:Gl X "reversed")(g:X.mg "reversed"=Om)(n:Gl X "range")(hm:X.mg "range"=Om)(ha:PA X [a] ta)(hs:OM [a] X.env=[(Ov,P0 a X.env)]:=by rfl)
  (i:OM [.Call (.Name "range" p) [a] [] pos] X.env=[(Ov,P0 (.Call (.Name "range" p) [a] [] pos) X.env)]:=by rfl):PI X tg (.Call (.Name "reversed" p2) [.Call (.Name "range" p) [a] [] pos] [] pos2) (N7 ta):=by
 intro c s l H R I h;refine Call_ (fI I f g PyProof.Rows.Boot.«reversed» (Qj ?_ i rfl));refine Xr (Call_ (fI I n hm boot_range (Qj (eo (ha pos c s l H _ I h) λus d r=>?_) hs rfl)));obtain⟨vs,m,v,r1,j,rfl,q1,q2,q⟩:=r;obtain⟨u,rfl,t,rfl⟩:=iF r1;refine call_range_1 (XO (DW (IsRange.new ..) q1 q2 (U3 (x:=j-1) (left:=j) (step:=-1) (OL _ rfl) ?_)));have k:dc X c l m {d with heap:=d.heap.push {cls:= .type "range",data:= .fields #[.int 0 d.toks,.int j t,.int 1 (d.toks+1)]},toks:=d.toks+1+1}:=v.kept λb o e=>Oo _ e;refine⟨_,[_],_,_,m,rfl,k.kept (t':=d.toks+1+1) λb o e=>Oo _ e,uQ _ j.toNat,?_,λb y=>?_,q⟩
 .show Ws _ _ (((j.toNat:Nat):Int)-1+((0:Nat):Int)*-1) (((j.toNat:Nat):Int)-((0:Nat):Int)) (-1)
  rw[show((j.toNat:Nat):Int)-1+((0:Nat):Int)*-1=j-1 by omega,show((j.toNat:Nat):Int)-((0:Nat):Int)=j by omega];exact OL _ rfl
 .cases O9.mp y
  exact k.fpOk (OG _) (k.hok.fresh (OG _))
noncomputable def gN(n:Nat):List D:=(OB n).map λ(i:Nat)=> .int ((n:Int)-1-i)
theorem xo:up K (Itd n) F H (gN n):=λe f β2 t fr i=>by
 refine⟨λd hd=>?_,λa=>?_⟩
 .unfold gN at hd
  have a:i<n:=by
   have:=(OI.mp hd).1;simpa using this
  rw[Ox,Pz a]at hd;cases hd;exact⟨a,λx g ⟨b,c⟩=>by subst b c;exact⟨bJ.refl _,rfl⟩⟩
 .show n<=i
  rw[a];simp[gN]
def rJ:List D->Option (List D)
 |[.int j]=>if(decide (0<=j)&&decide (j<2^62))=Oq then on (gN j.toNat)else Om
 |_=>Om
theorem DH(b:Gl X "reversed")(c:X.mg "reversed"=Om)(j:Gl X "range")(hm:X.mg "range"=Om)(ha:PA X [a] (js X.K g E))(hs:OM [a] X.env=[(Ov,P0 a X.env)]:=by rfl)
  (d:OM [.Call (.Name "range" p) [a] [] pos] X.env=[(Ov,P0 (.Call (.Name "range" p) [a] [] pos) X.env)]:=by rfl):PI X tg (.Call (.Name "reversed" p2) [.Call (.Name "range" p) [a] [] pos] [] pos2) (iV X.K (cZ rJ g) E):=
 (yP b c j hm ha hs d).imp λq H R f=>lg f λF δ β fr m h=>⟨F,δ,β,fr,m,(run.bind (R:=bb X.K F) h).mono λvs n f=>by
  obtain⟨ds,β1,t,hd,r1⟩:=f;obtain⟨l,e,k⟩:=run.ofO r1;unfold rJ at e;split at e
  .split at e
   .rename_i i
    cases e;simp only[Pc,Pq]at i;obtain⟨v,rfl,o⟩:=bb.one hd;cases o.int;exact⟨_,rfl,i.1,i.2,k _ n (To.refl t.fr) xo⟩
   .cases e
  .cases e⟩
variable{e m:Expr}{te tm:TE}{pos p2:TK}
theorem BS(a:List Oy):X9 a.toArray Om Om (on (-1))=a.reverse.toArray:=by
 have b:Sz Om Om (on (-1)) a.toArray.size=((a.length:Int)-1,-1,-1):=by simp[Sz]
 unfold X9;rw[b];refine Py _ ?_;have c:sliceRange ((a.length:Int)-1) (-1) (-1)=(OB a.length).map λk=>a.length-1-k:=by
  unfold sliceRange;have d:(if(-1:Int)>0 then(if(a.length:Int)-1< -1 then(-1-((a.length:Int)-1)+-1-1)/ -1 else 0)else(if(a.length:Int)-1>-1 then((a.length:Int)-1- -1- -1-1)/(- -1)else 0)).toNat=a.length:=by
   rw[OC (by decide)];split
   .rw[show(- -1:Int)=1 by decide,Int.ediv_one];omega
   .omega
  simp only[d];exact O5 λk _=>by omega
 show(sliceRange ((a.length:Int)-1) (-1) (-1)).filterMap _=_;rw[c,XS];rcases a with _|⟨x,r⟩
 .rfl
 generalize j:x::r=a;rw[uw (g:=λk=>a.getD (a.length-1-k) x) λk f=>by
  have:k<a.length:=OY.mp f;simp only[TN,UN];rw[Op,Os (by omega)];rfl]
 refine QG (by simp) λi h l=>?_;have n:i<a.length:=by simpa using h
 rw[Rh,RH,Xl,Op,Os (by omega)];rfl
def Zw(K:OX)(te tm:TE):TE:=λc H Q=>te c H λx d=>tm c d λy b=>∃a xs,x= .ref a/\y= .int (-1)/\fx K b a xs/\∀p,b p=Om->Q (.ref p) (upd b p (.lst xs.reverse))
theorem K5(l:PE X e te)(hm:PE X m tm):PE X (.Subscript e (.Slice Om Om (on m) p2) pos) (Zw X.K te tm):=by
 intro c s f H Q I h;refine Subscript_ (eo (l c s f H _ I h) λv n o=>?_);obtain⟨x,p,r,r1,q1⟩:=o;refine wpAny_Slice ?_;rw[XG];refine On (On ?_);rw[evalPart_some];refine eo (hm c n f p _ r q1) λu d B=>?_;obtain⟨y,C,g,F,a,xs,rfl,rfl,sq,q⟩:=B;cases r1;obtain⟨t,rfl⟩:=F;obtain⟨its,i,pl,j⟩:=g.list sq;have k:dc X c f C {d with heap:=d.heap.push {cls:= .type "slice",data:= .fields #[.none,.none,.int (-1) t]}}:=g.kept (t':=d.toks) λb J q=>Oo _ q;show OK (O7 X.prog X.w) X.A (XI e (.Slice Om Om (on m) p2) (.ref a) (.ref d.heap.objs.size)) (EP X c f Q) X.xe {d with heap:=d.heap.push {cls:= .type "slice",data:= .fields #[.none,.none,.int (-1) t]}};refine tail_any (ops:=[.ref a,.ref d.heap.objs.size]) (pl.isList.push _).typeIs slot_list_getitem.lookup (XJ (pl.isList.push _) (VP ..) .none .none (.int (-1) t) (by simp) ?_ (by rw[OU,<-i.length];exact j)) (by with_unfolding_all rfl)
 rw[BS];exact⟨.ref _,_,k.lnew (t':=d.toks) (its:=its.reverse) (ys:=xs.reverse) i.reverse (by rw[Xx];exact j),rfl,q _ (k.hok.fresh (OG _))⟩
noncomputable def KO:D->D->Option D
 | .lst ds,.int (-1)=>on (.lst ds.reverse)
 |_,_=>Om
theorem bb.reverse:∀{ds:List D} {xs:List V},bb K F H ds xs->bb K F H ds.reverse xs.reverse
 |[],xs,h=>by have q:xs=[]:=h;subst q;exact bb.nil
 |d::ds,xs,h=>by
  obtain⟨x,r,rfl,a,b⟩:=h;rw[Ud,Ud];exact bb.append (bb.reverse b) (bb.cons a bb.nil)
theorem Nf(o:PE X e (tV X.K f E))(hm:PE X m (tV X.K g E)):PE X (.Subscript e (.Slice Om Om (on m) p2) pos) (tV X.K (f2 KO f g) E):=
 (K5 o hm).imp λu H Q b=>lg b λF δ β fr l h=>⟨F,δ,β,fr,l,(run.bind (R:=c_ X.K F) h).mono λv y b=>oa b λd β1 t hd r1=>⟨F,δ,β1,t.fr,l.tr (t.tr fr),(run.bind (R:=c_ X.K F) r1).mono λA B b=>oa b λd2 β2 i j q=>by
  obtain⟨z,c,k⟩:=run.ofO q;unfold KO at c;split at c
  .cases c
   obtain⟨a,xs,rfl,sq,r⟩:=c_.sqL (c_.tr (i.tr t.fr) _ _ hd);cases j.int;exact⟨a,xs,rfl,rfl,sq,λp n=>k _ _ (i.fr.upd _ n) (c_.newL i.fr n (bb.reverse r))⟩
  .cases c⟩⟩
end
end L2.Pu
namespace L2.Pu
open PySem
theorem Zc{A:PV}(a:eg k A):A.units+2<T7:=Qo (XW (by decide:2<=64) _) a.units
open PySem.Spec PyProof.Rows L2.Hs
section
variable{X:Cx}{E:St->XK}{ke ve b_ iter:Expr}{ifs:List Expr}{rest:List Qs}{scope:Scope}{pos:TK}{Nc dq:List Pn}{c4:List Nat}{g:TG}{tb:Ou->TB}
theorem Jm{kb:Bool}{b d:TK}(y:X.N.Nodup)(k:X.N[i]?=on x)(B:zv X.env.scope x)(F:X.calm=Oq)(S:dr X scope Nc dq c4)(L:PI X b_ iter wi)
  (O:∀(cl:List (Pn×Ou)) (C:Ou) (j:List Ou) (s:OD) (H:Hp),PG (az X Nc scope cl C j s H) b_ g/\dy (az X Nc scope cl C j s H) ifs tt/\∀D,PB (az X Nc scope cl C j s H) (.D ke ve) (⟨b_,iter,ifs,0⟩::rest) scope pos 0 D (tb D))
  (l:Tv (.DictComp ke ve (⟨b_,iter,ifs,0⟩::rest) scope pos) (on (.Name x b)) d.line X.env=QU Oq:=by rfl)
  (hs:∀x,PD iter X.env x=QU x:=by intro _;rfl) (R:X.fn x=Oq\/X.env.scope.names.lookup x=on .local:=by first|exact .inl rfl|exact .inr rfl|assumption):
  PS X (.Assign [.Name x b] (.DictComp ke ve (⟨b_,iter,ifs,0⟩::rest) scope pos) d) (fj (kH (λD=>cc D kb 0 []) dq c4 wi λD J=>cN J g tt (tb D)) (dE i)):=by
 intro f s U H D I h;rw[exec_Assign_Name_used _ _ _ _ l];refine My (Q5 (My ?_));show OK _ X.A (do let _ <-comprehension (.DictComp ke ve (⟨b_,iter,ifs,0⟩::rest) scope pos) scope X.env _ newDict Ov (P0 iter X.env) (on (T1 (.Name x b) X.env))) _ _ s
 refine My (PP (RE (use:=on (T1 (.Name x b) X.env)) (Q:=λ_ s'=>SP X f D .next s') rfl hs (S.clo I.ok) S.kind S.loc
  (PP (L f s U H _ I h) (λv s1 W=>PP W (λY Z n=>?_) λ_ _ e=>e) λ_ _ e=>e)) (λ_ s' hq=>On (On hq)) λ_ _ e=>e)
 obtain⟨it,j,tn,J,H2,e,o,T,p,f2,q⟩:=n;subst e;refine gu (c:= .D ke ve) nN (RR:=λacc C=>W7 (O7 X.prog X.w) X.A X.xe (on (T1 (.Name x b) X.env)) _ acc C) F S O o T p f2 q λA C s' H' m I' ns r q'=>?_;show OK _ X.A (T1 (.Name x b) X.env (.ref A)) _ _ s';refine V5 (kJ I' y k B (v:= .ref A) rfl (λZ o n=>?_) R);obtain⟨a,sb,ha⟩:=n;have t:C≠a:=by
  rcases ha with rfl|ha
  .exact r.2.1
  .exact λz=>r.2.2.2.1 x a ha z.symm
 exact⟨m,ns.sameBut sb t,λh' u=>⟨_,H',o.letgo r u,q'⟩⟩
theorem yu{kb:Bool}{a c:TK}(j:X.N.Nodup)(d:X.N[i]?=on x)(k:zv X.env.scope x)(l:X.calm=Oq)(S:dr X scope Nc dq c4)(m:PI X b_ iter (iV X.K it E))
  (n:∀(cl:List (Pn×Ou)) (C:Ou) (f:List Ou) (s:OD) (H:Hp),PG (az X Nc scope cl C f s H) b_ g/\dy (az X Nc scope cl C f s H) ifs (g8 X.K tt E0)/\∀D,PB (az X Nc scope cl C f s H) (.D ke ve) (⟨b_,iter,ifs,0⟩::rest) scope pos 0 D (tb D))
  (o:ck X.K g tg) (p:dm tg) (q:∀D,d6 X.K (RD X.K kb) D (tb D) b)
  (e:Tv (.DictComp ke ve (⟨b_,iter,ifs,0⟩::rest) scope pos) (on (.Name x a)) c.line X.env=QU Oq:=by rfl)
  (hs:∀x,PD iter X.env x=QU x:=by intro _;rfl) (r:X.fn x=Oq\/X.env.scope.names.lookup x=on .local:=by first|exact .inl rfl|exact .inr rfl|assumption):
  PS X (.Assign [.Name x a] (.DictComp ke ve (⟨b_,iter,ifs,0⟩::rest) scope pos) c) (tG X.K X.H₀ (lD i (gr dq.length c4 it tg tt b (ki kb))) E):=
 aG ((Jm (kb:=kb) j d k l S m n e hs r).imp λD t H h=>uD o p q h)
end
end L2.Pu
namespace L2.Hs
open PySem PySem.Spec PyProof.Rows
section
variable{X:Cx}
def KQ(K:OX):R2:=λx y H Q=>∃a b ep xs k c,x= .ref c/\y= .ref a/\H a=on (cc a b ep xs)/\(∀x∈xs,s_ K H b x.1 x.2.1)/\s_ K H b k c/\Q (.bl (ni xs k).isNone) H
theorem vC(i:X.A.units+2<T7):gs X (P7 .NotIn) (KQ X.K):=by
 intro c s t H x y v u Q I j l h;obtain⟨d,b,ep,xs,k,a,rfl,rfl,m,n,o,q⟩:=h;cases j;cases l;obtain⟨ys,hm,p,_,hd⟩:=ix I m n;have f:=jh (k:=k) p;show OK _ _ (do return Vc (!(<-contains (.ref d) (.ref a)))) _ _ s
 refine My ?_;unfold contains
 try with_reducible refine P4 ?_
 refine My (Rg hm.typeIs slot_dict_contains.lookup ?_);show OK _ _ (if(on (Value.builtin "dict.__contains__")==on Pj)=Oq then _ else _) _ _ s;rw[OC (by rw[beq_builtin_none];exact OH)];refine My (wpAny_callSpecialUnlessNone?_slot (name:=Qq "__contains__") hm.typeIs slot_dict_contains
  (Ph slot_dict_contains hm.typeIs entry_dict_contains ?_ (args_dict_contains _ _)))
 show OK _ _ (dictGet d (.ref a)>>=_) _ _ s;refine My (wpAny_dictGet_heap (jv i) (mD I o) hm ?_);cases g:V0 ys k with
 |some r=>
  rw[g]at f;cases e:ni xs k with
  |none=>rw[e]at f;exact f.elim
  |some z=>
   rw[e]at q;show OK _ _ (ret (.bool Oq)) _ _ _;exact On ⟨_,rfl,P8 (On ⟨.bl _,H,I.tok _,rfl,q⟩)⟩
 |none=>
  rw[g]at f;cases e:ni xs k with
  |some z=>rw[e]at f;exact f.elim
  |none=>
   rw[e]at q;show OK _ _ (Builtin.Dict.pendingKey? d (.ref a)>>=_) _ _ _;exact My (wpAny_pendingKey_other hd (On ⟨_,rfl,P8 (On ⟨.bl _,H,I.tok _,rfl,q⟩)⟩))
end
end L2.Hs
namespace L2.Pu
open PySem PySem.Spec PyProof.Rows L2.Hs
section
variable{K:OX}
def CG:D->D->Option D
 |y,.dct b ks vs=>(fK b y).map λk=> .bl (lm ks vs k).isNone
 |_,_=>Om
theorem NT:aX K (KQ K) CG:=λF H β Q d1 d2 d p r fr h g e k=>by
 unfold CG at e;split at e
 .rename_i b ks vs
  cases q:fK b d1 with
  |none=>rw[q]at e;cases e
  |some f=>
   rw[q]at e;cases e;obtain⟨i,rfl⟩:=j4 q;obtain⟨c,rfl,j⟩:=pk i h;unfold c_ at g;obtain⟨a,ep,xs,rfl,l,rfl,m,n⟩:=g;refine⟨a,b,ep,xs,f,c,rfl,rfl,l.2,λx o=>(m x o).s,j.s,?_⟩;have:=pe (k:=f) n
   dsimp only at k
   cases q2:lm (xs.map (·.1)) vs f with
   |none=>
    rw[q2]at this k;have t:ni xs f=Om:=this;rw[t];exact k _ H (To.refl fr) rfl
   |some z=>
    rw[q2]at this k;obtain⟨u,t,_⟩:=this;rw[t];exact k _ H (To.refl fr) rfl
 .cases e
end
end L2.Pu
namespace L2.Pu
open PySem PySem.Spec PyProof.Rows
section
variable{X:Cx}{E:St->XK}{K:OX}{st:Qg}{H₀:Hp}{B:Ow}{bg:Option (Ou×Ou)}{H H':Hp}{δ:Ds}{β β':Bg}{σ:St}
end
end L2.Pu
namespace L2.Pu
open PySem PySem.Spec PyProof.Rows PySem.SeqAt
open PySem.AutoSeq1 (wpAny_loadPart')
open PySem.MeetsSeq PySem.MeetsSeq2 PySem.MeetsSeq3
end L2.Pu
namespace L2.Hs
open PySem PySem.Spec PyProof.Rows
section
variable{X:Cx}
def Km(b:Bool):TE:=λ_ H Q=>∀D,H D=Om->Q (.ref D) (upd H D (cc D b 0 []))
theorem tP{b:Bool}:PE X (.Dict [] [] pos) (Km b):=by
 intro a s c H Q I h;rw[arm_eval_Dict];refine My (Q5 ?_);show OK _ _ newDict _ _ _;exact nN a s c H _ _ I λe d _=>⟨.ref _,_,d,rfl,h _ (I.hok.fresh (OG _))⟩
def xr(xs:List (et×Ou×V))(k:et)(c:Ou)(v:V):List (et×Ou×V):=if(ni xs k).isSome then xs.map (λx=>if x.1=k then(x.1,x.2.1,v)else x)else xs++[(k,c,v)]
theorem xR(h:∀x y,XY x y->XY (f x) (g y)):∀{xs:List (et×Ou×V)} {ys:List (et×Ou×Oy)},TZ XY xs ys->TZ XY (xs.map f) (ys.map g)
 |_,_,.nil=> .nil
 |_,_,.cons a t=> .cons (h _ _ a) (xR h t)
theorem AN(p:TZ XY xs ys)(r:aI v u):TZ XY (xr xs k c v) (storedH ys k c u):=by
 have f:=jh (k:=k) p;unfold xr;cases e:V0 ys k with
 |none=>
  rw[e]at f;cases q:ni xs k with
  |some w=>rw[q]at f;exact f.elim
  |none=>
   rw[storedH_new e];exact p7 ⟨rfl,rfl,r⟩ p
 |some w=>
  rw[e]at f;cases q:ni xs k with
  |none=>rw[q]at f;exact f.elim
  |some a=>
   rw[storedH_old e];refine xR (λx y h=>?_) p;unfold putAt;rw[<-h.1];by_cases z:x.1=k
   .rw[OE z,OE z];exact⟨rfl,h.2.1,r⟩
   .rw[OC z,OC z];exact h
theorem IY(xs:List (et×Ou×V))(k:et)(c:Ou)(v:V):(xr xs k c v).length<=xs.length+1:=by
 unfold xr;split
 .rw[Ol];omega
 .simp
def HJ(K:OX):V->V->V->Hp->(Hp->Prop)->Prop:=λo i v H Q=>∃a b ep xs k c,o= .ref a/\i= .ref c/\H a=on (cc a b ep xs)/\(∀x∈xs,s_ K H b x.1 x.2.1)/\s_ K H b k c/\xs.length<OV/\∀d,Q (upd H a (cc a b d (xr xs k c v)))
theorem sR(t:X.A.units+2<T7):GF X (HJ X.K):=by
 intro j s Y H o i v Z iv u Q I y B C h;obtain⟨a,b,ep,xs,k,c,rfl,rfl,l,F,J,hl,q⟩:=h;cases y;cases B;obtain⟨ys,L,p,N,f⟩:=ix I l F;refine wpAny_setItem_heap (jv t) (mD I J) L (λh' d' O=>?_) N;have m:=AN (k:=k) (c:=c) p C;obtain⟨o,es,g,r,R,T,U,g5,W⟩:=d';have d:=Py Ua (jg m);rw[Ol,Ol]at d;have:=IY xs k c v;exact⟨_,I.write (by rw[l];trivial) (.inl rfl) (λb u n e=>(O.2 b n).trans e) ⟨o,r⟩ (qu ⟨o,es,_,r,R,T,by rw[U];unfold entryOfKey;rw[qq],W,f,by omega,m⟩),q g⟩
end
end L2.Hs
namespace L2.Pu
open PySem PySem.Spec PyProof.Rows L2.Hs
def K_(ks:List et)(k:et):List et:=if k∈ks then ks else ks++[k]
def YM(ks:List et)(vs:List D)(k:et)(d:D):List D:=if k∈ks then(ks.zip vs).map (λp=>if p.1=k then d else p.2)else vs++[d]
section
variable{K:OX}{F:Fx}{H:Hp}
theorem qj:∀{xs:List (et×Ou×V)},(ni xs k).isSome=decide (k∈xs.map (·.1))
 |[]=>by simp[ni]
 |x::xs=>by
  have ih:=qj (k:=k) (xs:=xs);unfold ni at ih⊢;rw[Rr];by_cases q:x.1=k
  .rw[OO q];simp[q]
  .rw[Pp q]
   dsimp only
   rw[ih];exact decide_eq_decide.mpr (by rw[OJ,ON];exact⟨.inr,λz=>z.resolve_left λy=>q y.symm⟩)
theorem BG{xs:List (et×Ou×V)}:(xr xs k c v).map (·.1)=K_ (xs.map (·.1)) k:=by
 unfold xr K_;rw[qj];by_cases q:k∈xs.map (·.1)
 .rw[OE (OO q),OE q,OA]
  refine O5 λx _=>?_;show(if x.1=k then(x.1,x.2.1,v)else x).1=x.1;split<;>rfl
 .rw[OC (λz=>q (PU z)),OC q,Pg];rfl
theorem IZ{xs:List (et×Ou×V)}(hd:c_ K F H d v)(h:bb K F H vs (xs.map (·.2.2))):bb K F H (YM (xs.map (·.1)) vs k d) ((xr xs k c v).map (·.2.2)):=by
 unfold xr YM;rw[qj];by_cases q:k∈xs.map (·.1)
 .rw[OE (OO q),OE q]
  clear q
  induction xs generalizing vs with
  |nil=>exact bb.nil
  |cons x xs ih=>
   cases vs with
   |nil=>cases h
   |cons w vs=>
    obtain⟨u,r,e,a,b⟩:=h;rw[OJ,RB]at e;obtain⟨rfl,rfl⟩:=e;refine bb.cons (xs:=((xs.map λx=>if x.1=k then(x.1,x.2.1,v)else x).map (·.2.2))) ?_ (ih b);show c_ K F H (if x.1=k then d else w) (if x.1=k then(x.1,x.2.1,v)else x).2.2;by_cases z:x.1=k
    .rw[OE z,OE z];exact hd
    .rw[OC z,OC z];exact a
 .rw[OC (λz=>q (PU z)),OC q,Pg]
  exact bb.append h (bb.cons hd bb.nil)
theorem Ks{b:Bool}(d:∀x∈xs,eK K F H b x.1 x.2.1)(f:eK K F H b k c):∀x∈xr xs k c v,eK K F H b x.1 x.2.1:=λx a=>by
 unfold xr at a;split at a
 .obtain⟨y,e,rfl⟩:=OF.mp a
  split
  .exact d y e
  .exact d y e
 .rcases Qd.mp a with h|h
  .exact d x h
  .cases O9.mp h
   exact f
variable{X:Cx}{E:St->XK}{st:Qg}
def LN(i:Nat)(b:Bool):G:=λδ β=>on (.nx (δ.set i (on (.odc b [] []))),β)
theorem Nv{b:Bool}(h:PS X st (fj (Km b) (dE i))):PS X st (tG X.K X.H₀ (LN i b) E):=h.imp λD k H c=>by
 obtain⟨B,bg,δ,β,o,d,ok,e,q⟩:=c;cases e;intro p f;obtain⟨l,a,g⟩:=ok.newAt (i:=i) (sl:= .odc b [] []) (u:=cc p b 0 []) f (.inr ⟨_,aj⟩) λe _=>⟨p,rfl,e,0,[],aj,rfl,(λx j=>by cases j),bb.nil⟩;exact q _ _ _ g a
def sd(i:Nat)(a c:FD):G:=λδ β=>match c (jn δ) β with
 |some (.ok d,β1)=>match a (jn δ) β1 with
  |some (.ok kd,β2)=>match δ.getD i Om with
   |some (.odc b ks vs)=>match fK b kd with
    |some k=>if(noL d&&decide (ks.length<OV))=Oq then on (.nx (δ.set i (on (.odc b (K_ ks k) (YM ks vs k d)))),β2)else Om
    |none=>Om
   |_=>Om
  |_=>Om
 |some (.error C,β1)=>on (.ex C δ,β1)
 |none=>Om
theorem KE(h:PS X st (fj (tV X.K fv E) (DM (jK i) (tV X.K fk E) (HJ X.K)))):PS X st (tG X.K X.H₀ (sd i fk fv) E):=h.imp λD σ H R=>by
 obtain⟨B,bg,δ,β,o,T,ok,e,q⟩:=R;refine⟨pw B bg,jn δ,β,ok.frA,ok.viewA,?_⟩;unfold sd at e;split at e
 .rename_i d β1 p
  refine⟨.ok d,_,p,λv H1 t hd=>?_⟩;obtain⟨g,U⟩:=ok.to rfl t;split at e
  .rename_i kd β2 W
   split at e
   .rename_i b ks vs N
    split at e
    .rename_i k Y
     split at e
     .rename_i hn
      cases e;rw[Pc,Pq]at hn;obtain⟨w,r,a,rfl,hB,h2⟩:=g.tell i _ (getD_some N);refine⟨_,r,pw B bg,jn δ,β1,g.frA,g.viewA,.ok kd,_,W,λkv H2 Z y=>?_⟩;obtain⟨j,n⟩:=g.to rfl Z;obtain⟨_,l,a',e',hB',ep,xs,hD,A,O,dl⟩:=j.tell i _ (getD_some N);rw[r]at l;cases l;cases e';obtain⟨hz,rfl⟩:=j4 Y;have nk:noL (dK b k)=Oq:=by
       cases b with
       |true=>show(Oq&&(noLs (k.2.map Pu.D.int)&&Oq))=Oq;rw[iQ];rfl
       |false=>exact iQ k.2
      obtain⟨c,rfl,Q⟩:=pk hz (j.noB nk y);have I:=c_.tr n.tr _ _ (g.noB hn.1 hd);subst A;refine⟨a,b,ep,xs,k,c,rfl,rfl,hD,λx J=>(O x J).s,Q.s,by rw[<-Ol (f:=(·.1))];exact hn.2,λm=>?_⟩;obtain⟨L,s3⟩:=j.writeAt (sl:= .odc b (K_ (xs.map (·.1)) k) (YM (xs.map (·.1)) vs k d)) (u:=cc a b m (xr xs k c v)) r hB (.inr ⟨_,aj⟩) λt=>⟨a,rfl,hB,m,_,aj,BG.symm,Ks (λx J=>(O x J).tr t) (Q.tr t),IZ (c_.tr t _ _ I) (bb.tr t _ _ dl)⟩;exact q _ B _ ((U.trans n).trans s3) L
     .cases e
    .cases e
   .cases e
  .cases e
 .rename_i C β1 p
  cases e;refine⟨.error C,_,p,λH' t=>?_⟩;obtain⟨j,n⟩:=ok.to rfl t;exact q _ B H' n j
 .cases e
def BI:D->Option Int->Option Int->Option D
 | .tup xs,lo,hi=>if HT.sIx xs.length 0 lo=0/\HT.sIx xs.length xs.length hi=xs.length then Om else on (.tup (iz xs lo hi))
 |_,_,_=>Om
def DN(f:FD)(lo a:Option (FD)):FD:=λδ=>M.bind (f δ) λd=>M.bind (kh lo δ) λl=>M.bind (kh a δ) λh=>M.ofO (BI d l h)
theorem AV{X:Cx}{E:St->XK}{lo u:Option Expr}{fl y:Option (FD)}(I:PE X e (tV X.K f E))(J:qC X lo fl E)(L:qC X u y E):PE X (.Subscript e (.Slice lo u Om p2) pos) (tV X.K (DN f fl y) E):=
 (nM Kv I J L).imp λT H Q i=>lg i λF δ β fr j r=>⟨F,δ,β,fr,j,(run.bind (R:=c_ X.K F) r).mono λv U ⟨d,β1,t,hd,r1⟩=>
  ⟨F,δ,β1,t.fr,j.tr (t.tr fr),(run.bind (R:=λ_ (a b:Option Int)=>b=a) r1).mono λl W ⟨Y,β2,g,m,N⟩=>
   ⟨F,δ,β2,g.fr,j.tr ((t.tr fr).trans (g.tr t.fr)),(run.bind (R:=λ_ (a b:Option Int)=>b=a) N).mono λh Z i=>by
    obtain⟨h',β3,n,o,O⟩:=i;subst m o;obtain⟨c,e,k⟩:=run.ofO O;have q:=c_.tr ((g.tr t.fr).trans (n.tr g.fr)) _ _ hd;unfold BI at e;split at e
    .split at e
     .cases e
     .rename_i A
      cases e;obtain⟨a,xs,rfl,sq,B⟩:=c_.sqT q;rw[B.length]at A;exact⟨a,xs,rfl,sq,A,λp C=>k _ _ (n.fr.upd _ C) (c_.newT n.fr C (B.cut l h))⟩
    .cases e⟩⟩⟩
end
end L2.Pu
namespace L2.Hs
open PySem PySem.Spec PyProof.Rows
section
variable{prog:Pf}{w:Po}{A:PV}{E:Oy->OD->Prop}{s:OD}{d it:Ou}{od:Pa}{es:Array Q2}{ep i:Nat}
theorem zC(hs:(d==Tw)=Ov)(a:s.heap.get? d=on od)(c:od.cls= .type "dict")(hd:od.data= .dict es ep)
  (h:Q (.ref s.heap.objs.size) {s with heap:=s.heap.push {cls:= .type "dict_keyiterator",data:= .fields #[.ref d,.int 0 0,.int es.size 0,.int ep 0]}}):OK (O7 prog w) A (UZ (.ref d)) Q E s:=by
 have b:s.TypeIs (.ref d) "dict":=⟨od,a,c⟩;refine Tf b F.slot_dict_iter (Ph F.slot_dict_iter b F.entry_dict_iter ?_ (F.args_dict_iter_1 _));unfold Builtin.«dict.__iter__» Builtin.Dict.dictSlotNone;refine My (My (wpAny_notOrdered_dict b ?_));show OK _ _ (QU (OP d)) _ _ s;refine On ?_;show OK _ _ (SC d>>=_) _ _ s;unfold SC;rw[OC (by rw[hs];exact OH)];refine My (On (My (Ss a hd (My (SS a hd (My (Pk (On ⟨_,rfl,"dict_keyiterator",_,⟨_,OL _ rfl,rfl⟩,Ra.lookup,?_⟩))))))));simpa[R4]using h
theorem zB{e:Q2}(c:s.heap.IsKeyIter it d i es.size ep)(j:s.heap.get? d=on od)(hd:od.data= .dict es ep)(k:es[i]?=on e)
  (l:∀h',h'.IsKeyIter it d (i+1) es.size ep->Pd it s.heap h'->Q (on e.key) {s with heap:=h'}):OK (O7 prog w) A (Sd (.ref it)) Q E s:=by
 obtain⟨o,g,m,f⟩:=id c;have b:=c.typeIs;obtain⟨h,rfl⟩:=Px.mp k;unfold Sd;refine My (Sb (wpAny_callSpecial?_slot (name:=Qq "__next__") b Ra (Ph Ra b V8 ?_ (VW _))));refine My (On (My (My ?_)))
 first|refine My (R1 b (On ?_))|refine My (SO b (On ?_))
 refine My (Te g f ?_);simp only[show QP "dict_keyiterator"=Ov from by decide,OW,PF];show OK _ _ (if(OP d==Pj)=Oq then _ else _) _ _ s;rw[OC (show ¬((OP d==Pj)=Oq)from OH)];refine My (On (My (Ss j hd ?_)));rw[OC (by simp)];refine My (On (My (SS j hd ?_)));rw[OC (by simp)];refine On ?_;simp only[show ¬((i:Int)<0)from by omega,PF,P3,Se h];refine My ?_
 first|refine My (R1 b (On ?_))|refine My (SO b (On ?_))
 refine My (wpAny_isOneOf_keyiter b ?_);show OK _ _ (Vn (.ref it) 1 (R4 ((i:Int)+1))>>=_) _ _ s;refine My (RQ g f (by simp) ?_);have a:(s.heap.update it (WD (·.setIfInBounds 1 (R4 ((i:Int)+1))))).IsKeyIter it d (i+1) es.size ep:=⟨_,Rl _ g (S7 (Qp f _)),(Um ..).trans m,by rw[Qp f];simp[R4]⟩;refine My (P4 (My (wpAny_isOneOf_keyiter (s:={s with heap:=s.heap.update it (WD (·.setIfInBounds 1 (R4 ((i:Int)+1))))}) a.typeIs ?_)));show OK _ _ (QU es[i].key) _ _ _;exact On (On ⟨_,rfl,On (l _ a (Qf ..))⟩)
theorem DB(j:A.handled=Om)(e:s.heap.IsKeyIter it d i es.size ep)(f:s.heap.get? d=on od)(hd:od.data= .dict es ep)(k:es.size<=i)
  (l:∀h',US it s.heap h'->Q Om {s with heap:=h'}):OK (O7 prog w) A (Sd (.ref it)) Q E s:=by
 obtain⟨o,g,n,h⟩:=id e;have c:=e.typeIs;unfold Sd;refine My (Sb (wpAny_callSpecial?_slot (name:=Qq "__next__") c Ra (Ph Ra c V8 ?_ (VW _))));refine My (On (My (My ?_)))
 first|refine My (R1 c (On ?_))|refine My (SO c (On ?_))
 refine My (Te g h ?_);simp only[show QP "dict_keyiterator"=Ov from by decide,OW,PF];show OK _ _ (if(OP d==Pj)=Oq then _ else _) _ _ s;rw[OC (show ¬((OP d==Pj)=Oq)from OH)];refine My (On (My (Ss f hd ?_)));rw[OC (by simp)];refine My (On (My (SS f hd ?_)));rw[OC (by simp)];refine On ?_;simp only[show ¬((i:Int)<0)from by omega,PF,P3,Q9 k];refine My ?_
 first|refine My (R1 c (On ?_))|refine My (SO c (On ?_))
 show OK _ _ (Vn (.ref it) 0 .none>>=_) _ _ s;refine My (RQ g h (by simp) ?_);show OK _ _ (Wn (.type "StopIteration") []>>=_) _ _ _;refine My ?_;simp only[Wn,newTuple];refine My (Pk ?_ (by size_fits));refine My (m:=RO _ _) (R0 (a:=Pj) (by first|rfl|(simp only[RO];rfl)) ?_)
 refine Pk ?_ (by size_fits);simp only[Xc];refine My (VE ?_);rw[show A.in1.handled=Om from j];refine My (On (Wz ?_));refine My (QI (T:="StopIteration") (b:=Oq) ⟨_,OL _ rfl,rfl⟩ Vm ?_);exact On (l _ (((Qf ..).extBut.push _).push _))
def KIt(h:P5)(I d:Ou)(es:Array Q2)(ep i:Nat):Prop:=h.IsKeyIter I d i es.size ep/\∃od,h.get? d=on od/\od.data= .dict es ep
theorem xV(q:A.handled=Om)(j:I≠d):Walks prog w A I [I,d] [I] es.size (λi v=>∃e,es[i]?=on e/\v=e.key) (λi h=>KIt h I d es ep i) where
 sub:=λb a=>by simp at a;simp[a]
 frame:=λ_ _ _ st m=>by
  obtain⟨⟨o,r,t⟩,od,c,f⟩:=st;exact⟨⟨o,m I (by simp) o r,t⟩,od,m d (by simp) od c,f⟩
 item:=λi s Q E u st g=>by
  obtain⟨st,od,c,f⟩:=st;have n:es[i]?=on es[i]:=getElem?_pos es i u;exact zB st c f n λh' k p=>g _ h' s.toks ⟨_,n,rfl⟩ ⟨k,od,p.extBut d od (Ne.symm j) c,f⟩ λb o a e=>p.extBut b o (λz=>a (by simp[z])) e
 done:=λs Q E st g=>by
  obtain⟨st,od,c,f⟩:=st;exact DB q st c f (OG _) λh' l=>g h' s.toks λb o a e=>l b o (λz=>a (by simp[z])) e
 self:=λ_ _ _ _ st g=>wpAny_pyIter_keyiter st.1 g
end
end L2.Hs
namespace L2.Hs
open PySem PySem.SetTable PyProof.Rows
section
variable{prog:Pf}{w:Po}{A:PV}{E:Oy->OD->Prop}{s:OD}
theorem uJ{o:Pa}{es:Array Q2}(hh:A.handled=Om)(hs:(a==Tw)=Ov)(O:s.heap.get? a=on o)(y:o.cls= .type "dict")(hd:o.data= .dict es ep)
  (hsz:es.size<=1000)
  (hQ:∀h' R vs,(∀b o,s.heap.get? b=on o->h'.get? b=on o)->s.heap.objs.size<=h'.objs.size->s.toks<=R->vs=es.toList.map (·.key)->Q vs {s with heap:=h',toks:=R}):OK (O7 prog w) A (collect (.ref a)) Q E s:=by
 unfold collect;refine My (Xf (T3 XQ ?_));rw[S3 XR _];show OK _ A.in1 (newList []>>=λl=>VC (.builtin "list.__iadd__" ⟨[l,.ref a],[]⟩)) _ _ s;refine My (Pk ?_);refine On ⟨VD Uu _,T3 F.entry_list_iadd ?_⟩;rw[S3 Uu _];have ha:=O1 O;have h:(s.heap.push {cls:= .type "list",data:= .seq ([]:List Oy).toArray}).get? a=on o:=Oo _ O;have B:(s.heap.push {cls:= .type "list",data:= .seq ([]:List Oy).toArray}).get? s.heap.objs.size=on {cls:= .type "list",data:= .seq ([]:List Oy).toArray}:=OL _ rfl;have r:s.heap.objs.size≠a:=Rf ha;have v:R6 (.ref s.heap.objs.size) (.ref a)=Ov:=by simp[R6,r]
 have C:(⟨s.heap.push {cls:= .type "list",data:= .seq ([]:List Oy).toArray},s.gens,s.drawn,s.toks,s.os⟩:OD).TypeIs (.ref a) "dict":=⟨o,h,y⟩;show OK _ A.in1 (RA (.ref s.heap.objs.size) (.ref a) (.ref s.heap.objs.size)) _ _ _;unfold RA;refine My (U4 C ?_);rw[OC (by rw[v];decide)];refine My (zC hs h y hd ?_);refine My (P4 ?_);unfold U8;have n:(⟨(s.heap.push {cls:= .type "list",data:= .seq ([]:List Oy).toArray}).push {cls:= .type "dict_keyiterator",data:= .fields #[.ref a,.int 0 0,.int es.size 0,.int ep 0]},s.gens,s.drawn,s.toks,s.os⟩:OD).TypeIs (.ref a) "dict":=⟨o,Oo _ h,y⟩;refine My (Rg n F.slot_dict_len.lookup ?_)
 (generalize t:("dict.__len__":String)=id0;wp_delta;rw[show splitId id0=on ("dict","__len__")from by subst t;decide +kernel];subst t)
 refine My (QI (b:=Oq) n (by rw[Td];kernel_rfl) ?_);rw[OC (by decide)];show OK _ _ (if _ then _ else _) _ _ _;rw[OE (by decide)];refine My (U4 n ?_);refine On ?_;rw[OE (by decide)];refine My (R5 ?_);have T:(s.heap.push {cls:= .type "list",data:= .seq ([]:List Oy).toArray}).objs.size=s.heap.objs.size+1:=by rw[size_push']
 generalize j:(s.heap.push {cls:= .type "list",data:= .seq ([]:List Oy).toArray}).push {cls:= .type "dict_keyiterator",data:= .fields #[.ref a,.int 0 0,.int es.size 0,.int ep 0]}=f;have U:f.get? s.heap.objs.size=on (Q8 "list" #[] 0):=by rw[<-j];exact Oo _ B
 have gI:f.get? (s.heap.objs.size+1)=on {cls:= .type "dict_keyiterator",data:= .fields #[.ref a,.int 0 0,.int es.size 0,.int ep 0]}:=by rw[<-j,<-T];exact OL _ rfl
 have ga:f.get? a=on o:=by rw[<-j];exact Oo _ h
 have p:∀b g,s.heap.get? b=on g->f.get? b=on g:=λb g e=>by rw[<-j];exact Oo _ (Oo _ e)
 unfold Vz;refine My (My (SN U rfl ?_ (by show 0<=_;omega) (by show 1<=_;omega)));obtain⟨X,Y⟩:∃X,(f.update s.heap.objs.size (P6 λxs=>xs.push Pj)).get? s.heap.objs.size=on (Q8 "list" #[Pj] X):=⟨_,get?_update_seq U λxs=>xs.push Pj⟩;refine SN Y rfl ?_ (by show 1<=OV;decide) (by show 0<=_;omega);obtain⟨H,Z⟩:∃H,((f.update s.heap.objs.size (P6 λxs=>xs.push Pj)).update s.heap.objs.size (P6 λxs=>xs.pop)).get? s.heap.objs.size=on (Q8 "list" #[] H):=⟨_,get?_update_seq Y λxs=>xs.pop⟩;have c:∀b g,b≠s.heap.objs.size->f.get? b=on g->((f.update s.heap.objs.size (P6 λxs=>xs.push Pj)).update s.heap.objs.size (P6 λxs=>xs.pop)).get? b=on g:=λb g q e=>by
  rw[QK _ _ _ _ q,QK _ _ _ _ q];exact e
 generalize (f.update s.heap.objs.size (P6 λxs=>xs.push Pj)).update s.heap.objs.size (P6 λxs=>xs.pop)=h4 at Z c;have J:s.heap.objs.size+1≠a:=Rf (R7 ha);have st:KIt h4 (s.heap.objs.size+1) a es ep 0:=⟨⟨_,c _ _ (by omega) gI,rfl,rfl⟩,o,c a o (Ne.symm r) ga,hd⟩;have W:=xV (prog:=prog) (w:=w) (A:=A.in1) (I:=s.heap.objs.size+1) (d:=a) (es:=es) (ep:=ep) hh J;show OK _ _ (VC _) _ _ _;rw[T];refine On ⟨VD F.plain_extend_loop _,codeAny_extend_loopS W.toS (by rw[Qr];omega) s.heap.objs.size (by simp;omega) _ es.size 0 _ #[] H rfl (PX _) st Z (ItemsOf.nil _) λs' k c' hm u m=>?_⟩;show OK _ A (load s.heap.objs.size>>=_) _ _ s';refine My (wpAny_load u ?_);refine On ?_;have L:s'={s with heap:=s'.heap,toks:=s'.toks}:=by
  have v:=hm.gens;have f:=hm.drawn;have h3:=hm.os;obtain⟨a1,a2,a3,a4,a5⟩:=s';simp only at v f h3;subst v f h3;rfl
 rw[L];refine hQ _ _ _ (λb g e=>?_) (TF (O1 u)) hm.toks ?_
 .have q:=O1 e
  exact hm.heap b g (by simp only[ON,Qe,SG,Yq];exact⟨Ps q,Ps (R7 q)⟩) (c b g (Ps q) (p b g e))
 .refine QG (by rw[Pe,Ol,Pe,m.1]) λi q1 q2=>?_
  have N:i<k.size:=by simpa using q1
  obtain⟨e,he,hv⟩:=m.2 i _ (getElem?_pos k i N);rw[Rq,hv,Rh,Rq];obtain⟨z1,z2⟩:=Px.mp he;rw[z2]
theorem uR{o:Pa}{es:Array Q2}{xs:List (List Int×Ou)}(v:A.handled=Om)(hs:(a==Tw)=Ov)(y:s.heap.get? a=on o)(B:o.cls= .type "dict")(hd:o.data= .dict es ep)(t:es.toList.map (·.key)=xs.map λk=>OP k.2)(q:(xs.map (·.1)).Nodup)(C:∀x∈xs,(jm prog w).is s.heap x.1 x.2)(F:∀x∈xs,1<=x.1.length)(H:xs.length<64)
  (h:∀(l:Ou) (h':P5) (g r:Nat) (i:List (List Int×Ou)),i.Perm xs->Up (i.map (·.1))->h'.get? l=on (Q8 "list" (i.map λk=>OP k.2).toArray r)->s.heap.objs.size<=l->(∀b o,s.heap.get? b=on o->h'.get? b=on o)->s.toks<=g->Q (.ref l) {s with heap:=h',toks:=g}):
  OK (O7 prog w) A (VI (.builtin "sorted") [.ref a]) Q E s:=by
 have I:es.size=xs.length:=by rw[<-Pe,<-Ol (f:=λe:Q2=>e.key),t,Ol]
 refine V7 kind_sorted plain_sorted entry_sorted (args_sorted1 _) ?_;unfold Builtin.«sorted»;refine My (m:=checkCount "sorted" 1 1 _) (On ?_);refine My (uJ v hs y B hd (by omega) λj g vs keep n htk pv=>?_);rw[t]at pv;subst pv;refine My (XM ?_ (by rw[Ol,Qr];omega));have c:∀b d,s.heap.get? b=on d->(j.push (Q8 "list" (xs.map λk=>OP k.2).toArray 0)).get? b=on d:=λb d e=>Oo _ (keep b d e);have p:(j.push (Q8 "list" (xs.map λk=>OP k.2).toArray 0)).get? j.objs.size=on (Q8 "list" (xs.map λk=>OP k.2).toArray 0):=OL _ rfl;show OK _ _ _ _ _ {s with heap:=j.push (Q8 "list" (xs.map λk=>OP k.2).toArray 0),toks:=g};refine My (P4 (Ph slot_list_sort ⟨_,p,rfl⟩ entry_list_sort (qK p (λk u=>⟨?_,F k u⟩) q (by omega) λh' i r q1 q2 q3 q4=>⟨_,rfl,?_⟩) (args_list_sort _)))
 .obtain⟨J,its,m,L,N,O,R⟩:=C k u
  exact⟨J,its,m,c _ _ L,N,O,R⟩
 .refine On ⟨_,rfl,h j.objs.size h' g r i q1 q2 q3 n (λb d e=>q4 b d (λz=>?_) (c b d e)) htk⟩
  have:=O1 e;exact O4 (z▸this) (Nat.not_lt.mpr n)
variable{X:Cx}
abbrev kA(y:et×Ou×V):List Int×Ou:=(y.1.2,y.2.1)
def tH(K:OX):List V->Hp->VK->Prop:=λxs H Q=>∃a ep ys,xs=[.ref a]/\H a=on (cc a Ov ep ys)/\(∀x∈ys,s_ K H Ov x.1 x.2.1/\1<=x.1.2.length)/\ys.length<64/\
 ∀(l:Ou) (b:List (List Int×Ou)),H l=Om->b.Perm (ys.map kA)->Up (b.map (·.1))->Q (.ref l) (upd H l (.lst (b.map λz=>V.ref z.2)))
theorem GJ:∀{xs:List (et×Ou×V)} {ys:List (et×Ou×Oy)},TZ XY xs ys->xs.map kA=ys.map λy=>(y.1.2,y.2.1)
 |_,_,.nil=>rfl
 |_,_,.cons h t=>by
  rw[OJ,OJ,GJ t];unfold kA;rw[h.1,h.2.1]
theorem zc:∀{l:List et},l.Nodup->(∀x∈l,x.1=0)->(l.map (·.2)).Nodup
 |[],_,_=>Wa
 |x::l,nd,h=>by
  rw[Pw]at nd;rw[OJ,Pw];refine⟨λm=>?_,zc nd.2 λy a=>h y (Ot _ a)⟩;obtain⟨y,a,e⟩:=OF.mp m;have:y=x:=RW ((h y (Ot _ a)).trans (h x Oz).symm) e;exact nd.1 (this▸a)
theorem lM(m:X.calm=Oq):cP X (.builtin "sorted") (tH X.K):=by
 intro g s Y H xs us Q I r h;obtain⟨a,ep,ys,rfl,ha,e,hn,q⟩:=h;obtain⟨u,rfl,n⟩:=iF r;cases n;obtain⟨t,⟨o,es,v,B,C,F,J,Z,L⟩,p,hz,f⟩:=ix I ha λx h=>(e x h).1;have i:=GJ p;have N:=jg p;have O:∀x∈t.map (·.1),x.1=0:=λx b=>by
  rw[<-N]at b;obtain⟨y,d,rfl⟩:=OF.mp b;exact(e y d).1.1
 refine uR (xs:=ys.map kA) (I.ok.hd m) f B C.1 F ?_ ?_ ?_ ?_ (by rw[Ol];exact hn) λl h' R T c j U W hs keep ht=>?_
 .rw[J,i,OA,OA];rfl
 .have:=zc L O
  rw[OA]at this;rw[i,OA];exact this
 .intro x b
  obtain⟨y,d,rfl⟩:=OF.mp b;exact j5 I (e y d).1.2
 .intro x b
  obtain⟨y,d,rfl⟩:=OF.mp b;exact(e y d).2
 .refine⟨.ref l,_,I.laid (t':=R) (o:= .lst (c.map λz=>V.ref z.2)) keep hs ⟨?_,c.map λk=>OP k.2,T,?_,W⟩,rfl,q l c (I.hok.fresh hs) j U⟩
  .rw[Ol,j.length_eq,Ol,Qr];omega
  .exact kE c
end
end L2.Hs
namespace L2.Pu
open PySem PySem.Spec PyProof.Rows L2.Hs
def sN:List D->Option D
 |[.dct Ov ks _]=>if ks.length<64 then fq (ks.map λk=>lk k.2)else Om
 |_=>Om
theorem zx{K:OX}:dF K (tH K) sN:=λF H β Q ds d vs fr h e k=>by
 unfold sN at e;split at e
 .rename_i ks A
  obtain⟨v,rfl,i⟩:=bb.one h;unfold c_ at i;obtain⟨a,ep,xs,rfl,n,rfl,j,B⟩:=i;split at e
  .rename_i hn
   rw[Ol]at hn;obtain⟨m,s,rfl⟩:=iG e;have hm:∀x∈xs,x.1.2∈m:=λx b=>by
    obtain⟨l,c,e⟩:=s.2.2.2 (lk x.1.2) (OF.mpr ⟨x.1,OF.mpr ⟨x,b,rfl⟩,rfl⟩);rw[d7 e];exact c
   refine⟨a,ep,xs,rfl,n.2,λx b=>⟨(j x b).s,(s.2.2.1 _ (hm x b)).1⟩,hn,λl o c f p=>?_⟩;have r:m=o.map (·.1):=rG s.1 p λy=>by
    refine⟨λg=>?_,λg=>?_⟩
    .obtain⟨q,t,e⟩:=OF.mp (s.2.2.1 y g).2
     obtain⟨x,b,rfl⟩:=OF.mp t;refine(f.map (·.1)).mem_iff.mpr ?_;rw[OA];exact OF.mpr ⟨x,b,d7 e⟩
    .have:=(f.map (·.1)).mem_iff.mp g
     rw[OA]at this;obtain⟨x,b,rfl⟩:=OF.mp this;exact hm x b
   rw[r]at k;refine k _ _ (fr.upd _ c) (c_.newL fr c (lJ λz u=>?_));obtain⟨x,b,rfl⟩:=OF.mp (f.mem_iff.mp u);exact HP (j x b)
  .cases e
 .cases e
end L2.Pu
namespace L2.Pu
open PySem PySem.Spec PyProof.Rows
def lC:D->D->Option D
 |x,.lst ys=>match vr x,toPs ys with
  |some p,on ps=>if(RY ps&&p.canLay0&&decide (p.depth<=9))=Oq then on (.bl (ps.any λy=>RF y p))else Om
  |_,_=>Om
 |_,_=>Om
def KR(X:Cx):R2:=λx y H Q=>∃(F:Fx) (a b:D) (c:Bool),c_ X.K F H a x/\c_ X.K F H b y/\lC a b=on (.bl c)/\Q (.bl c) H
section
variable{X:Cx}
theorem ut(h:lC a b=on d):∃ys p ps,b= .lst ys/\vr a=on p/\toPs ys=on ps/\RY ps=Oq/\p.canLay0=Oq/\p.depth<=9/\d= .bl (ps.any λy=>RF y p):=by
 unfold lC at h;split at h
 .split at h
  .rename_i p ps c e
   split at h
   .rename_i q
    rw[Pc,Pc]at q;cases h;exact⟨_,p,ps,rfl,c,e,q.1.1,q.1.2,PU q.2,rfl⟩
   .cases h
  .cases h
 .cases h
theorem yV(f:eg k X.A):gs X (P7 .In) (KR X):=by
 intro d s o H x y v u Q I g i h;obtain⟨F,a,b,c,d1,d2,e,q⟩:=h;obtain⟨ys,p,ps,rfl,j,l,c1,c2,c3,m⟩:=ut e;cases m;obtain⟨as,r1⟩:=fV I a x v p d1 j g;obtain⟨bs,n⟩:=fV I (.lst ys) y u (.list ps) d2 (by unfold vr;rw[l];rfl) i;exact SeqAt.in_list_reads n r1 c1 c2 (by have:=f.units;have:=VH (Ti ps) p.depth;omega) ⟨.bl _,H,I,rfl,q⟩
theorem HY:aX X.K (KR X) lC:=λF H β Q d1 d2 d c f fr a b e k=>by
 obtain⟨_,_,_,_,_,_,_,_,_,rfl⟩:=ut e;exact⟨F,d1,d2,_,a,b,e,k _ H (To.refl fr) rfl⟩
variable{P:Pf}{w:Po}{K:OX}{mg:Pn->Option Oy}{base:P5}
theorem LO{st:Qg}{N ps:List Pn}(n m:Nat)(g:FL)(F:d4 K x qual st f fd)(S:cp N ps (af st))(R:ps.length=n)(T:N.length=m)
  (u:∀(j:Oy) (A:PV) (outer:List VN) (s:OD) (H:Hp) (E:XK),eg k (A.deeper (SW qual (af st) s.heap.objs.size f j))->
   PSs (eJ (hE P w) P w K mg base N qual (af st) f j A outer s H E) (bZ st) (np (w_ K g (λ_=>E)))):e_ P w K mg base (hE P w) (k+1) f fd ps (Y5 K (cy K) n λds=>g (vw (m_ m ds))):=by
 subst R T;refine F.okE S (λvs H Q E h=>h.1) λj A outer s H vs Q E Z h=>?_;obtain⟨hl,p,ds,β,fr,hd,r,y,e,h⟩:=h;refine⟨_,u j A outer s H E Z,?_⟩;obtain⟨B,ok,U,h1,hn⟩:=oF (N:=N) fr hd;have J:∀{L:Ow} {i:Hp},hU B H L i->Fr (en L p.bg) i y->To p H i y/\∀a,p.A a->L a≠Om:=λ{L i} s O=>by
  have hs:∀a,p.A a->L a≠Om:=λa ha=>by
   rw[s.tg a (U a ha)];rcases U a ha with z|z<;>rw[z]<;>simp
  refine⟨⟨λa o ha n=>s.kp a o ha ?_,λa ha=>O.occ a (hs a ha),λb l e=>fr.bgA b l e,O.bag⟩,hs⟩;cases q:B a with
  |none=>exact .inl rfl
  |some t=>
   have:=U a (hn a (by rw[q];simp));rcases this with z|z
   .rw[q]at z;exact .inr z
   .obtain⟨b,l,e,w⟩:=h1 a z
    obtain⟨W,n2⟩:=n b l e;rcases w with w|w
    .exact O4 w W
    .exact O4 w n2
 refine⟨en B p.bg,vw (m_ N.length ds),β,ok.fr,ok.view,r,y,e,?_⟩;cases r with
 |ok d=>
  intro v i t hv;obtain⟨I,Y⟩:=ok.to (F:=en B p.bg) rfl t;obtain⟨t1,hs⟩:=J Y I.fr;obtain⟨a,xs,rfl,n0,W,dl⟩:=hv;have tr:Tr ((en B p.bg).but a) i (p.but a) i:=⟨λc hc _ z=>hc (Or.imp (hs c) id z),λ_ _ _ h=>h,rfl⟩;exact h _ i t1 ⟨a,xs,rfl,n0,W,bb.tr tr _ _ dl⟩
 |error C=>
  intro i t;obtain⟨I,Y⟩:=ok.to (F:=en B p.bg) rfl t;exact h i (J Y I.fr).1
variable{E:St->XK}{o e c:Expr}{es:List Expr}{pos apos:TK}{m:Pn}{k n:Nat}{f C:Ou}{fd:O8}{ps:List Pn}{a sts:List Qg}{t:Dn->M Bool}{g h:FL}
theorem cy.pre{K:OX}(t:To F H H1 β1)(h:cy K F H1 H' ds v):cy K F H H' ds v:=by
 obtain⟨a,xs,b,d,r⟩:=h;exact⟨a,xs,b,t.none d,r⟩
def DP(t:Dn->M Bool)(g h:FL):FL:=λδ=>M.bind (t δ) λc=>if c=Oq then g δ else h δ
theorem Nr(q:PT X c (g8 X.K t E))(ha:PSs X a (np (w_ X.K g E)))(u:PSs X sts (np (w_ X.K h E))):PSs X (.If c a [] pos::sts) (np (w_ X.K (DP t g h) E)):=
 (cr (wO q ha mq) u).imp λD y H j=>lg j λF δ β fr l r=>⟨F,δ,β,fr,l,(run.bind (R:=λ_ (a b:Bool)=>b=a) r).mono λv p j=>by
  obtain⟨d,β1,t,hd,r0,β2,e,r1⟩:=j;subst hd;have i:run (cy X.K F p) F E y (if v=Oq then _ else _) p _ β1:=⟨r0,β2,e,by
   cases r0 with
   |error C=>exact r1
   |ok d=>exact λv A B I=>r1 v A B (I.pre t)⟩
  cases v with
  |true=>rw[OE rfl]at i⊢;exact⟨F,δ,β1,t.fr,l.tr (t.tr fr),i⟩
  |false=>rw[OC OH]at i⊢;exact⟨F,δ,β1,t.fr,l.tr (t.tr fr),i⟩⟩
theorem y0{g:FL}{d:List D}(c:q9 X.K C)(hm:o_ X.K C m f)(G:e_ X.prog X.w X.K X.mg X.base (hE X.prog X.w) k f fd ps (Y5 X.K (cy X.K) n mf))(p:eg k X.A)(q:dG X.K fd ps d)(u:cM (hE X.prog X.w) X E)
  (v:PE X o (tV X.K fo E)) (ha:PA X (e::es) (js X.K g E)) (hn:∀δ β r l,g δ β=on (.ok r,l)->r.length+d.length+1=n)
  (i:OM (e::es) X.env=(Ov,P0 e X.env)::OM es X.env:=by rfl) (j:(Q0 pos (OM es X.env)).any (·.1)=Ov:=by rfl)
  (y:P0 (.Call (.Attribute o m apos) (e::es) [] pos) X.env=(do
   let ov <-P0 o X.env
   Sm apos.atName
   let (f,first) <-SR [ov] (UO ov m pl)
   W4 pos f first (Q0 pos (OM (e::es) X.env)) (RN pos (QH [] X.env))):=by rfl):
  PE X (.Call (.Attribute o m apos) (e::es) [] pos) (w_ X.K (mM C m mf fo g d) E):=by
 obtain⟨ds,B,b,F,rd⟩:=q;exact(vy (pl:=pl) v c hm G p b F u ha i j y).imp λI H Q h=>nP cy.pre rd hn h
def DO(g:FL):FD:=λδ=>M.bind (g δ) λds=>M.ret (.lst ds)
theorem Ng(h:PE X e (w_ X.K g E)):PE X e (tV X.K (DO g) E):=h.imp λq H Q b=>lg b λF δ β fr d r=>⟨F,δ,β,fr,d,(run.bind (R:=cy X.K F H) r).mono λv u b=>oa b λds β1 t i r1=>by
 obtain⟨a,xs,rfl,j,l,p⟩:=i;exact run.ret t.fr r1 ⟨a,xs,rfl,⟨λz=>fr.occ a z j,.inl l⟩,bb.tr Fx.tr_of _ _ p⟩⟩
theorem GL{c:Bool}(b:t δ β=on (.ok c,β1))(d:(if c=Oq then g δ else h δ) β1=on r):DP t g h δ β=on r:=by
 unfold DP;rw[M.bind_ok b];exact d
theorem DV(e:ci nv c4 it tg tt b δ β=on (.ok (.lst ds),β1)):eS nv c4 it tg tt b δ β=on (.ok ds,β1):=by
 unfold ci at e;unfold eS;split at e
 .cases e
 .cases e
 .rename_i d
  split at e
  .rename_i i
   split at e
   .rename_i q
    cases e;simp only[d,i,OE q]
   .cases e
  all_goals cases e
theorem M5(e:g δ β=on (.ok ds,β1)):DO g δ β=on (.ok (.lst ds),β1):=by
 unfold DO;rw[M.bind_ok e];rfl
def LF(i j:Nat):Ds->M (List D):=λδ=>match δ.getD i Om,δ.getD j Om with
 |some (.own ds),on (.sh d)=>M.ofO ((ko (.lst ds) d).bind cY)
 |_,_=>M.fail
theorem KD{g:G}(l:kr X.K tgg tg)(h:PS X (.For tgt iter body [] pos) (wy (LE X.K (S_ (tJ X.K) (jK i) (jK j))) tgg (tG X.K X.H₀ g E))):PS X (.For tgt iter body [] pos) (tG X.K X.H₀ (mJ (LF i j) tg g) E):=yw (λ{B bg H δ β N R} ok r=>by
 unfold LF at r;split at r
 .rename_i ds d b p
  obtain⟨es,e,k⟩:=run.ofO r;obtain⟨v,u,a,ys,rfl,_,y,A⟩:=ok.tell i _ (getD_some b);obtain⟨w,F,I⟩:=ok.tell j _ (getD_some p);cases d<;>first|cases e|skip
  rename_i n;cases(show c_ X.K (en B bg) H (.int n) w from I).int;cases q:ot ds n with
  |none=>rw[show ko (.lst ds) (.int n)=ot ds n from rfl,q]at e;cases e
  |some c=>
   rw[show ko (.lst ds) (.int n)=ot ds n from rfl,q]at e;obtain⟨v,J,hd⟩:=uN A q;refine⟨_,u,_,F,a,ys,n,v,rfl,rfl,fx.of y,J,?_⟩;cases c<;>first
    |(cases e;obtain⟨a,xs,rfl,sq,L⟩:=c_.sqL hd;exact .inl ⟨a,rfl,⟨xs,sq⟩,k _ H (To.refl ok.fr) (uo hd)⟩)
    |(cases e;obtain⟨a,xs,rfl,sq,L⟩:=c_.sqT hd;exact .inr ⟨a,rfl,⟨xs,sq⟩,k _ H (To.refl ok.fr) (vO hd)⟩)
    |cases e
 .obtain⟨_,_,e,_⟩:=r
  cases e) l h
end
end L2.Pu
namespace L2.Pu
open PySem L2.Hs
def j6(k:List Int):LI->LI
 |[]=>[k]
 |x::l=>if cL k x=Oq then k::x::l else if k=x then x::l else x::j6 k l
theorem l9:∀{l:LI},y∈j6 k l↔y=k\/y∈l
 |[]=>by simp[j6]
 |x::l=>by
  unfold j6;split
  .simp
  .split
   .rename_i h
    subst h;simp
   .rw[ON,l9,ON]
    exact or_left_comm
theorem vQ:∀{l:LI},Up l->Up (j6 k l)
 |[],_=>by unfold j6;exact SK _ _
 |x::l,h=>by
  obtain⟨a,b⟩:=SH.mp h;unfold j6;split
  .rename_i q
   refine SH.mpr ⟨λy hy=>?_,h⟩;rcases ON.mp hy with rfl|hy
   .exact q
   .exact pf q (a y hy)
  .split
   .exact h
   .rename_i q1 q2
    refine SH.mpr ⟨λy hy=>?_,vQ b⟩;rcases l9.mp hy with rfl|hy
    .cases q:cL x y with
     |true=>rfl
     |false=>exact O4 (mB (by simpa using q1) q) q2
    .exact a y hy
def kK(ks:LI):LI:=ks.foldr j6 []
theorem me:∀ks,Up (kK ks)
 |[]=> .nil
 |k::ks=>vQ (me ks)
theorem dQ:∀{ks:LI},y∈kK ks↔y∈ks
 |[]=>by simp[kK]
 |k::ks=>by
  show y∈j6 k (kK ks)↔_;rw[l9,dQ,ON]
theorem GV{l:LI}(h:Up l):l.Nodup:=h.imp λ{a b} q e=>by
 subst e;rw[gY]at q;cases q
theorem Kt{ks:LI}(b:∀k∈ks,1<=k.length){m:LI}(hm:m.length<63)(c:∀k∈ks,k∈m):fq (ks.map lk)=on (.lst ((kK ks).map lk)):=by
 refine sO ⟨me ks,Qo (nd_len (GV (me ks)) λx e=>c x (dQ.mp e)) hm,λk a=>⟨b k (dQ.mp a),OF.mpr ⟨k,dQ.mp a,rfl⟩⟩,λd hd=>?_⟩;obtain⟨k,a,rfl⟩:=OF.mp hd;exact⟨k,dQ.mpr a,rfl⟩
end L2.Pu
namespace L2.Nt
noncomputable def sm{α:Type}(l:List α)(f:α->Nat):Nat:=(l.map f).sum
section
variable{α β:Type}
theorem yk{f:α->Nat}:sm [] f=0:=rfl
theorem bK{a:α}{l:List α}{f:α->Nat}:sm (a::l) f=f a+sm l f:=by unfold sm;rw[OJ,O6]
theorem sP{l m:List α}{f:α->Nat}:sm (l++m) f=sm l f+sm m f:=by unfold sm;rw[Pg,VS]
theorem c5:∀{l:List α},(∀a∈l,f a=g a)->sm l f=sm l g
 |[],_=>rfl
 |a::l,h=>by rw[bK,bK,h a Oz,c5 λb c=>h b (Ot a c)]
theorem oH{g:β->α}{f:α->Nat}{l:List β}:sm (l.map g) f=sm l λb=>f (g b):=by unfold sm;rw[OA];rfl
theorem mj{g:β->List α}{f:α->Nat}:∀{l:List β},sm (l.flatMap g) f=sm l λb=>sm (g b) f
 |[]=>rfl
 |b::l=>by rw[PM,sP,bK,mj]
theorem u7:∀{l:List α},(sm l λ_=>0)=0
 |[]=>rfl
 |a::l=>by rw[bK,u7]
theorem ym:∀{l:List α},(sm l λa=>f a+g a)=sm l f+sm l g
 |[]=>rfl
 |a::l=>by rw[bK,bK,bK,ym];omega
theorem kM:∀{l:List α},(sm l λa=>c*f a)=c*sm l f
 |[]=>rfl
 |a::l=>by rw[bK,bK,kM,Nat.mul_add]
theorem HB:∀{n:Nat},m<=n->sm (OB (m+1)) f=sm (OB (n+1)) λa=>if a<=m then f a else 0
 |0,h=>by
  obtain rfl:m=0:=by omega
  exact c5 λa ha=>by
   have:=OY.mp ha;rw[OE (by omega)]
 |n+1,h=>by
  rcases Vx m (n+1)with q|q
  .rw[Rt (n:=n+1),sP,<-HB (by omega:m<=n),bK,yk,OC (by omega)]
   omega
  .obtain rfl:m=n+1:=by omega
   exact c5 λa ha=>by
    have:=OY.mp ha;rw[OE (by omega)]
noncomputable def cf:List Nat->Nat->List (List Nat)
 |[],0=>[[]]
 |[],_+1=>[]
 |x::r,c=>(OB (RP x c+1)).flatMap λa=>(cf r (c-a)).map (a::·)
noncomputable def less(r v:List Nat):List Nat:=TC (·-·) r v
theorem xW:sm (cf (x::r) c) f=sm (OB (RP x c+1)) λa=>sm (cf r (c-a)) λv=>f (a::v):=by
 show sm ((OB (RP x c+1)).flatMap λa=>(cf r (c-a)).map (a::·)) f=_;rw[mj];exact c5 λa _=>oH
end
end L2.Nt
namespace L2.Nt
open L2.Pu
noncomputable def ch:Nat->Nat->Nat
 |_,0=>1
 |0,_+1=>0
 |n+1,k+1=>ch n k+ch n (k+1)
theorem pR:∀{n k:Nat},n<k->ch n k=0
 |0,k+1,_=>by simp[ch]
 |n+1,k+1,h=>by
  show ch n k+ch n (k+1)=0;rw[pR (by omega),pR (by omega)]
theorem qz(n:Nat):ch n 0=1:=by cases n<;>rfl
theorem wb:∀n,ch n n=1
 |0=>rfl
 |n+1=>by
  show ch n n+ch n (n+1)=1;rw[wb n,pR (by omega)]
theorem xB(n:Nat):dv (n+1)=(n+1)*dv n:=RM (dv n) (n+1)
theorem lL:∀n a b:Nat,a+b=n->ch (a+b) a*(dv a*dv b)=dv (a+b)
 |n,0,b,_=>by rw[qz];simp[dv]
 |n,a+1,0,_=>by rw[Nat.add_zero,wb];simp[dv]
 |0,a+1,b+1,h=>by omega
 |n+1,a+1,b+1,h=>by
  have c:=lL n a (b+1) (by omega);have d:=lL n (a+1) b (by omega);have e:a+1+(b+1)=(a+b+1)+1:=by omega
  have f:a+(b+1)=a+b+1:=by omega
  have g:a+1+b=a+b+1:=by omega
  rw[f]at c;rw[g]at d;rw[e];show(ch (a+b+1) a+ch (a+b+1) (a+1))*(dv (a+1)*dv (b+1))=dv (a+b+1+1);rw[xB (a+b+1),Xy];have i:ch (a+b+1) a*(dv (a+1)*dv (b+1))=(a+1)*dv (a+b+1):=by
   rw[<-c,xB a];simp only[Th,SV,RM]
  have j:ch (a+b+1) (a+1)*(dv (a+1)*dv (b+1))=(b+1)*dv (a+b+1):=by
   rw[<-d,xB b];simp only[Th,SV,RM]
  rw[i,j,<-Xy,show a+1+(b+1)=a+b+1+1 by omega]
theorem mh:sm (OB (n+1)) f=f 0+sm (OB n) λa=>f (a+1):=by
 rw[WP,bK,oH]
theorem AS:∀(x y c:Nat),(sm (OB (c+1)) λa=>ch x a*ch y (c-a))=ch (x+y) c
 |0,y,c=>by
  rw[mh,qz,Nat.one_mul,WX,QN];have:(sm (OB c) λa=>ch 0 (a+1)*ch y (c-(a+1)))=0:=(c5 λa _=>by rw[pR (by omega),WY]).trans u7;rw[this];rfl
 |x+1,y,0=>by rw[mh];simp[qz,yk]
 |x+1,y,c+1=>by
  have b:=AS x y (c+1);have d:=AS x y c;rw[mh]at b;rw[mh];have e:(sm (OB (c+1)) λa=>ch (x+1) (a+1)*ch y (c+1-(a+1)))=(sm (OB (c+1)) λa=>ch x a*ch y (c-a))+sm (OB (c+1)) λa=>ch x (a+1)*ch y (c+1-(a+1)):=by
   rw[<-ym];refine c5 λa _=>?_;show(ch x a+ch x (a+1))*_=_;rw[Xy,Nat.add_sub_add_right]
  rw[e,d];have f:x+1+y=x+y+1:=by omega
  rw[f];show _=ch (x+y) c+ch (x+y) (c+1);rw[<-b,qz,qz];omega
theorem vdm(x y c:Nat):(sm (OB (RP x c+1)) λa=>ch x a*ch y (c-a))=ch (x+y) c:=by
 rw[HB (VH x c),<-AS];refine c5 λa ha=>?_;have:=OY.mp ha;by_cases q:a<=x
 .rw[OE (by omega)]
 .rw[OC (by omega),pR (by omega),WY]
def pc:List Nat->List Nat->Nat
 |x::r,a::v=>ch x a*pc r v
 |_,_=>1
theorem yT:∀(r:List Nat) (c:Nat),sm (cf r c) (pc r)=ch r.sum c
 |[],0=>rfl
 |[],c+1=>rfl
 |x::r,c=>by
  rw[xW,O6,<-vdm];exact c5 λa _=>by rw[<-yT r (c-a),<-kM];rfl
theorem h9:∀{r:List Nat} {c:Nat} {v:List Nat},v∈cf r c->v.sum=c/\(less r v).sum+c=r.sum/\v.length=r.length/\pr (r.map dv)=pc r v*(pr (v.map dv)*pr ((less r v).map dv))
 |[],0,v,h=>by cases O9.mp h;exact⟨rfl,rfl,rfl,rfl⟩
 |[],c+1,v,h=>by cases h
 |x::r,c,v,h=>by
  have h':v∈(OB (RP x c+1)).flatMap λa=>(cf r (c-a)).map (a::·):=h;obtain⟨a,ha,d⟩:=PY.mp h';obtain⟨u,e,rfl⟩:=OF.mp d;have f:=OY.mp ha;obtain⟨g,i,j,k⟩:=h9 e;refine⟨by rw[O6,g];omega,?_,by rw[OR,j,OR],?_⟩
  .show((x-a)::less r u).sum+c=_
   rw[O6,O6,<-i];omega
  .show dv x*pr (r.map dv)=(ch x a*pc r u)*((dv a*pr (u.map dv))*(dv (x-a)*pr ((less r u).map dv)))
   have b:=lL x a (x-a) (by omega);rw[show a+(x-a)=x by omega]at b;rw[k,<-b];simp only[Th,SV,RM]
def mu:List Nat->Nat
 |[]=>1
 |x::r=>ch (x+r.sum) x*mu r
theorem im:∀r:List Nat,mu r*pr (r.map dv)=dv r.sum
 |[]=>rfl
 |x::r=>by
  show(ch (x+r.sum) x*mu r)*(dv x*pr (r.map dv))=dv (x::r).sum;rw[O6,<-lL _ x r.sum rfl,<-im r];simp only[Th,SV,RM]
theorem qg(r:List Nat):0<pr (r.map dv):=tL λx a=>by
 obtain⟨n,_,rfl⟩:=OF.mp a;exact jy n
theorem Ln(r:List Nat):dv r.sum/pr (r.map dv)=mu r:=by rw[<-im,Nat.mul_div_cancel _ (qg r)]
def Yw:List Nat->List Nat->Nat
 |_,[]=>1
 |r,c::cs=>sm (cf r c) λv=>mu v*Yw (less r v) cs
theorem GI:∀{r:List Nat},r.sum=0->mu r=1
 |[],_=>rfl
 |x::r,h=>by
  rw[O6]at h;obtain rfl:x=0:=by omega
  show ch _ 0*mu r=1;rw[qz,GI (by omega)]
theorem pO:∀(cs r:List Nat),r.sum=cs.sum->Yw r cs=mu r
 |[],r,h=>(GI h).symm
 |c::cs,r,h=>by
  rw[O6]at h;refine Nat.eq_of_mul_eq_mul_right (qg r) ?_;rw[im];show sm (cf r c) (λv=>mu v*Yw (less r v) cs)*_=_;rw[RM,<-kM];have e:(sm (cf r c) λv=>pr (r.map dv)*(mu v*Yw (less r v) cs))=sm (cf r c) λv=>(dv c*dv (r.sum-c))*pc r v:=by
   refine c5 λv a=>?_;obtain⟨b,f,g,d⟩:=h9 a;rw[pO cs (less r v) (by omega),d];have m1:=im v;have m2:=im (less r v);rw[b]at m1;rw[show(less r v).sum=r.sum-c by omega]at m2;rw[<-m1,<-m2];simp only[Th,SV,RM]
  rw[e,kM,yT,RM];have:=lL r.sum c (r.sum-c) (by omega);rw[show c+(r.sum-c)=r.sum by omega]at this;exact this
def la:List Nat->List Nat->Prop
 |[],[]=>True
 |a::v,x::r=>a<=x/\la v r
 |_,_=>False
theorem la.refl:∀r,la r r
 |[]=>trivial
 |_::r=>⟨OG _,la.refl r⟩
theorem la.tr:∀{u v r:List Nat},la u v->la v r->la u r
 |[],[],[],_,_=>trivial
 |_::_,_::_,_::_,h,q=>⟨OS h.1 q.1,h.2.tr q.2⟩
 |[],_::_,_,h,_=>h.elim
 |_::_,[],_,h,_=>h.elim
 |[],[],_::_,_,q=>q.elim
 |_::_,_::_,[],_,q=>q.elim
theorem la.len:∀{v r:List Nat},la v r->v.length=r.length
 |[],[],_=>rfl
 |_::_,_::_,h=>Py (·+1) h.2.len
 |[],_::_,h=>h.elim
 |_::_,[],h=>h.elim
theorem la.less:∀{v r:List Nat},la v r->la (less r v) r
 |[],[],_=>trivial
 |a::v,x::r,h=>⟨Nat.sub_le x a,h.2.less⟩
 |[],_::_,h=>h.elim
 |_::_,[],h=>h.elim
theorem la.pr:∀{v r:List Nat},la v r->L2.Pu.pr (v.map (·+1))<=L2.Pu.pr (r.map (·+1))
 |[],[],_=>OG _
 |_::_,_::_,h=>Nat.mul_le_mul (Nat.succ_le_succ h.1) h.2.pr
 |[],_::_,h=>h.elim
 |_::_,[],h=>h.elim
theorem la.sum:∀{v r:List Nat},la v r->v.sum<=r.sum
 |[],[],_=>OG _
 |_::_,_::_,h=>by rw[O6,O6];exact Wh h.1 h.2.sum
 |[],_::_,h=>h.elim
 |_::_,[],h=>h.elim
theorem cR:∀{r:List Nat} {c:Nat} {v:List Nat},v∈cf r c->la v r
 |[],0,v,h=>by cases O9.mp h;exact trivial
 |[],c+1,v,h=>by cases h
 |x::r,c,v,h=>by
  have h':v∈(OB (RP x c+1)).flatMap λa=>(cf r (c-a)).map (a::·):=h;obtain⟨a,ha,b⟩:=PY.mp h';obtain⟨u,d,rfl⟩:=OF.mp b;have e:=OY.mp ha;exact⟨by omega,cR d⟩
theorem jY:∀{r v:List Nat},la v r->v∈cf r v.sum
 |[],[],_=>O9.mpr rfl
 |x::r,a::v,h=>by
  refine PY.mpr ⟨a,OY.mpr (by rw[O6];have:=h.1;omega),OF.mpr ⟨v,?_,rfl⟩⟩;rw[O6,UA];exact jY h.2
 |[],_::_,h=>h.elim
 |_::_,[],h=>h.elim
theorem g0{α a:Type}{f:α->List a}{n:Nat}:∀{l:List α},(∀x∈l,(f x).length<=n)->(l.flatMap f).length<=l.length*n
 |[],_=>by simp
 |x::l,h=>by
  rw[PM,OQ,OR,Nat.succ_mul,Vw];exact Wh (g0 λy b=>h y (Ot _ b)) (h x Oz)
theorem jI:∀(r:List Nat) (c:Nat),(cf r c).length<=pr (r.dropLast.map (·+1))
 |[],0=>OG _
 |[],_+1=>PX _
 |[x],c=>by
  have h:cf [x] c=(OB (RP x c+1)).flatMap λa=>(cf [] (c-a)).map (a::·):=rfl;rw[h,Rt,QL,OQ];have e:((OB (RP x c)).flatMap λa=>(cf [] (c-a)).map (a::·))=[]:=by
   refine SJ.mpr λa ha=>?_;have:=OY.mp ha;obtain⟨n,hn⟩:∃n,c-a=n+1:=⟨c-a-1,by omega⟩;rw[hn];rfl
  rw[e];cases q:c-RP x c<;>simp[cf,q,pr]
 |x::y::r,c=>by
  have h:=g0 (l:=OB (RP x c+1)) (f:=λa=>(cf (y::r) (c-a)).map (a::·)) (n:=pr ((y::r).dropLast.map (·+1))) λa _=>by rw[Ol];exact jI (y::r) (c-a)
  rw[OZ]at h;refine OS h ?_;show _<=(x+1)*pr ((y::r).dropLast.map (·+1));exact Tj _ (by omega)
theorem kg{α β a:Type}{f:α->List β}{g:β->List a}(l:List α):(l.flatMap f).flatMap g=l.flatMap λx=>(f x).flatMap g:=List.flatMap_assoc
theorem rM(r:List Nat)(k:Nat):pr ((r.take k).map (·+1))<=pr (r.map (·+1)):=by
 conv=>rhs;rw[<-Rm k r,Pg,yL]
 exact UB _ (tL λx a=>by
  obtain⟨n,_,rfl⟩:=OF.mp a;omega)
theorem rP(l:List Nat):(nI l).map Int.toNat=l:=by
 rw[OA];exact(O5 λx _=>rfl).trans (UU l)
theorem gm(h:nI l=nI m):l=m:=by rw[<-rP l,h,rP]
theorem zd{α a:Type}{f:α->a}{l:List α}(h:(l.map f).Nodup):l.Nodup:=(Uc.mp h).imp λq e=>q (Py f e)
theorem ze{α c:Type}{f:α->c}(inj:∀a b,f a=f b->a=b){l:List α}(h:l.Nodup):(l.map f).Nodup:=Uc.mpr (h.imp λq e=>q (inj _ _ e))
theorem iX{cs:List Nat}(h:k<cs.length):cs.drop k=cs.getD k 0::cs.drop (k+1):=by
 rw[Qa h,Op,Os h];rfl
noncomputable def F0:List (Nat×Nat)->List Nat->Bool
 |p::ps,a::v=>decide (p.1<=a)&&decide (a<=p.2)&&F0 ps v
 |_,_=>Oq
def vB(ps:List (Nat×Nat))(r:List Nat)(c:Nat):List (List Nat):=(cf r c).filter (F0 ps)
theorem Ke(h:v∈vB ps r c):v∈cf r c:=(SE.mp h).1
theorem p8{p:Nat×Nat}:vB (p::ps) (x::r) c=(OB (RP x c+1)).flatMap λa=>if p.1<=a/\a<=p.2 then(vB ps r (c-a)).map (a::·)else[]:=by
 show((OB (RP x c+1)).flatMap λa=>(cf r (c-a)).map (a::·)).filter (F0 (p::ps))=_;rw[Xw];refine Py (WN · _) (funext λa=>?_);rw[VQ];by_cases q:p.1<=a/\a<=p.2
 .rw[OE q]
  refine Py (PR (a::·)) (Vs λv _=>?_);show(decide (p.1<=a)&&decide (a<=p.2)&&F0 ps v)=F0 ps v;rw[OO q.1,OO q.2];rfl
 .rw[OC q,WM.mpr,RI]
  intro v _ h;have h:(decide (p.1<=a)&&decide (a<=p.2)&&F0 ps v)=Oq:=h;simp only[Pc,Pq]at h;exact q h.1
noncomputable def lv:List (Nat×Nat)->List Nat->List Nat
 |p::ps,x::r=>RP x p.2::lv ps r
 |_,_=>[]
noncomputable def lu(ps:List (Nat×Nat)):List Nat:=ps.map (·.1)
theorem GU:∀{ps:List (Nat×Nat)} {r:List Nat} {c:Nat} {v:List Nat},ps.length=r.length->v∈vB ps r c->(lu ps).sum<=c/\c<=(lv ps r).sum
 |[],[],c,v,_,h=>by
  have:=h9 (Ke h);simp at this;simp[lu,lv];omega
 |p::ps,x::r,c,v,e,h=>by
  rw[p8]at h;obtain⟨a,ha,h⟩:=PY.mp h;by_cases q:p.1<=a/\a<=p.2
  .rw[OE q]at h
   obtain⟨u,b,rfl⟩:=OF.mp h;have i:=GU (by simpa using e) b;have:=OY.mp ha;simp only[lu,lv,OJ,O6]at i⊢;omega
  .rw[OC q]at h;cases h
noncomputable def YN(x:Nat)(p:Nat×Nat)(few a:Nat)(b:List Nat×Nat):List (List Nat×Nat):=(OB (RP (RP x p.2+few) b.2+1-few-WQ p.1 (b.2-a))).map λi=>(b.1++[WQ p.1 (b.2-a)+i],b.2-(WQ p.1 (b.2-a)+i))
def na(ps:List (Nat×Nat))(r:List Nat)(c:Nat):Nat->List (List Nat×Nat)
 |0=>[([],c)]
 |k+1=>(na ps r c k).flatMap (YN (r.getD k 0) (ps.getD k (0,0)) ((lu ps).drop (k+1)).sum ((lv ps r).drop (k+1)).sum)
theorem lF{b:Type}{f:Nat->List b}{lo n N:Nat}(h:∀a<N,f a≠[]->lo<=a/\a<n)(hn:n<=N):(OB N).flatMap f=(OB (n-lo)).flatMap λi=>f (lo+i):=by
 have e:∀{a},a<N->¬(lo<=a/\a<n)->f a=[]:=λ{a} ha q=>Ri λz=>q (h a ha z);obtain⟨d,rfl⟩:∃d,N=n+d:=⟨N-n,by omega⟩;have z:(OB d).flatMap (λa=>f (n+a))=[]:=SJ.mpr λa ha=>e (by have:=OY.mp ha;omega) (by omega);rw[List.range_add,QL,S6,z,Pi];rcases Nat.le_total lo n with q|q
 .obtain⟨m,rfl⟩:∃m,n=lo+m:=⟨n-lo,by omega⟩
  rw[List.range_add,QL,SJ.mpr λa ha=>e (by have:=OY.mp ha;omega) (by have:=OY.mp ha;omega),Q6,S6,UA]
 .rw[show n-lo=0 by omega,SJ.mpr λa ha=>e (by have:=OY.mp ha;omega) (by have:=OY.mp ha;omega)];rfl
theorem sJ:∀{ps:List (Nat×Nat)} {r:List Nat} (k:Nat),lv (ps.drop k) (r.drop k)=(lv ps r).drop k
 |_,_,0=>rfl
 |[],r,k+1=>by simp[lv]
 |p::ps,[],k+1=>by cases h:(ps.drop k)<;>simp[lv,h]
 |p::ps,x::r,k+1=>sJ k
theorem dN{α:Type}{l:List α}{k:Nat}{d:α}(h:k<l.length):l.getD k d=l[k]:=by rw[Op,Os h];rfl
theorem cA{α a:Type}{f g:α->List a}:∀{l:List α},(∀x∈l,f x=g x)->l.flatMap f=l.flatMap g
 |[],_=>rfl
 |x::l,h=>by rw[PM,PM,h x Oz,cA λy b=>h y (Ot _ b)]
theorem u6{ps:List (Nat×Nat)}{r:List Nat}(e:ps.length=r.length)(c:Nat):∀k,k<=r.length->((na ps r c k).flatMap λb=>(vB (ps.drop k) (r.drop k) b.2).map (b.1++·))=vB ps r c
 |0,_=>by simp[na]
 |k+1,h=>by
  rw[<-u6 e c k (by omega)];show((na ps r c k).flatMap _).flatMap _=_;rw[kg];refine Py (WN · (na ps r c k)) (funext λb=>?_);have g:k<r.length:=by omega
  have j:k<ps.length:=by omega
  rw[Qa g,Qa j,dN g,dN j,p8,QV];rw[lF (f:=λa=>(if ps[k].1<=a/\a<=ps[k].2 then(vB (ps.drop (k+1)) (r.drop (k+1)) (b.2-a)).map (a::·)else[]).map (b.1++·)) (N:=RP r[k] b.2+1) (lo:=WQ ps[k].1 (b.2-((lv ps r).drop (k+1)).sum)) (n:=RP (RP r[k] b.2+1) (RP (RP r[k] ps[k].2+((lu ps).drop (k+1)).sum) b.2+1-((lu ps).drop (k+1)).sum)) (λa o ha=>?_) (Nat.min_le_left _ _)]
  .unfold YN
   rw[S6,show RP (RP r[k] b.2+1) (RP (RP r[k] ps[k].2+((lu ps).drop (k+1)).sum) b.2+1-((lu ps).drop (k+1)).sum)=RP (RP r[k] ps[k].2+((lu ps).drop (k+1)).sum) b.2+1-((lu ps).drop (k+1)).sum by omega];refine cA λi l=>?_;have:=OY.mp l;rw[OE (by omega),OA];exact O5 λv _=>by simp
  .by_cases q:ps[k].1<=a/\a<=ps[k].2
   .rw[OE q]at ha
    obtain⟨w,d⟩:=List.exists_mem_of_ne_nil _ ha;obtain⟨w,d,_⟩:=OF.mp d;obtain⟨v,m,_⟩:=OF.mp d;have:=GU (by simp[e]) m;rw[sJ]at this;unfold lu at this⊢;rw[Rz]at this;omega
   .rw[OC q]at ha;exact O4 rfl ha
theorem Kd(c:Nat):vB [] [] c=if(c:Int)=0 then[[]]else[]:=by
 cases c with
 |zero=>rfl
 |succ n=>rw[OC (by omega)];rfl
theorem I0{ps:List (Nat×Nat)}{r:List Nat}(a:ps.length=r.length)(c:Nat):((na ps r c r.length).filter λb=>decide ((b.2:Int)=0)).map (·.1)=vB ps r c:=by
 rw[<-u6 a c r.length (OG _),S4,<-a,S4,a];generalize na ps r c r.length=l
 induction l with
 |nil=>rfl
 |cons b l ih=>
  rw[PM,S5,<-ih,Kd];by_cases q:(b.2:Int)=0
  .rw[OE q,OE (OO q)];simp
  .rw[OC q,OC (by simp;omega)];rfl
theorem u5{r:List Nat}(c:Nat):∀k,k<=r.length->(na ps r c k).length<=pr ((r.take k).map (·+1))
 |0,_=>OG _
 |k+1,h=>by
  have e:r[k]?=on r[k]:=Os (by omega);rw[gX e];refine OS (g0 (n:=r[k]+1) λb _=>?_) (Tj _ (u5 c k (by omega)));unfold YN;rw[Ol,OZ,dN (show k<r.length by omega)];omega
theorem yh(ps:List (Nat×Nat))(r:List Nat)(c:Nat):∀k,∀b∈na ps r c k,b.2<=c/\b.1.length=k
 |0,b,h=>by cases O9.mp h;exact⟨OG _,rfl⟩
 |k+1,b,h=>by
  obtain⟨d,hd,a⟩:=PY.mp (show b∈(na ps r c k).flatMap _ from h);obtain⟨i,_,rfl⟩:=OF.mp a;obtain⟨q1,q2⟩:=yh ps r c k d hd;exact⟨by show d.2-_<=c;omega,by rw[OQ,q2];rfl⟩
theorem x5:∀{ps:List (Nat×Nat)} {r:List Nat},(lv ps r).sum<=r.sum
 |[],r=>PX _
 |_::_,[]=>OG _
 |p::ps,x::r=>by
  have:=x5 (ps:=ps) (r:=r);simp only[lv,O6];omega
abbrev Wy:=Nat->List Nat->List (List Nat)
def G_(cs:List Nat)(W:Wy):Prop:=∀k r,(W k r).Sublist (cf r (cs.getD k 0))
def T_(W:Wy)(L:List (List Nat))(k:Nat):LI:=L.flatMap λr=>(W k r).map λv=>nI (less r v)
def YE(W:Wy)(L:List (List Nat))(k:Nat):List (List Nat):=(kK (T_ W L k)).map λk=>k.map Int.toNat
section
variable{W:Wy}{cs rs:List Nat}
theorem fY:y∈T_ W L k↔∃r∈L,∃v∈W k r,y=nI (less r v):=by
 unfold T_;constructor
 .intro h
  obtain⟨r,a,h⟩:=PY.mp h;obtain⟨v,b,rfl⟩:=OF.mp h;exact⟨r,a,v,b,rfl⟩
 .rintro⟨r,a,v,b,rfl⟩
  exact PY.mpr ⟨r,a,OF.mpr ⟨v,b,rfl⟩⟩
theorem wS(L:List (List Nat))(k:Nat):(YE W L k).map nI=kK (T_ W L k):=by
 unfold YE;rw[OA];refine(O5 λy a=>?_).trans (UU _);obtain⟨r,_,v,_,rfl⟩:=fY.mp (dQ.mp a);show nI ((nI _).map Int.toNat)=_;rw[rP];rfl
theorem fX:u∈YE W L k↔∃r∈L,∃v∈W k r,u=less r v:=by
 constructor
 .intro h
  have:nI u∈kK (T_ W L k):=by rw[<-wS];exact OF.mpr ⟨u,h,rfl⟩
  obtain⟨r,a,v,b,e⟩:=fY.mp (dQ.mp this);exact⟨r,a,v,b,gm e⟩
 .rintro⟨r,a,v,b,rfl⟩
  exact OF.mpr ⟨nI (less r v),dQ.mpr (fY.mpr ⟨r,a,v,b,rfl⟩),rP _⟩
def g_(W:Wy)(rs:List Nat):Nat->List (List Nat)
 |0=>[rs]
 |k+1=>YE W (g_ W rs k) k
theorem ua:∀k,(g_ W rs k).Nodup
 |0=>SK _ _
 |k+1=>zd (f:=nI) (by show(PR nI (YE _ _ _)).Nodup;rw[wS];exact GV (me _))
theorem ir(b:G_ cs W)(hs:rs.sum=cs.sum):∀k,k<=cs.length->∀r∈g_ W rs k,la r rs/\r.sum=(cs.drop k).sum
 |0,_,r,h=>by cases O9.mp h;exact⟨la.refl _,hs⟩
 |k+1,hk,u,h=>by
  obtain⟨r,c,v,a,rfl⟩:=fX.mp (show u∈YE W (g_ W rs k) k from h);have a:=(b k r).subset a;obtain⟨q1,q2⟩:=ir b hs k (by omega) r c;have q3:=(h9 a).2.1;rw[q2,iX (by omega),O6]at q3;exact⟨(cR a).less.tr q1,by omega⟩
theorem JD(a:G_ cs W)(hs:rs.sum=cs.sum)(b:k<=cs.length):(g_ W rs k).length<=pr (rs.dropLast.map (·+1)):=
 OS (nd_len (ua k) (m:=cf rs (cs.drop k).sum) λr c=>by
  obtain⟨d,e⟩:=ir a hs k b r c;rw[<-e];exact jY d) (jI _ _)
theorem vE(a:G_ cs W)(hs:rs.sum=cs.sum)(e:1<=rs.length)(f:pr (rs.dropLast.map (·+1))<63)(g:k<cs.length):fq ((T_ W (g_ W rs k) k).map lk)=on (.lst ((g_ W rs (k+1)).map λr=>lk (nI r))):=by
 refine(Kt (m:=(cf rs (cs.drop (k+1)).sum).map nI) ?_ (by rw[Ol];exact Qo (jI _ _) f) ?_).trans ?_
 .intro x b
  obtain⟨r,c,v,d,rfl⟩:=fY.mp b;rw[Ol,((cR ((a k r).subset d)).less.tr (ir a hs k (by omega) r c).1).len];exact e
 .intro x b
  obtain⟨r,c,v,d,rfl⟩:=fY.mp b;obtain⟨q1,q2⟩:=ir a hs (k+1) g (less r v) (fX.mpr ⟨r,c,v,d,rfl⟩);exact OF.mpr ⟨less r v,by rw[<-q2];exact jY q1,rfl⟩
 .rw[<-wS,OA];rfl
def Wi(W:Wy)(rs:List Nat)(n:Nat):List (Int×List Int):=(OB n).flatMap λk=>(g_ W rs k).map λr=>((k:Int),nI r)
theorem zA:∀n,(Wi W rs n).Nodup
 |0=>Wa
 |n+1=>by
  unfold Wi;rw[Rt,QL,PM,Uv,Pi];refine Ub.mpr ⟨zA n,ze (λr s e=>gm (Sk.mp e).2) (ua n),λx a y b e=>?_⟩;subst e;obtain⟨k,c,h⟩:=PY.mp a;obtain⟨r,_,rfl⟩:=OF.mp h;obtain⟨s,_,e⟩:=OF.mp b;have:=(Sk.mp e).1;have d:=OY.mp c;simp only at this;omega
def oD(W:Wy):Nat->Nat->List Nat->Nat
 |0,_,_=>1
 |j+1,k,r=>sm (W k r) λv=>oD W j (k+1) (less r v)
def F3(W:Wy):Nat->Nat->List Nat->Nat
 |0,_,_=>1
 |j+1,k,r=>sm (W k r) λv=>mu v*F3 W j (k+1) (less r v)
theorem oG{α:Type}{f g:α->Nat}{l m:List α}(h:l.Sublist m)(q:∀a∈m,f a<=g a):sm l f<=sm m g:=by
 induction h with
 |slnil=>exact OG _
 |cons a _ ih=>rw[bK];exact OS (ih λx b=>q x (Ot _ b)) (Nat.le_add_left _ _)
 |cons_cons a _ ih=>rw[bK,bK];exact Wh (q a Oz) (ih λx b=>q x (Ot _ b))
theorem zY(a:G_ cs W):∀(j k:Nat) (r:List Nat),k+j=cs.length->F3 W j k r<=Yw r (cs.drop k)
 |0,k,r,h=>by rw[show k=cs.length by omega,S4];exact OG _
 |j+1,k,r,h=>by
  rw[iX (by omega)];exact oG (a k r) λv _=>Nat.mul_le_mul_left _ (zY a j (k+1) (less r v) (by omega))
noncomputable def F_:List (Nat×Nat)->List Nat->List (List Nat)
 |p::ps,x::r=>(OB (RP p.2 x+1-p.1)).flatMap λi=>(F_ ps r).map ((p.1+i)::·)
 |_,_=>[[]]
theorem AC:∀{ps:List (Nat×Nat)} {r:List Nat} {c:Nat},ps.length=r.length->(F_ ps r).filter (λv=>decide (v.sum=c))=vB ps r c
 |[],[],c,_=>by cases c<;>rfl
 |p::ps,x::r,c,h=>by
  have h':ps.length=r.length:=by simpa using h
  rw[p8,lF (lo:=p.1) (n:=RP (RP x c+1) (RP p.2 x+1)) (N:=RP x c+1) (λa d ha=>?_) (Nat.min_le_left _ _)]
  .show((OB (RP p.2 x+1-p.1)).flatMap λi=>(F_ ps r).map ((p.1+i)::·)).filter _=_
   rw[Xw];have e:∀i,List.filter (λv=>decide (v.sum=c)) ((F_ ps r).map ((p.1+i)::·))=if p.1+i<=c then(vB ps r (c-(p.1+i))).map ((p.1+i)::·)else[]:=λi=>by
    rw[VQ];by_cases q:p.1+i<=c
    .rw[OE q,<-AC h']
     refine Py (PR _) (Vs λv _=>?_);show decide (((p.1+i)::v).sum=c)=_;rw[O6];exact decide_eq_decide.mpr (by omega)
    .rw[OC q,WM.mpr,RI]
     intro v _ z;have z:decide (((p.1+i)::v).sum=c)=Oq:=z;rw[O6,Pq]at z;omega
   rw[cA λi _=>e i];rw[lF (f:=λi=>if p.1+i<=c then(vB ps r (c-(p.1+i))).map ((p.1+i)::·)else[]) (lo:=0) (n:=RP (RP x c+1) (RP p.2 x+1)-p.1) (N:=RP p.2 x+1-p.1) (λa ha q=>⟨PX _,?_⟩) (by omega),WX]
   .refine cA λi b=>?_
    have:=OY.mp b;rw[QN,OE (by omega),OE (by omega)]
   .by_cases z:p.1+a<=c
    .omega
    .rw[OC z]at q;exact O4 rfl q
  .by_cases q:p.1<=a/\a<=p.2
   .omega
   .rw[OC q]at ha;exact O4 rfl ha
noncomputable def l_(ps:List (Nat×Nat))(r:List Nat):Nat->List (List Nat)
 |0=>[[]]
 |k+1=>(l_ ps r k).flatMap λu=>(OB (RP (ps.getD k (0,0)).2 (r.getD k 0)+1-(ps.getD k (0,0)).1)).map λi=>u++[(ps.getD k (0,0)).1+i]
theorem vV{ps:List (Nat×Nat)}{r:List Nat}(c:ps.length=r.length):∀k,k<=r.length->((l_ ps r k).flatMap λu=>(F_ (ps.drop k) (r.drop k)).map (u++·))=F_ ps r
 |0,_=>by simp[l_]
 |k+1,h=>by
  rw[<-vV c k (by omega)];show((l_ ps r k).flatMap _).flatMap _=_;rw[kg];refine cA λu _=>?_;have a:k<r.length:=by omega
  have b:k<ps.length:=by omega
  rw[Qa a,Qa b,dN a,dN b];show _=((OB (RP ps[k].2 r[k]+1-ps[k].1)).flatMap λi=>(F_ (ps.drop (k+1)) (r.drop (k+1))).map ((ps[k].1+i)::·)).map (u++·);rw[QV,S6];refine cA λi _=>?_;rw[OA];exact O5 λv _=>by simp
theorem vU{ps:List (Nat×Nat)}{r:List Nat}(a:ps.length=r.length):l_ ps r r.length=F_ ps r:=by
 rw[<-vV a r.length (OG _),S4,<-a,S4];show _=(l_ ps r ps.length).flatMap λu=>[u++[]];generalize l_ ps r ps.length=l
 induction l with
 |nil=>rfl
 |cons x l ih=>rw[PM,<-ih,Pi];rfl
theorem vT{r:List Nat}:∀k,k<=r.length->(l_ ps r k).length<=pr ((r.take k).map (·+1))
 |0,_=>OG _
 |k+1,h=>by
  have e:r[k]?=on r[k]:=Os (by omega);rw[gX e];refine OS (g0 (n:=r[k]+1) λb _=>?_) (Tj _ (vT k (by omega)));rw[Ol,OZ,dN (show k<r.length by omega)];omega
theorem zP:∀k,∀u∈l_ ps r k,u.length=k
 |0,b,h=>by cases O9.mp h;rfl
 |k+1,b,h=>by
  obtain⟨d,hd,a⟩:=PY.mp (show b∈(l_ ps r k).flatMap _ from h);obtain⟨i,_,rfl⟩:=OF.mp a;rw[OQ,zP k d hd];rfl
def lst(W:Wy)(rs:List Nat):Nat->List (List (List Nat)×List Nat)
 |0=>[([],rs)]
 |k+1=>(lst W rs k).flatMap λq=>(W k q.2).map λv=>(q.1++[v],less q.2 v)
theorem yj{α:Type}:∀l:List α,(sm l λ_=>1)=l.length
 |[]=>rfl
 |x::l=>by rw[bK,yj l,OR,Vw]
theorem zg(r:List Nat):0<mu r:=Nat.pos_of_ne_zero λz=>by
 have:=im r;rw[z,WY]at this;have:=jy r.sum;omega
theorem ub(b:G_ cs W)(hs:rs.sum=cs.sum):∀k,k<=cs.length->∀q∈lst W rs k,la q.2 rs/\q.2.sum=(cs.drop k).sum/\q.1.length=k
 |0,_,q,h=>by cases O9.mp h;exact⟨la.refl _,hs,rfl⟩
 |k+1,hk,u,h=>by
  obtain⟨q,c,d⟩:=PY.mp (show u∈(lst W rs k).flatMap _ from h);obtain⟨v,a,rfl⟩:=OF.mp d;have a:=(b k q.2).subset a;obtain⟨q1,q2,q3⟩:=ub b hs k (by omega) q c;have q4:=(h9 a).2.1;rw[q2,iX (by omega),O6]at q4;exact⟨(cR a).less.tr q1,by show(less q.2 v).sum=_;omega,by rw[OQ,q3];rfl⟩
theorem zi(a:G_ cs W):∀k,k<=cs.length->(sm (lst W rs k) λq=>Yw q.2 (cs.drop k))<=Yw rs cs
 |0,_=>OG _
 |k+1,h=>by
  refine OS ?_ (zi a k (by omega));show sm ((lst W rs k).flatMap _) _<=_;rw[mj];refine oG (UM _) λq _=>?_;rw[oH,iX (k:=k) (by omega)];exact oG (a k q.2) λv _=>Nat.le_mul_of_pos_left _ (zg v)
theorem vI(a:G_ cs W)(hs:rs.sum=cs.sum)(b:k<=cs.length):(lst W rs k).length<=mu rs:=by
 rw[<-pO cs rs hs,<-yj];refine OS (oG (UM _) λq c=>?_) (zi a k b);rw[pO _ _ (ub a hs k b q c).2.1];exact zg _
def stW(W:Wy)(j k:Nat)(r:List Nat):List (List Nat):=(W k r).filter λv=>decide ((0:Int)<((oD W j (k+1) (less r v):Nat):Int))
def Wk(W:Wy):Nat->List Nat->List (List Nat)->Prop
 |_,_,[]=>True
 |k,r,v::vs=>v∈W k r/\Wk W (k+1) (less r v) vs
theorem HW{α:Type}{f:α->Nat}{a:α}:∀{l:List α},a∈l->f a<=sm l f
 |b::l,h=>by
  rw[bK];rcases ON.mp h with rfl|h
  .omega
  .have:=HW (f:=f) h;omega
theorem xT:∀{j k:Nat} {r:List Nat} {vs:List (List Nat)},Wk W k r vs->vs.length=j->0<oD W j k r
 |_,_,_,[],_,rfl=>Nat.one_pos
 |_,k,r,v::vs,h,rfl=>O3 (xT h.2 rfl) (HW (f:=λv=>oD W vs.length (k+1) (less r v)) h.1)
def lT(u v:List Nat):List Nat:=TC (·+·) u v
def x0(n:Nat):List (List Nat)->List Nat
 |[]=>O0 n 0
 |v::vs=>lT v (x0 n vs)
theorem ug:∀{v r:List Nat},v.length=r.length->less (lT v r) v=r/\la v (lT v r)
 |[],[],_=>⟨rfl,trivial⟩
 |x::v,y::r,h=>by
  obtain⟨a,b⟩:=ug (v:=v) (r:=r) (by simpa using h);refine⟨?_,RC _ _,b⟩;show(x+y-x)::less (lT v r) v=_;rw[a,UA]
theorem mo:∀{vs:List (List Nat)},(∀v∈vs,v.length=n)->(x0 n vs).length=n
 |[],_=>Qz
 |v::vs,h=>by
  show(TC _ _ _).length=n;rw[U7,h v Oz,mo λu a=>h u (Ot _ a),WW]
theorem GM:∀{vs:List (List Nat)} {k:Nat},(∀v∈vs,v.length=n)->(∀i r v,vs[i]?=on v->la v r->v∈W (k+i) r)->Wk W k (x0 n vs) vs
 |[],_,_,_=>trivial
 |v::vs,k,h,hw=>by
  have b:∀u∈vs,u.length=n:=λu a=>h u (Ot _ a);obtain⟨c,d⟩:=ug (v:=v) (r:=x0 n vs) (by rw[h v Oz,mo b]);refine⟨hw 0 _ v rfl d,?_⟩;show Wk W (k+1) (less (lT v (x0 n vs)) v) vs;rw[c];exact GM b λi r u a le=>by
   have:=hw (i+1) r u a le;rwa[show k+(i+1)=k+1+i by omega]at this
theorem jk:∀{l:List Nat} {i x y:Nat},l[i]?=on x->(l.set i y).sum+x=l.sum+y
 |a::l,0,x,y,h=>by
  cases h;show(y::l).sum+a=(a::l).sum+y;rw[O6,O6];omega
 |a::l,i+1,x,y,h=>by
  have:=jk (l:=l) (i:=i) (x:=x) (y:=y) h;show(a::l.set i y).sum+x=(a::l).sum+y;rw[O6,O6];omega
theorem MX{u v:List Nat}{i x y:Nat}(a:u[i]?=on x)(b:v[i]?=on y):(lT u v)[i]?=on (x+y):=by
 unfold lT;rw[WT,a,b]
theorem yx:∀{vs:List (List Nat)},(∀v∈vs,v.length=n)->i<n->(x0 n vs).getD i 0=(vs.map λv=>v.getD i 0).sum
 |[],_,hi=>by
  show(O0 n 0).getD i 0=0;rw[Op,Q4,OE hi];rfl
 |v::vs,h,hi=>by
  have a:∀w∈vs,w.length=n:=λw b=>h w (Ot _ b);have c:=h v Oz;have d:=mo a;rw[OJ,O6,<-yx a hi];show(lT v (x0 n vs)).getD i 0=_;rw[Op,MX (Os (by omega)) (Os (by omega)),dN (by omega),dN (by omega)];rfl
def lQ(W:Wy):Nat->Nat->List Nat->List (List (List Nat))
 |0,_,_=>[[]]
 |j+1,k,r=>(W k r).flatMap λv=>(lQ W j (k+1) (less r v)).map (v::·)
def wt(vs:List (List Nat)):Nat:=pr (vs.map mu)
theorem vH(m:Nat):∀k,k<=m->((lst W rs k).flatMap λq=>(lQ W (m-k) k q.2).map (q.1++·))=lQ W m 0 rs
 |0,_=>by
  show(lQ W (m-0) 0 rs).map ([]++·)++[]=_;rw[Pi,WX];exact(O5 λx _=>Q6 x).trans (UU _)
 |k+1,h=>by
  rw[<-vH m k (by omega)];show((lst W rs k).flatMap _).flatMap _=_;rw[kg];refine cA λq _=>?_;rw[show m-k=m-(k+1)+1 by omega,S6];show _=((W k q.2).flatMap λv=>(lQ W (m-(k+1)) (k+1) (less q.2 v)).map (v::·)).map (q.1++·);rw[QV];refine cA λv _=>?_;rw[OA];exact O5 λu _=>by simp
theorem NP(m:Nat):(lst W rs m).map (·.1)=lQ W m 0 rs:=by
 rw[<-vH m m (OG _),UJ];generalize lst W rs m=l
 induction l with
 |nil=>rfl
 |cons q l ih=>rw[OJ,PM,ih];simp[lQ]
theorem qf:∀(j k:Nat) (r:List Nat),(lQ W j k r).length=oD W j k r
 |0,_,_=>rfl
 |j+1,k,r=>by
  show((W k r).flatMap _).length=_;rw[List.length_flatMap];show _=((W k r).map _).sum;congr 1;exact O5 λv _=>by rw[Ol,qf]
theorem vm:∀(j k:Nat) (r:List Nat),sm (lQ W j k r) wt=F3 W j k r
 |0,_,_=>rfl
 |j+1,k,r=>by
  show sm ((W k r).flatMap _) wt=_;rw[mj];refine c5 λv _=>?_;rw[oH,<-vm j (k+1) (less r v),<-kM];rfl
theorem yH:∀{j k:Nat} {r:List Nat} {vs:List (List Nat)},vs∈lQ W j k r->Wk W k r vs/\vs.length=j
 |0,_,_,vs,h=>by cases O9.mp h;exact⟨trivial,rfl⟩
 |j+1,k,r,vs,h=>by
  obtain⟨v,a,b⟩:=PY.mp (show vs∈(W k r).flatMap _ from h);obtain⟨us,c,rfl⟩:=OF.mp b;obtain⟨d,e⟩:=yH c;exact⟨⟨a,d⟩,by rw[OR,e]⟩
theorem HC{α:Type}{f:α->Nat}:∀{l:List α},0<sm l f->∃v∈l,0<f v
 |[],h=>O4 h (PH 0)
 |v::l,h=>by
  rw[bK]at h;by_cases q:0<f v
  .exact⟨v,Oz,q⟩
  .obtain⟨u,a,e⟩:=HC (l:=l) (f:=f) (by omega)
   exact⟨u,Ot _ a,e⟩
theorem HU{W:Wy}{rs:List Nat}(h:0<oD W m 0 rs):∀k,k<=m->∃r∈g_ W rs k,0<oD W (m-k) k r
 |0,_=>⟨rs,O9.mpr rfl,h⟩
 |k+1,hk=>by
  obtain⟨r,b,a⟩:=HU h k (by omega);rw[show m-k=m-(k+1)+1 by omega]at a;obtain⟨v,c,q⟩:=HC (show 0<sm (W k r) λv=>oD W (m-(k+1)) (k+1) (less r v)from a);exact⟨less r v,fX.mpr ⟨r,b,v,c,rfl⟩,q⟩
theorem yI{W V:Wy}(h:∀i r,V i r=W (k+i) r):∀(j i:Nat) (r:List Nat),lQ V j i r=lQ W j (k+i) r
 |0,_,_=>rfl
 |j+1,i,r=>by
  show(V i r).flatMap _=(W (k+i) r).flatMap _;rw[h];exact cA λv _=>by rw[yI h j (i+1)];rfl
theorem N9{W:Wy}(b:v∈W k r):v∈(lQ W (j+1) k r).map (·.getD 0 [])↔(0:Int)<((oD W j (k+1) (less r v):Nat):Int):=by
 rw[<-qf];constructor
 .intro h
  obtain⟨vs,c,rfl⟩:=OF.mp h;obtain⟨w,e,d⟩:=PY.mp (show vs∈(W k r).flatMap _ from c);obtain⟨us,a,rfl⟩:=OF.mp d;have:=UD a;show(0:Int)<(((lQ W j (k+1) (less r w)).length:Nat):Int);omega
 .intro h
  obtain⟨us,a⟩:=List.exists_mem_of_length_pos (l:=lQ W j (k+1) (less r v)) (by omega);exact OF.mpr ⟨v::us,PY.mpr ⟨v,b,OF.mpr ⟨us,a,rfl⟩⟩,rfl⟩
theorem Np{W:Wy}:(W k r).filter (λv=>decide (v∈(lQ W (j+1) k r).map (·.getD 0 [])))=stW W j k r:=Vs λv a=>decide_eq_decide.mpr (N9 a)
theorem yJ{W:Wy}{cs:List Nat}(a:G_ cs W):∀{j k:Nat} {r:List Nat} {vs:List (List Nat)},vs∈lQ W j k r->∀v∈vs,la v r
 |0,_,_,vs,h,v,hv=>by cases O9.mp h;cases hv
 |j+1,k,r,vs,h,v,hv=>by
  obtain⟨w,c,d⟩:=PY.mp (show vs∈(W k r).flatMap _ from h);obtain⟨us,e,rfl⟩:=OF.mp d;have b:=cR ((a k r).subset c);rcases ON.mp hv with rfl|hv
  .exact b
  .exact(yJ a e v hv).tr b.less
end
end L2.Nt
namespace L2.Pu
theorem yi{os a:List D}(h:fq os=on d)(q:∀d,d∈os↔d∈a):fq a=on d:=by
 obtain⟨ks,s,rfl⟩:=iG h;exact sO ⟨s.1,s.2.1,λk b=>⟨(s.2.2.1 k b).1,(q _).mp (s.2.2.1 k b).2⟩,λd hd=>s.2.2.2 d ((q d).mpr hd)⟩
theorem NQ(h:y∉ks):lm ks vs y=Om:=by
 unfold lm;rw[List.find?_eq_none.mpr]
 .rfl
 .rintro⟨a,b⟩ c q
  cases(show a=y from PU q);exact h (UI c).1
end L2.Pu
namespace Law
open PySem L2 L2.Pu
open L2.Hs (tQ zE jT vC tP sR lM)
noncomputable def dk(i:Nat):Qg:=PySem.Challenge.pw_edgetally_k18_counts_and_steps.main.body.getD i (.Pass ⟨0,0,0,0⟩)
abbrev yv:Qg:=dk 13
abbrev kP:Qg:=dk 14
abbrev kQ:Qg:=dk 15
abbrev ib:Qg:=dk 16
abbrev m3:Qg:=dk 18
abbrev yt:Qg:=dk 19
abbrev oQ:Qg:=dk 20
abbrev qO:Qg:=dk 22
abbrev kt:Qg:=dk 23
abbrev ku:Qg:=dk 24
abbrev qN:Qg:=dk 25
abbrev mX:Qg:=dk 26
abbrev qR:Qg:=dk 27
abbrev m4:Qg:=dk 28
abbrev kO:Qg:=dk 31
abbrev gH:Qg:=dk 32
abbrev gJ:Qg:=dk 33
abbrev jp:Qg:=dk 34
abbrev ic:Qg:=dk 35
abbrev kx:Qg:=dk 36
abbrev iK:Qg:=dk 37
abbrev vf:Qg:=dk 40
abbrev sZ:Qg:=dk 41
abbrev sY:Qg:=dk 42
abbrev tj:Qg:=dk 43
abbrev qP:Qg:=dk 44
abbrev oN:Qg:=dk 45
abbrev mY:Qg:=dk 46
abbrev jq:Qg:=dk 47
abbrev tq:Qg:=dk 48
abbrev oP:Qg:=dk 49
abbrev oO:Qg:=dk 50
abbrev vd:Qg:=dk 51
abbrev s0:Qg:=dk 52
abbrev mZ:Qg:=dk 53
abbrev kz:Qg:=dk 54
abbrev sX:Qg:=dk 55
abbrev oM:Qg:=dk 56
abbrev vb:Qg:=dk 57
abbrev qQ:Qg:=dk 58
abbrev jr:Qg:=aA (dk 38) 0
abbrev m5:Qg:=aA (dk 38) 9
abbrev iM:Qg:=aA (dk 38) 6
abbrev kR:Qg:=aA (dk 38) 7
abbrev mn:Qg:=dk 59
abbrev sM:Qg:=aA (dk 2) 0
set_option genSizeOf false in
set_option genInjectivity false in
structure Ad where
 Aa:Ou
 Ab:Ou
 Ac:O8
 Ae:Ou
 Af:Ou
 Ag:O8
 Ah:Ou
 Ai:O8
 Aj:Ou
 Ak:O8
 Al:Ou
 Am:O8
 An:Ou
 Ao:O8
 Aq:Ou
 Ar:O8
 As:Ou
 At:O8
 Au:Ou
 Av:O8
 Aw:Ou
 Ax:O8
 Ay:Ou
 Az:O8
 A0:Ou
 A1:O8
 A2:Ou
 A3:O8
 A4:Ou
 A5:O8
 A6:Ou
 A7:O8
 A8:Ou
 A9:O8
 Ba:Ou
 Bb:O8
 Bc:Ou
 Bd:O8
 Be:Ou
 Bf:O8
 Bh:Ou
 Bi:O8
 Bj:Ou
 Bk:O8
 Bl:Ou
 Bm:O8
 Bn:Ou
 Bo:O8
 Bp:Ou
 Bq:O8
 Br:Ou
 Bs:O8
 Bt:Ou
 Bu:O8
 Bv:Ou
 Bw:O8
 Bx:Ou
 By:O8
 Bz:Ou
 B0:O8
 B4:Ou
 B5:O8
 B7:Ou
 B8:O8
 Ca:Ou
 Cb:O8
 Cc:Ou
 Cd:O8
 Cf:Ou
 Cg:O8
 Ch:Ou
 Ci:O8
 Cj:Ou
 Ck:O8
 Cl:Ou
 Cm:O8
 Cn:Ou
 Co:O8
 Cp:Ou
 Cq:O8
 Cr:Ou
 Cs:O8
 Ct:Ou
 Cu:O8
 Cv:Ou
 Cw:O8
 Cy:Ou
 Cz:O8
 C0:Ou
 C2:O8
 C3:Ou
 C4:O8
 C5:Ou
 C6:O8
structure wh (K:OX) (mg:Pn->Option Oy) (a:Ad):Prop where
 C7:mg "ValueError"=Om
 C8:mg "abs"=Om
 C9:mg "any"=Om
 Da:mg "bool"=Om
 Db:mg "enumerate"=Om
 Dc:mg "int"=Om
 Dd:mg "isinstance"=Om
 Df:mg "len"=Om
 Dg:mg "list"=Om
 Dh:mg "max"=Om
 Di:mg "min"=Om
 Dj:mg "range"=Om
 Dl:mg "reversed"=Om
 Dm:mg "sorted"=Om
 Do:mg "str"=Om
 Dp:mg "sum"=Om
 Dq:mg "tuple"=Om
 Dr:mg "zip"=Om
 Dt:mW K mg "MOST" (.int 40)
 Du:mW K mg "MOST_COLUMNS" (.int 6)
 Dv:mW K mg "MOST_ROWS" (.int 4)
 Dw:mW K mg "WIDE" (.int 500)
 Dx:d4 K "free" "free" yv a.Af a.Ag
 Dy:mg "free"=on (.ref a.Af)
 Dz:dG K a.Ag ["rows","columns","pair"] [.tup [.int 0,.int 40]]
 D0:d4 K "check_sums" "check_sums" kP a.Ah a.Ai
 D3:mg "check_sums"=on (.ref a.Ah)
 D4:aC K a.Ai ["rowsums","columnsums"] []
 D5:d4 K "check_pair" "check_pair" kQ a.Aj a.Ak
 D6:mg "check_pair"=on (.ref a.Aj)
 D7:aC K a.Ak ["pair"] []
 D8:d4 K "settled_bounds" "settled_bounds" ib a.Al a.Am
 D9:mg "settled_bounds"=on (.ref a.Al)
 Ea:aC K a.Am ["bounds","rows","columns"] []
 Eb:d4 K "factorial" "factorial" m3 a.An a.Ao
 Ec:mg "factorial"=on (.ref a.An)
 Ed:aC K a.Ao ["number"] []
 Ee:d4 K "ways" "ways" yt a.Aq a.Ar
 Ef:mg "ways"=on (.ref a.Aq)
 Eg:aC K a.Ar ["parts"] []
 Eh:d4 K "fillings" "fillings" oQ a.As a.At
 Ei:mg "fillings"=on (.ref a.As)
 Ej:aC K a.At ["rests","many","pairs"] []
 Ek:d4 K "need_of" "need_of" qO a.Au a.Av
 El:mg "need_of"=on (.ref a.Au)
 Em:aC K a.Av ["rowsums","over"] []
 En:d4 K "room_inside" "room_inside" kt a.Aw a.Ax
 Eo:mg "room_inside"=on (.ref a.Aw)
 Ep:aC K a.Ax ["columnsums","bounds","over","column"] []
 Er:d4 K "room_beside" "room_beside" ku a.Ay a.Az
 Es:mg "room_beside"=on (.ref a.Ay)
 Et:aC K a.Az ["bounds","over","column"] []
 Eu:d4 K "room_of" "room_of" qN a.A0 a.A1
 Ev:mg "room_of"=on (.ref a.A0)
 Ew:aC K a.A1 ["columnsums","bounds","over","into"] []
 Ex:d4 K "narrowest" "narrowest" mX a.A2 a.A3
 Ey:mg "narrowest"=on (.ref a.A2)
 Ez:aC K a.A3 ["columnsums","bounds","over"] []
 E2:d4 K "choices" "choices" qR a.A4 a.A5
 E3:mg "choices"=on (.ref a.A4)
 E4:aC K a.A5 ["many"] []
 E5:d4 K "check_fit" "check_fit" m4 a.A6 a.A7
 E6:mg "check_fit"=on (.ref a.A6)
 E7:aC K a.A7 ["rowsums","columnsums","bounds"] []
 E8:d4 K "check_wide" "check_wide" kO a.A8 a.A9
 E9:mg "check_wide"=on (.ref a.A8)
 Fa:aC K a.A9 ["rowsums"] []
 Fb:d4 K "settled_for_net" "settled_for_net" gH a.Ba a.Bb
 Fc:mg "settled_for_net"=on (.ref a.Ba)
 Fd:aC K a.Bb ["rowsums","columnsums","bounds"] []
 Fe:d4 K "column_fillings" "column_fillings" gJ a.Bc a.Bd
 Ff:mg "column_fillings"=on (.ref a.Bc)
 Fg:aC K a.Bd ["rests","columnsums","bounds","column"] []
 Fh:d4 K "rests_behind" "rests_behind" jp a.Be a.Bf
 Fi:mg "rests_behind"=on (.ref a.Be)
 Fj:aC K a.Bf ["rests","counts"] []
 Fk:d4 K "nodes_by_level" "nodes_by_level" ic a.Bh a.Bi
 Fl:mg "nodes_by_level"=on (.ref a.Bh)
 Fm:aC K a.Bi ["rowsums","columnsums","bounds"] []
 Fn:d4 K "node_counts" "node_counts" kx a.Bj a.Bk
 Fo:mg "node_counts"=on (.ref a.Bj)
 Fp:aC K a.Bk ["rests","filled","behind"] []
 Fq:d4 K "counted_nodes" "counted_nodes" iK a.Bl a.Bm
 Fs:mg "counted_nodes"=on (.ref a.Bl)
 Ft:aC K a.Bm ["rowsums","columnsums","bounds"] []
 Fu:d4 K "_law_bag" "_law_bag" vf a.Bn a.Bo
 Fv:mg "_law_bag"=on (.ref a.Bn)
 Fw:aC K a.Bo ["_law_script"] []
 Fy:d4 K "_law_pull" "_law_pull" sZ a.Bp a.Bq
 Fz:mg "_law_pull"=on (.ref a.Bp)
 F4:aC K a.Bq ["_law_bag_here","_law_lot"] []
 F5:d4 K "_law_same" "_law_same" sY a.Br a.Bs
 F6:mg "_law_same"=on (.ref a.Br)
 F7:aC K a.Bs ["_law_found","_law_due"] []
 F8:d4 K "_law_grid" "_law_grid" tj a.Bt a.Bu
 F9:mg "_law_grid"=on (.ref a.Bt)
 Ga:aC K a.Bu ["_law_bag_here","_law_block","_law_columns","_law_things"] []
 Gb:d4 K "_law_small" "_law_small" qP a.Bv a.Bw
 Gc:mg "_law_small"=on (.ref a.Bv)
 Gd:aC K a.Bw ["_law_bag_here"] []
 Ge:d4 K "_law_turned" "_law_turned" oN a.Bx a.By
 Gf:mg "_law_turned"=on (.ref a.Bx)
 Gg:aC K a.By ["_law_block"] []
 Gh:d4 K "_law_rowsums" "_law_rowsums" mY a.Bz a.B0
 Gi:mg "_law_rowsums"=on (.ref a.Bz)
 Gj:aC K a.B0 ["_law_grid_here"] []
 Gk:d4 K "_law_columnsums" "_law_columnsums" jq a.B4 a.B5
 Gm:mg "_law_columnsums"=on (.ref a.B4)
 Gn:aC K a.B5 ["_law_grid_here"] []
 Go:d4 K "_law_free" "_law_free" tq a.B7 a.B8
 Gp:mg "_law_free"=on (.ref a.B7)
 Gq:aC K a.B8 ["_law_block","_law_columns"] []
 Gr:d4 K "_law_bounds" "_law_bounds" oP a.Ca a.Cb
 Gs:mg "_law_bounds"=on (.ref a.Ca)
 Gu:aC K a.Cb ["_law_bag_here","_law_grid_here"] []
 Gv:d4 K "_law_copied" "_law_copied" oO a.Cc a.Cd
 Gx:mg "_law_copied"=on (.ref a.Cc)
 Gy:aC K a.Cd ["_law_block"] []
 Gz:d4 K "_law_fit" "_law_fit" vd a.Cf a.Cg
 G0:mg "_law_fit"=on (.ref a.Cf)
 G1:aC K a.Cg ["_law_rests","_law_lot","_law_pairs"] []
 G2:d4 K "_law_less" "_law_less" s0 a.Ch a.Ci
 G3:mg "_law_less"=on (.ref a.Ch)
 G4:aC K a.Ci ["_law_rests","_law_column"] []
 G5:d4 K "_law_listing" "_law_listing" mZ a.Cj a.Ck
 G6:mg "_law_listing"=on (.ref a.Cj)
 G7:aC K a.Ck ["_law_rowsums_here","_law_columnsums_here","_law_limits"] []
 G8:d4 K "_law_factorial" "_law_factorial" kz a.Cl a.Cm
 G9:mg "_law_factorial"=on (.ref a.Cl)
 Ha:aC K a.Cm ["_law_lot"] []
 Hb:d4 K "_law_ways" "_law_ways" sX a.Cn a.Co
 Hc:mg "_law_ways"=on (.ref a.Cn)
 Hd:aC K a.Co ["_law_parts"] []
 He:d4 K "_law_weight" "_law_weight" oM a.Cp a.Cq
 Hf:mg "_law_weight"=on (.ref a.Cp)
 Hg:aC K a.Cq ["_law_columns"] []
 Hh:d4 K "_law_net" "_law_net" vb a.Cr a.Cs
 Hi:mg "_law_net"=on (.ref a.Cr)
 Hj:aC K a.Cs ["_law_grid_here","_law_limits"] []
 Hk:d4 K "_law_nodes" "_law_nodes" qQ a.Ct a.Cu
 Hl:mg "_law_nodes"=on (.ref a.Ct)
 Hm:aC K a.Cu ["_law_rowsums_here","_law_columnsums_here","_law_limits"] []
 Hn:d4 K "__init__" "Net.__init__" jr a.Cv a.Cw
 Ho:Mk K a.Ae a.Cv
 Hq:C_ K a.Cw ["self","rowsums","columnsums","bounds"] ["bounds"] 3 [.kw 0]
 Hr:d4 K "steps" "Net.steps" m5 a.Cy a.Cz
 Ht:o_ K a.Ae "steps" a.Cy
 Hu:aC K a.Cz ["self","level","rests"] []
 Hv:d4 K "counts_at" "Net.counts_at" iM a.C0 a.C2
 Hw:o_ K a.Ae "counts_at" a.C0
 Hx:aC K a.C2 ["self","level","rests"] []
 Hy:d4 K "tables" "Net.tables" kR a.C3 a.C4
 Hz:o_ K a.Ae "tables" a.C3
 Ia:aC K a.C4 ["self"] []
 Ib:q9 K a.Ae
 Id:mg "Net"=on (.ref a.Ae)
 Ie:dJ K a.Ae "column_list"
 Ig:dJ K a.Ae "counted"
 Ih:dJ K a.Ae "pairs"
 Ii:dJ K a.Ae "row_list"
 Ij:d4 K "__init__" "EdgeError.__init__" sM a.Ab a.Ac
 Ik:aC K a.Ac ["self","word","why"] []
 Il:mg "EdgeError"=on (.ref a.Aa)
 Im:YY K a.Aa "__init__" a.Ab
section
variable(P:Pf)(w:Po){K:OX}{mg:Pn->Option Oy}(base:P5){a:Ad}
theorem iI:cp ["_law_bag_here","_law_lot","_law_cells","_law_at","_law_cell"] ["_law_bag_here","_law_lot"] (af sZ):=hL
theorem yX(N:wh K mg a):e_ P w K mg base (hE P w) 2 a.Bp a.Bq ["_law_bag_here","_law_lot"] (D_ K 2 jZ):=by
 refine N.Fy.ok (k:=1) iI (λvs H Q E h=>h.1) (λY A outer s H vs Q E hr h=>?_);obtain⟨_,F,ds,β,fr,hd,r,Z,e,k⟩:=h;obtain⟨lot,rfl,ok,I,h1,rfl,rfl⟩:=zh e;obtain⟨v,w',rfl,d1,d2⟩:=bb.two hd;unfold c_ at d1;obtain⟨b,l,d,rfl⟩:=d1;cases d2.int;obtain⟨t,J⟩:=fr.bag b l d;obtain⟨ab,al,m⟩:=fr.bgA b l d;obtain⟨W,L,hc0,X⟩:=ok.at;obtain⟨_,_,hcp,_⟩:=vj ok I;have len:((β.cells.map V.int).length:Int)=(β.cells.length:Int):=by rw[Ol]
 have O:ot (β.cells.map V.int) (β.pos:Int)=on (.int β.cell):=J5 (by rw[Ox,L];rfl);refine⟨_,cr (oZ (i:=2) iI.nd rfl (Q1 rfl) (fE dj (pv 0) bN (λ_ _=>rfl)))
  (cr (oZ (i:=3) iI.nd rfl (Q1 rfl) (dC k7 (fE dj (pv 0) bN (λ_ _=>rfl)) (jR lO (by rfl) N.Df PySem.boot_len (eA (pv 2) ik))))
  (cr (oZ (i:=4) iI.nd rfl (Q1 rfl) (fE dj (pv 2) (pv 3) (λ_ _=>rfl)))
  (cr (wO (vn HN (pv 4) (dC Lc bN bN) (tU _))
   (cr (fA (dC vD (pv 4) (pv 1)) (ij (pv 2) (pv 3) fS)) (gW (aw (dC k7 (pv 4) (pv 1))))) mq)
  (cr (fA (dC o4 (fE dj (pv 0) bN (λ_ _=>rfl)) bN) (ij (pv 0) bN fS))
  (cr (fA (dC k7 (dC Le (dC o4 (dC o4 (fE dj (pv 0) bN (λ_ _=>rfl)) (dC k7 (pv 4) bN)) bN) bN) bN) (ij (pv 0) bN fS))
  (gW (aw (dC k7 (dC vD (fE dj (pv 0) bN (λ_ _=>rfl)) bN) (pv 1))))))))),?_⟩
 refine⟨_,rfl,b,_,_,_,rfl,rfl,fx.of t,rfl,?_⟩;refine⟨_,rfl,b,_,_,_,rfl,rfl,fx.of t,rfl,_,rfl,l,_,rfl,.inl (fx.of J),_,_,rfl,rfl,?_,?_⟩
 .have:=W
  rw[len];omega
 refine⟨_,rfl,_,rfl,l,_,_,_,rfl,rfl,fx.of J,by rw[len,X];exact O,?_⟩;refine⟨_,rfl,_,_,rfl,rfl,⟨by decide,by decide,by decide⟩,_,_,rfl,rfl,_,rfl,?_⟩;have occ:∀{R:Hp} {p:Ou} {o:HO},(∀c,F.A c->R c≠Om)->∀c,F.A c->upd R p o c≠Om:=λ{R p o} f c u z=>by
  by_cases q:c=p
  .subst q;rw[aj]at z;cases z
  .rw[bt q]at z;exact f c u z
 refine ZY (λg=>?_) (λg=>?_)
 .have Yx:(10:Int)^18<=β.cell:=PU g
  refine⟨_,rfl,_,rfl,_,_,rfl,rfl,⟨I,h1⟩,_,rfl,_,rfl,l,_,_,β.pos,rfl,rfl,J,?_,?_⟩
  .rw[len,X,Ol]
   exact JL W
  refine⟨_,rfl,_,rfl,_,_,rfl,rfl,I,?_⟩;have T:iP β lot=β.cell % lot:=OE Yx;have U:jQ β lot=⟨β.cells.set β.pos (β.cell/lot),β.i,β.j⟩:=OE Yx;rw[T,U]at k;refine k _ _ ⟨λc o u n=>by rw[bt (n b l d).2];exact u,occ fr.occ,fr.bgA,λb' l' y=>?_⟩ rfl;rw[d]at y;cases y;exact⟨by rw[bt m];exact t,by rw[aj,Tz]⟩
 .have Yx:¬(10:Int)^18<=β.cell:=λq=>g (OO q)
  refine⟨_,rfl,b,_,_,_,rfl,rfl,fx.of t,rfl,_,_,rfl,rfl,_,rfl,b,_,_,1,rfl,rfl,t,rfl,?_⟩;have B:(upd H b (.lst [.ref l,.int (β.i+1),.int β.j])) b=on (.lst [.ref l,.int (β.i+1),.int β.j]):=aj;refine⟨_,rfl,b,_,_,_,rfl,rfl,fx.of B,rfl,_,rfl,_,_,rfl,rfl,(by show(0:Int)<2147483629;decide),_,_,rfl,rfl,_,_,rfl,rfl,_,_,rfl,rfl,.inr ⟨by decide,by decide⟩,_,_,rfl,rfl,(by show(0:Int)<2147483629;decide),_,rfl,b,_,_,2,rfl,rfl,B,rfl,?_⟩;have C:(upd (upd H b (.lst [.ref l,.int (β.i+1),.int β.j])) b (.lst [.ref l,.int (β.i+1),.int β.nxt])) b=on (.lst [.ref l,.int (β.i+1),.int β.nxt]):=aj;refine⟨_,rfl,b,_,_,_,rfl,rfl,fx.of C,rfl,_,_,rfl,rfl,⟨by decide,by decide⟩,_,rfl,_,_,rfl,rfl,I,?_⟩;have T:iP β lot=β.nxt/64 % lot:=OC Yx;have U:jQ β lot=⟨β.cells,β.i+1,β.nxt⟩:=OC Yx;rw[T,U]at k;refine k _ _ ⟨λc o u n=>by rw[bt (n b l d).1,bt (n b l d).1];exact u,occ (occ fr.occ),fr.bgA,λb' l' y=>?_⟩ rfl;rw[d]at y;cases y;exact⟨C,by rw[bt m.symm,bt m.symm];exact J⟩
theorem BL:cp ["_law_script"] ["_law_script"] (af vf):=hL
theorem nd1:(["_law_cell"]:List Pn).Nodup:=by decide +kernel
theorem CB(N:wh K mg a):e_ P w K mg base (hE P w) 1 a.Bn a.Bo ["_law_script"] (Nq K):=by
 refine N.Fu.ok BL (λvs H Q E h=>?_) (λX A outer s H vs Q E hr h=>?_)
 .obtain⟨a,ns,rfl,_⟩:=h
  rfl
 .obtain⟨a,ns,rfl,Y,k⟩:=h
  refine⟨_,gW (aw (dT (eA (dC Lg (mr rfl (dq:=["_law_cell"]) (dr.plain rfl (by decide +kernel) (by decide +kernel)) (Jo (nM u9 (pv 0) vq (vp bN)))
   (λcl C fp s H=>⟨vx (i:=0) nd1 rfl (Q1 rfl),tM,λD=>aD rfl (jR DX (by rfl) N.C8 PyProof.Rows.Boot.«abs» (eA (pv 0) ik)) rfl⟩)) (dT (eA bN ik))) (eA bN (eA bN ik))))),?_⟩
  obtain⟨q,I,Z⟩:=Og ns;refine⟨_,rfl,63,rfl,a,_,rfl,Y,λp hp=>?_⟩;rw[I];have L:bJ H (upd H p (.lst (q.map V.int))):=bJ.upd hp;refine⟨p,rfl,⟨_,fx.of aj⟩,λD B=>?_⟩;have r:D≠p:=λz=>by subst z;rw[aj]at B;cases B
  refine xG (xs:=q.map V.int) (λi F g=>∃cs:List Int,(∃v,F=[v])/\cs.length=i/\(∀c∈cs,0<=c)/\g D=on (.lst (cs.map V.int))/\g p=on (.lst (q.map V.int))/\bJ H g) ⟨[],⟨_,rfl⟩,rfl,(λ_ h=>nomatch h),aj,by rw[bt r.symm,aj],L.trans (bJ.upd B)⟩
   (λi F g _ ⟨_,_,_,_,_,e,_⟩=>fx.of e) ?_ ?_
  .rintro i x F g n ⟨cs,⟨v,rfl⟩,l,m,d,t,u⟩
   have hil:i<q.length:=by have:=(OI.mp n).1;rwa[Ol]at this
   obtain⟨z,rfl⟩:∃z,x=V.int z:=by
    rw[Ox]at n;cases e:q[i]? with
    |none=>rw[e]at n;cases n
    |some z=>rw[e]at n;exact⟨z,(Pb n).symm⟩
   unfold dE Kl;refine ZX ?_;refine⟨_,rfl,_,rfl,cs.map V.int,d,by rw[Ol];exact qL (by omega),cs++[if z<0 then -z else z],⟨_,rfl⟩,by rw[OQ,l];rfl,λc hc=>?_,by rw[aj,Pg];rfl,by rw[bt r.symm];exact t,λb o e=>?_⟩
   .rcases Qd.mp hc with hc|hc
    .exact m c hc
    .obtain rfl:c=_:=by simpa using hc
     split<;>omega
   .rw[bt (ay e (L.free B))]
    exact u b o e
  .rintro F g ⟨cs,⟨v,rfl⟩,l,m,d,t,u⟩
   rw[Ol]at l;refine⟨by decide,λO j=>⟨D,O,_,_,rfl,rfl,by rw[bt (ay d j)];exact d,aj,by rw[Ol];exact TF (qL (by simp;omega)),λR y=>⟨(by show 3<=OV;decide),λT f=>?_⟩⟩⟩;have U:bJ g (upd g O (.lst [V.int 1])):=bJ.upd j;have W:=U.trans (bJ.upd (o:= .lst (cs.map V.int++[V.int 1])) y);have J:R≠T:=λz=>by subst z;rw[aj]at f;cases f
   refine k T R _ ((u.trans W).free f) ((u.trans U).free y) ⟨cs++[1],0,0,aj,by rw[bt J,aj,Pg];rfl,by simp,by rw[OQ];simp;omega,λc hc=>?_,by decide⟩ ((u.trans W).trans (bJ.upd f));rcases Qd.mp hc with hc|hc
   .exact m c hc
   .obtain rfl:c=1:=by simpa using hc
    decide
theorem iU(N:wh K mg a):FB P w K mg base 2 "_law_pull" a.Bp a.Bq ["_law_bag_here","_law_lot"] 2 jZ:=⟨yX P w base N,N.Fz,N.Fy.kp,N.F4⟩
abbrev QF(K:OX)(a:Ad)(k:Nat)(x:Pn)(f:Ou)(d:O8)(ps:List Pn)(n:Nat):={m:List D->M D//∀(P:Pf) (w:Po) {mg:Pn->Option Oy} (base:P5) (N:wh K mg a),FB P w K mg base k x f d ps n m}
abbrev QM(K:OX)(a:Ad)(k:Nat)(f:Ou)(d:O8)(ps:List Pn)(n:Nat):={m:List D->M D//∀(P:Pf) (w:Po) {mg:Pn->Option Oy} (base:P5) (N:wh K mg a),e_ P w K mg base (hE P w) k f d ps (D_ K n m)}
theorem Jf:cp ["rows","columns","pair"] ["rows","columns","pair"] (af yv):=hL
def KU(K:OX)(a:Ad):QM K a 2 a.Af a.Ag ["rows","columns","pair"] 3:=⟨_,λP w mg base N=>by
 exact bq (k:=1) 3 3 _ N.Dx Jf rfl rfl λb A outer s H E d=>ai (aK (aw (bf rfl (hY ["row","pair","columns"] ["row"] [2,1]) (cw (by rfl) N.Dj (d5 (vv 0))) (λcl C c s H=>⟨(ee 0 f_),aL,λD=>aD rfl (bf rfl (hY ["column","pair"] ["column"] [1]) (cw (by rfl) N.Dj (d5 (vv 2))) (λcl C c s H=>⟨(ee 0 f_),aL,λD=>aD rfl (vv 1) rfl⟩) am ar (λD=>aJ)) rfl⟩) am ar (λD=>aJ))))⟩
theorem rC:cp ["rowsums","columnsums"] ["rowsums","columnsums"] (af kP):=hL
def ig(K:OX)(a:Ad):QF K a 2 "check_sums" a.Ah a.Ai ["rowsums","columnsums"] 2:=⟨_,λP w mg base N=>⟨by
 exact bq (k:=1) 2 2 _ N.D0 rC rfl rfl λb A outer s H E c=>ac (bU (oA (u3 jW jW nU nU (ao) (cz N.Df (d5 (vv 0))) (kF N.Dv))) (ai (dL)) (bv))
   (ac (bU (oA (u3 jW jW nU nU (ao) (cz N.Df (d5 (vv 1))) (kF N.Du))) (ai (dL)) (bv))
   (ac (bU (jj (sF (ma (bG (lP rfl) xh (by rfl) N.C9 PyProof.Rows.Boot.«any» (d5 (bf rfl (hY ["many"] ["many"] []) (aR (vv 0)) (λcl C d s H=>⟨(ee 0 f_),aL,λD=>aD rfl (l8 my qp (vv 0) (ao)) rfl⟩) am ar (λD=>aJ))))) (oq (ma (bG (lP rfl) xh (by rfl) N.C9 PyProof.Rows.Boot.«any» (d5 (bf rfl (hY ["many"] ["many"] []) (aR (vv 1)) (λcl C d s H=>⟨(ee 0 f_),aL,λD=>aD rfl (l8 my qp (vv 0) (ao)) rfl⟩) am ar (λD=>aJ)))))))) (ai (dL)) (bv))
   (ac (bU (bn (gj c) iS (fi N.Dp (d5 (vv 0))) (fi N.Dp (d5 (vv 1)))) (ai (dL)) (bv))
   (ai (bU (bn rO xg (fi N.Dp (d5 (vv 0))) (kF N.Dt)) (ai (dL)) (bv)))))),N.D3,N.D0.kp,N.D4⟩⟩
theorem gB:cp ["pair","low","high"] ["pair"] (af kQ):=hL
def ii(K:OX)(a:Ad):QF K a 2 "check_pair" a.Aj a.Ak ["pair"] 1:=⟨_,λP w mg base N=>⟨by
 exact bq (k:=1) 1 3 _ N.D5 gB rfl rfl λb A outer s H E c=>ac (HF (gn (bE aE (bE aE e9)) (bD (bD dR))) (fA (vv 0) (bM rfl (ax (ee 1 gB.nd) (ax (ee 2 gB.nd) br)))))
   (ai (bU (oA (AZ jW jW jW nU nU nU (ao) (vv 1) (vv 2) (kF N.Dt))) (ai (dL)) (bv))),N.D6,N.D5.kp,N.D7⟩⟩
theorem eG:cp ["bounds","rows","columns","pairs","pair"] ["bounds","rows","columns"] (af ib):=hL
def cJ(K:OX)(a:Ad):QF K a 3 "settled_bounds" a.Al a.Am ["bounds","rows","columns"] 3:=⟨_,λP w mg base N=>⟨by
 have c:=(KU K a).2 P w base N;have b:=(ii K a).2 P w base N
 exact bq (k:=2) 3 5 _ N.D8 eG rfl rfl λf A outer s H E d=>ac (bU (bn tR xf (vv 0) (wq)) (ai (aK (aw (IO c (d.mono (by decide)) (by rfl) N.Dy N.Dx.kp N.Dz f9 (ej (vv 1) (vv 2)) (λδ β r e h=>by rw[(aS (aS y3)) δ β r e h];rfl))))) (bv))
   (ac (bU (jj (sF (bn (gj d) iS (cz N.Df (d5 (vv 0))) (vv 1)) (oq (ma (bG (lP rfl) xh (by rfl) N.C9 PyProof.Rows.Boot.«any» (d5 (bf rfl (hY ["pairs","columns"] ["pairs"] [2]) (aR (vv 0)) (λcl C g s H=>⟨(ee 0 f_),aL,λD=>aD rfl (l8 (gj d) iS (cz N.Df (d5 (vv 0))) (vv 1)) rfl⟩) am ar (λD=>aJ)))))))) (ai (dL)) (bv))
   (ac (bA aE (bj bV rfl (aR (vv 0)) (ee 3 eG.nd) (ai (bA aE (bj bV rfl (aR (vv 3)) (ee 4 eG.nd) (ai (oR (dh (vc b d (d5 (vv 4)))))))))))
   (ai (aK (aw (bf rfl (hY ["pairs"] ["pairs"] []) (aR (vv 0)) (λcl C g s H=>⟨(ee 0 f_),aL,λD=>aD rfl (cm dZ ly (by rfl) N.Dg PyProof.Rows.Boot.«list» (d5 (vv 0))) rfl⟩) am ar (λD=>aJ))))))),N.D9,N.D8.kp,N.Ea⟩⟩
theorem ft:cp ["number","product","factor"] ["number"] (af m3):=hL
def i9(K:OX)(a:Ad):QF K a 2 "factorial" a.An a.Ao ["number"] 1:=⟨_,λP w mg base N=>⟨by
 exact bq (k:=1) 1 3 _ N.Eb ft rfl rfl λb A outer s H E c=>ac (aG (fy 1 ft.nd (ao)))
   (ac (bA aE (bj bV rfl (j7 (by rfl) N.Dj (ej (ao) (bc aQ bQ (vv 0) (ao)))) (ee 2 ft.nd) (ai (oS vL (kZ (i:=1) ft.nd rfl (by first|exact Q1 rfl|exact Sj rfl) (vv 2) vP)))))
   (ai (aK (aw (vv 1))))),N.Ec,N.Eb.kp,N.Ed⟩⟩
theorem jl:cp ["parts","part","told"] ["parts"] (af yt):=hL
def tK(K:OX)(a:Ad):QF K a 3 "ways" a.Aq a.Ar ["parts"] 1:=⟨_,λP w mg base N=>⟨by
 have b:=(i9 K a).2 P w base N
 exact bq (k:=2) 1 3 _ N.Ee jl rfl rfl λd A outer s H E c=>ac (bA aE (bj bV rfl (aR (vv 0)) (ee 1 jl.nd) (ai (bU (bn my qp (vv 1) (ao)) (ai (dL)) (bv)))))
   (ac (aG (fy 2 jl.nd (vc b c (d5 (bG (z6 rfl) Lx (by rfl) N.Dp PyProof.Rows.Boot.«sum» (d5 (vv 0)))))))
   (ac (bA aE (bj bV rfl (aR (vv 0)) (ee 1 jl.nd) (ai (oS CZ (kZ (i:=2) jl.nd rfl (by first|exact Q1 rfl|exact Sj rfl) (vc b c (d5 (vv 1))) JN)))))
   (ai (aK (aw (vv 2)))))),N.Ef,N.Ee.kp,N.Eg⟩⟩
theorem cB:cp ["rests","many","pairs","lows","tops","begun","row","fewest_behind","most_behind"] ["rests","many","pairs"] (af oQ):=hL
def jP(K:OX)(a:Ad):QF K a 2 "fillings" a.As a.At ["rests","many","pairs"] 3:=⟨_,λP w mg base N=>⟨by
 exact bq (k:=1) 3 9 _ N.Eh cB rfl rfl λc A outer s H E d=>ac (aG (fy 3 cB.nd (bf rfl (hY ["low","high"] ["low","high"] []) (aR (vv 2)) (λcl C b s H=>⟨(bM rfl (ax (ee 0 f_) (ax (ee 1 f_) br))),aL,λD=>aD rfl (vv 0) rfl⟩) (dI (aW am (aW am cW)) (aU (aU cq))) (dH (aV ar (aV ar cS))) (λD=>aJ))))
   (ac (aG (fy 4 cB.nd (bf rfl (hY ["rest","low","high"] ["rest","low","high"] []) (pF (by rfl) N.Dr (ej (vv 0) (vv 2))) (λcl C b s H=>⟨(bM rfl (ax (ee 0 f_) (ax (bM rfl (ax (ee 1 f_) (ax (ee 2 f_) br))) br))),aL,λD=>aD rfl (bG (gv rfl) ph (by rfl) N.Di PyProof.Rows.Boot.«min» (ej (vv 0) (vv 2))) rfl⟩) (dI (aW am (aW (dI (aW am (aW am cW)) (aU (aU cq))) cW)) (aU (aU cq))) (dH (aV ar (aV (dH (aV ar (aV ar cS))) cS))) (λD=>aJ))))
   (ac (aG (fy 5 cB.nd (eU (d5 (cg (ej (cg (ff)) (vv 1)))))))
   (ac (bA aE (bj bV rfl (cw (by rfl) N.Dj (d5 (cz N.Df (d5 (vv 0))))) (ee 6 cB.nd) (ac (aG (fy 7 cB.nd (fi N.Dp (d5 (l6 (vv 3) (k8 (bc aQ bQ (vv 6) (ao))) (k9))))))
   (ac (aG (fy 8 cB.nd (fi N.Dp (d5 (l6 (vv 4) (k8 (bc aQ bQ (vv 6) (ao))) (k9))))))
   (ai (sW (i:=5) cB.nd rfl (by first|exact Q1 rfl|exact Sj rfl) rfl (hY ["counts","left","count","lows","row","most_behind","tops","fewest_behind"] ["counts","left","count"] [3,6,8,4,7]) (aR (vv 5)) (λcl C b s H=>⟨(bM rfl (ax (ee 0 f_) (ax (ee 1 f_) br))),aL,λD=>qh rfl rfl rfl (j7 (by rfl) N.Dj (ej (bG (lN rfl) xb (by rfl) N.Dh PyProof.Rows.Boot.«max» (ej (bC aM bH (vv 3) (vv 4)) (bc fF gT (vv 1) (vv 5)))) (bc aQ bQ (bG (gv rfl) ph (by rfl) N.Di PyProof.Rows.Boot.«min» (ej (bC aM bH (vv 6) (vv 4)) (bc fF gT (vv 1) (vv 7)))) (ao)))) (ee 2 f_) (aL) (aD rfl (cg (ej (bc aQ bQ (vv 0) (cg (d5 (vv 2)))) (bc fF gT (vv 1) (vv 2)))) rfl)⟩) (dI (aW am (aW am cW)) (aU (aU cq))) (dH (aV ar (aV ar cS))) (λD=>JI am ar (aJ))))))))
   (ai (aK (aw (bf rfl (hY ["counts","left"] ["counts","left"] []) (aR (vv 5)) (λcl C b s H=>⟨(bM rfl (ax (ee 0 f_) (ax (ee 1 f_) br))),pK (bn (dU d) fJ (vv 1) (ao)),λD=>aD rfl (vv 0) rfl⟩) (dI (aW am (aW am cW)) (aU (aU cq))) (dH (aV ar (aV ar cS))) (λD=>aJ)))))))),N.Ei,N.Eh.kp,N.Ej⟩⟩
theorem wH:cp ["rowsums","over"] ["rowsums","over"] (af qO):=hL
def kU(K:OX)(a:Ad):QF K a 2 "need_of" a.Au a.Av ["rowsums","over"] 2:=⟨_,λP w mg base N=>⟨by
 exact bq (k:=1) 2 2 _ N.Ek wH rfl rfl λb A outer s H E c=>ai (aK (aw (fi N.Dp (d5 (bf rfl (hY ["row","rowsums"] ["row"] [0]) (aR (vv 1)) (λcl C d s H=>⟨(ee 0 f_),aL,λD=>aD rfl (bC aM bH (vv 1) (vv 0)) rfl⟩) am ar (λD=>aJ)))))),N.El,N.Ek.kp,N.Em⟩⟩
theorem jo:cp ["columnsums","bounds","over","column","lows"] ["columnsums","bounds","over","column"] (af kt):=hL
def cT(K:OX)(a:Ad):QF K a 2 "room_inside" a.Aw a.Ax ["columnsums","bounds","over","column"] 4:=⟨_,λP w mg base N=>⟨by
 exact bq (k:=1) 4 5 _ N.En jo rfl rfl λb A outer s H E c=>ac (sW (i:=4) jo.nd rfl (by first|exact Q1 rfl|exact Sj rfl) rfl (hY ["row","pairs","over","column"] ["row","pairs"] [2,3]) (jx (by rfl) N.Db (d5 (vv 1))) (λcl C d s H=>⟨(bM rfl (ax (ee 0 f_) (ax (ee 1 f_) br))),pK (bn k6 (DA (neg:=Oq)) (vv 0) (vv 2)),λD=>aD rfl (bC aM bH (bC aM bH (vv 1) (vv 3)) (ao)) rfl⟩) (dI (aW am (aW am cW)) (aU (aU cq))) (dH (aV ar (aV ar cS))) (λD=>aJ))
   (ai (aK (aw (bc fF gT (bC aM bH (vv 0) (vv 3)) (fi N.Dp (d5 (vv 4))))))),N.Eo,N.En.kp,N.Ep⟩⟩
theorem qc:cp ["bounds","over","column"] ["bounds","over","column"] (af ku):=hL
def cU(K:OX)(a:Ad):QF K a 2 "room_beside" a.Ay a.Az ["bounds","over","column"] 3:=⟨_,λP w mg base N=>⟨by
 exact bq (k:=1) 3 3 _ N.Er qc rfl rfl λb A outer s H E c=>ai (aK (aw (fi N.Dp (d5 (bf rfl (hY ["row","bounds","column"] ["row"] [0,2]) (aR (vv 1)) (λcl C d s H=>⟨(ee 0 f_),aL,λD=>aD rfl (bC aM bH (bC aM bH (bC aM bH (vv 1) (vv 0)) (vv 2)) (ao)) rfl⟩) am ar (λD=>aJ)))))),N.Es,N.Er.kp,N.Et⟩⟩
theorem wG:cp ["columnsums","bounds","over","into"] ["columnsums","bounds","over","into"] (af qN):=hL
def kT(K:OX)(a:Ad):QF K a 3 "room_of" a.A0 a.A1 ["columnsums","bounds","over","into"] 4:=⟨_,λP w mg base N=>⟨by
 have b:=(cT K a).2 P w base N;have c:=(cU K a).2 P w base N;exact bq (k:=2) 4 4 _ N.Eu wG rfl rfl λe A outer s H E d=>ai (aK (aw (fi N.Dp (d5 (bf rfl (hY ["column","into","columnsums","bounds","over"] ["column"] [3,0,1,2]) (cw (by rfl) N.Dj (d5 (cz N.Df (d5 (vv 0))))) (λcl C f s H=>⟨(ee 0 f_),aL,λD=>aD rfl (Zs (bn yU (DA (neg:=Ov)) (vv 0) (vv 1)) (vc b d (D2 (vv 2) (vv 3) (vv 4) (vv 0))) (vc c d (q_ (vv 3) (vv 4) (vv 0)))) rfl⟩) am ar (λD=>aJ)))))),N.Ev,N.Eu.kp,N.Ew⟩⟩
theorem sS:cp ["columnsums","bounds","over"] ["columnsums","bounds","over"] (af mX):=hL
def i6(K:OX)(a:Ad):QF K a 3 "narrowest" a.A2 a.A3 ["columnsums","bounds","over"] 3:=⟨_,λP w mg base N=>⟨by
 have b:=(cT K a).2 P w base N;have c:=(cU K a).2 P w base N;exact bq (k:=2) 3 3 _ N.Ex sS rfl rfl λe A outer s H E d=>ai (aK (aw (bf rfl (hY ["column","columnsums","bounds","over"] ["column"] [0,1,2]) (cw (by rfl) N.Dj (d5 (cz N.Df (d5 (vv 0))))) (λcl C f s H=>⟨(ee 0 f_),pK (bn my qp (vc b d (D2 (vv 1) (vv 2) (vv 3) (vv 0))) (vc c d (q_ (vv 2) (vv 3) (vv 0)))),λD=>aD rfl (vv 0) rfl⟩) am ar (λD=>aJ)))),N.Ey,N.Ex.kp,N.Ez⟩⟩
theorem gM:cp ["many","told","number"] ["many"] (af qR):=hL
def kX(K:OX)(a:Ad):QF K a 2 "choices" a.A4 a.A5 ["many"] 1:=⟨_,λP w mg base N=>⟨by
 exact bq (k:=1) 1 3 _ N.E2 gM rfl rfl λb A outer s H E c=>ac (aG (fy 1 gM.nd (eU (d5 (eU (ff))))))
   (ac (bA aE (bj bV rfl (cw (by rfl) N.Dj (d5 (vv 0))) (ee 2 gM.nd) (ai (aG (fy 1 gM.nd (bc aQ bQ (vv 1) (bf rfl (hY ["chosen","number"] ["chosen"] [2]) (aR (vv 1)) (λcl C d s H=>⟨(ee 0 f_),aL,λD=>aD rfl (bc aQ bQ (vv 0) (eU (d5 (vv 1)))) rfl⟩) am ar (λD=>aJ))))))))
   (ai (aK (aw (vv 1))))),N.E3,N.E2.kp,N.E4⟩⟩
theorem ia:cp ["rowsums","columnsums","bounds","over","into"] ["rowsums","columnsums","bounds"] (af m4):=hL
def eM(K:OX)(a:Ad):QF K a 4 "check_fit" a.A6 a.A7 ["rowsums","columnsums","bounds"] 3:=⟨_,λP w mg base N=>⟨by
 have c:=(kX K a).2 P w base N;have b:=(i6 K a).2 P w base N;have d:=(kU K a).2 P w base N;have e:=(kT K a).2 P w base N
 exact bq (k:=3) 3 5 _ N.E5 ia rfl rfl λg A outer s H E f=>ai (bA aE (bj bV rfl (aR (vc c f (d5 (cz N.Df (d5 (vv 0)))))) (ee 3 ia.nd) (ac (aG (fy 4 ia.nd (vc b f (q_ (vv 1) (vv 2) (vv 3)))))
   (ai (bU (bn rO xg (vc d f (ej (vv 0) (vv 3))) (vc e f (D2 (vv 1) (vv 2) (vv 3) (vv 4)))) (ai (dL)) (bv)))))),N.E6,N.E5.kp,N.E7⟩⟩
theorem eW:cp ["rowsums","wide","many"] ["rowsums"] (af kO):=hL
def ie(K:OX)(a:Ad):QF K a 2 "check_wide" a.A8 a.A9 ["rowsums"] 1:=⟨_,λP w mg base N=>⟨by
 exact bq (k:=1) 1 3 _ N.E8 eW rfl rfl λb A outer s H E c=>ac (aG (fy 1 eW.nd (ao)))
   (ac (bA aE (bj bV rfl (aR (vv 0)) (ee 2 eW.nd) (ai (oS vL (kZ (i:=1) eW.nd rfl (by first|exact Q1 rfl|exact Sj rfl) (bc aQ bQ (vv 2) (ao)) vP)))))
   (ai (bU (bn rO xg (vv 1) (kF N.Dw)) (ai (dL)) (bv)))),N.E9,N.E8.kp,N.Fa⟩⟩
theorem gh:cp ["rowsums","columnsums","bounds","settled"] ["rowsums","columnsums","bounds"] (af gH):=hL
def da(K:OX)(a:Ad):QF K a 4 "settled_for_net" a.Ba a.Bb ["rowsums","columnsums","bounds"] 3:=⟨_,λP w mg base N=>⟨by
 have c:=(ig K a).2 P w base N;have b:=(cJ K a).2 P w base N;have d:=(ie K a).2 P w base N
 exact bq (k:=3) 3 4 _ N.Fb gh rfl rfl λf A outer s H E e=>ac (oR (dh (vc c e (ej (vv 0) (vv 1)))))
   (ac (aG (fy 3 gh.nd (vc b e (q_ (vv 2) (cz N.Df (d5 (vv 0))) (cz N.Df (d5 (vv 1)))))))
   (ac (oR (dh (vc d e (d5 (vv 0)))))
   (ai (aK (aw (vv 3)))))),N.Fc,N.Fb.kp,N.Fd⟩⟩
theorem kN:cp ["rests","columnsums","bounds","column"] ["rests","columnsums","bounds","column"] (af gJ):=hL
def bS(K:OX)(a:Ad):QF K a 3 "column_fillings" a.Bc a.Bd ["rests","columnsums","bounds","column"] 4:=⟨_,λP w mg base N=>⟨by
 have b:=(jP K a).2 P w base N;exact bq (k:=2) 4 4 _ N.Fe kN rfl rfl λc A outer s H E d=>ai (aK (aw (vc b d (q_ (vv 0) (bC aM bH (vv 1) (vv 3)) (bf rfl (hY ["pairs","column"] ["pairs"] [3]) (aR (vv 2)) (λcl C e s H=>⟨(ee 0 f_),aL,λD=>aD rfl (bC aM bH (vv 0) (vv 1)) rfl⟩) am ar (λD=>aJ)))))),N.Ff,N.Fe.kp,N.Fg⟩⟩
theorem oJ:cp ["rests","counts"] ["rests","counts"] (af jp):=hL
def de(K:OX)(a:Ad):QF K a 2 "rests_behind" a.Be a.Bf ["rests","counts"] 2:=⟨_,λP w mg base N=>⟨by
 exact bq (k:=1) 2 2 _ N.Fh oJ rfl rfl λb A outer s H E c=>ai (aK (aw (cm cx f6 (by rfl) N.Dq PyProof.Rows.Boot.«tuple» (d5 (bf rfl (hY ["rest","count"] ["rest","count"] []) (pF (by rfl) N.Dr (ej (vv 0) (vv 1))) (λcl C d s H=>⟨(bM rfl (ax (ee 0 f_) (ax (ee 1 f_) br))),aL,λD=>aD rfl (bc fF gT (vv 0) (vv 1)) rfl⟩) (dI (aW am (aW am cW)) (aU (aU cq))) (dH (aV ar (aV ar cS))) (λD=>aJ)))))),N.Fi,N.Fh.kp,N.Fj⟩⟩
theorem bR:cp ["rowsums","columnsums","bounds","here","told","column","behind"] ["rowsums","columnsums","bounds"] (af ic):=hL
def eZ(K:OX)(a:Ad):QF K a 4 "nodes_by_level" a.Bh a.Bi ["rowsums","columnsums","bounds"] 3:=⟨_,λP w mg base N=>⟨by
 have c:=(de K a).2 P w base N;have b:=(bS K a).2 P w base N
 exact bq (k:=3) 3 7 _ N.Fk bR rfl rfl λe A outer s H E d=>ac (aG (fy 3 bR.nd (eU (d5 (cm cx f6 (by rfl) N.Dq PyProof.Rows.Boot.«tuple» (d5 (vv 0)))))))
   (ac (ml (fy 4 bR.nd (dT (d5 (vv 3)))))
   (ac (bA aE (bj bV rfl (cw (by rfl) N.Dj (d5 (cz N.Df (d5 (vv 1))))) (ee 5 bR.nd) (ac (aG (fy 6 bR.nd (AU (by rfl) N.Dm rfl (hY ["rests","counts","columnsums","bounds","column"] ["rests","counts"] [1,2,5]) (aR (vv 3)) (λcl C f s H=>⟨(ee 0 f_),aL,λD=>qh rfl rfl rfl (aR (vc b d (D2 (vv 0) (vv 2) (vv 3) (vv 4)))) (ee 1 f_) (aL) (tQ (rW d) rfl (vc c d (ej (vv 0) (vv 1))) rfl)⟩) am ar (λD=>nQ am ar (CV)))))
   (ac (jL (dh (jS QD Qw Qx dW (pv 4) (d5 (vv 6)))))
   (ai (aG (fy 3 bR.nd (vv 6))))))))
   (ai (aK (aw (vv 4)))))),N.Fl,N.Fk.kp,N.Fm⟩⟩
theorem bL:cp ["rests","filled","behind","tables","dealings","counts","tables_behind","dealings_behind"] ["rests","filled","behind"] (af kx):=hL
def gD(K:OX)(a:Ad):QF K a 4 "node_counts" a.Bj a.Bk ["rests","filled","behind"] 3:=⟨_,λP w mg base N=>⟨by
 have b:=(de K a).2 P w base N;have c:=(tK K a).2 P w base N
 exact bq (k:=3) 3 8 _ N.Fn bL rfl rfl λe A outer s H E d=>ac (aG (fy 3 bL.nd (ao)))
   (ac (aG (fy 4 bL.nd (ao)))
   (ac (bA aE (bj bV rfl (aR (vv 1)) (ee 5 bL.nd) (ac (HF (gn (bE aE (bE aE e9)) (bD (bD dR))) (fA (bC (zE (Zc d)) NW (vv 2) (vc b d (ej (vv 0) (vv 5)))) (bM rfl (ax (ee 6 bL.nd) (ax (ee 7 bL.nd) br)))))
   (ac (oS vM (kZ (i:=3) bL.nd rfl (by first|exact Q1 rfl|exact Sj rfl) (vv 6) zJ))
   (ai (oS vM (kZ (i:=4) bL.nd rfl (by first|exact Q1 rfl|exact Sj rfl) (bc mx rR (vc c d (d5 (vv 5))) (vv 7)) zJ)))))))
   (ai (aK (aw (cg (ej (vv 3) (vv 4)))))))),N.Fo,N.Fn.kp,N.Fp⟩⟩
theorem bw:cp ["rowsums","columnsums","bounds","levels","last","here","told","level","behind"] ["rowsums","columnsums","bounds"] (af iK):=hL
def dO(K:OX)(a:Ad):QF K a 5 "counted_nodes" a.Bl a.Bm ["rowsums","columnsums","bounds"] 3:=⟨_,λP w mg base N=>⟨by
 have d:=(eZ K a).2 P w base N;have c:=(bS K a).2 P w base N;have e:=(gD K a).2 P w base N
 exact bq (k:=4) 3 9 _ N.Fq bw rfl rfl λh A outer s H E f=>ac (aG (fy 3 bw.nd (vc d f (q_ (vv 0) (vv 1) (vv 2)))))
   (ac (aG (fy 4 bw.nd (cz N.Df (d5 (vv 1)))))
   (ac (yu (kb:=Ov) (i:=5) bw.nd rfl (by first|exact Q1 rfl|exact Sj rfl) rfl (hY ["rests"] ["rests"] []) (aR (bC aM bH (vv 3) (vv 4))) (λcl C g s H=>⟨(ee 0 f_),aL,λD=>jT (b:=Ov) (rW f) rfl (vv 0) (cg (ej (ao) (ao))) rfl⟩) am ar (λD=>nR))
   (ac (ml (fy 6 bw.nd (dT (d5 (vv 5)))))
   (ac (bA aE (bj bV rfl (DH (by rfl) N.Dl (by rfl) N.Dj (d5 (vv 4))) (ee 7 bw.nd) (ac (aG (fy 8 bw.nd (vv 5)))
   (ac (yu (kb:=Ov) (i:=5) bw.nd rfl (by first|exact Q1 rfl|exact Sj rfl) rfl (hY ["rests","columnsums","bounds","level","behind"] ["rests"] [1,2,7,8]) (aR (bC aM bH (vv 3) (vv 7))) (λcl C g s H=>⟨(ee 0 f_),aL,λD=>jT (b:=Ov) (rW f) rfl (vv 0) (vc e f (q_ (vv 0) (vc c f (D2 (vv 0) (vv 1) (vv 2) (vv 3))) (vv 4))) rfl⟩) am ar (λD=>nR))
   (ai (jL (dh (jS QD Qw Qx dW (pv 6) (d5 (vv 5))))))))))
   (ai (aK (aw (IN (kb:=Oq) rfl (hY ["level","nodes","rests","counts"] ["level","nodes","rests","counts"] []) (jx (by rfl) N.Db (d5 (Nf (vv 6) (AT sG xa (ao))))) (λcl C g s H=>⟨(bM rfl (ax (ee 0 f_) (ax (ee 1 f_) br))),aL,λD=>qh rfl rfl rfl (JP (vv 1)) (bM rfl (ax (ee 2 f_) (ax (ee 3 f_) br))) (aL) (jT (b:=Oq) (rW f) rfl (cg (ej (vv 0) (vv 2))) (vv 3) rfl)⟩) (dI (aW am (aW am cW)) (aU (aU cq))) (dH (aV ar (aV ar cS))) (λD=>nQ (dI (aW am (aW am cW)) (aU (aU cq))) (dH (aV ar (aV ar cS))) (nR)))))))))),N.Fs,N.Fq.kp,N.Ft⟩⟩
theorem yp:cp ["_law_found","_law_due"] ["_law_found","_law_due"] (af sY):=hL
def f7(K:OX)(a:Ad)(b:List D->M D):G:=
  aN (y1 (uB (aP rT (ag (ah 1) (ag (aP fG (ag (fC (.ty "list")) (ag (fC (.ty "tuple")) (aF)))) (aF))))) (aN (y1 (lH (fB (f2 (jc) (aP iu (ag (ah 1) (ag (fC (.ty "list")) (aF)))) (aP iu (ag (ah 0) (ag (fC (.ty "list")) (aF)))))) (fB (f2 (jc) (aP iu (ag (ah 1) (ag (fC (.ty "tuple")) (aF)))) (aP iu (ag (ah 0) (ag (fC (.ty "tuple")) (aF))))))) (jd (fC (.bl Ov))) (gNil))
  (aN (y1 (fB (f2 (jc) (aP e8 (ag (ah 0) (aF))) (aP e8 (ag (ah 1) (aF))))) (jd (fC (.bl Ov))) (gNil))
  (jd (f2 (L4 Oq) (fC (.bl Ov)) (ci 2 [] (wV (ag (ah 0) (ag (ah 1) (aF)))) (O_ (eY (i4 0) (eY (i4 1) jJ))) (λ_=>M.ret Oq) (ln (eX b (ag (ah 0) (ag (ah 1) (aF)))))))))) (gNil))
  (aN (y1 (fB (f2 (xp) (ah 1) (fC .non))) (jd (f2 (xp) (ah 0) (fC .non))) (gNil))
  (aN (y1 (lH (fB (f2 (jc) (aP iu (ag (ah 1) (ag (fC (.ty "str")) (aF)))) (aP iu (ag (ah 0) (ag (fC (.ty "str")) (aF)))))) (fB (f2 (jc) (aP iu (ag (ah 1) (ag (fC (.ty "bool")) (aF)))) (aP iu (ag (ah 0) (ag (fC (.ty "bool")) (aF))))))) (jd (fC (.bl Ov))) (gNil))
  (jd (xD (aP rT (ag (ah 0) (ag (aP fG (ag (fC (.ty "int")) (ag (fC (.ty "str")) (aF)))) (aF)))) (f2 (nX) (ah 0) (ah 1))))))
def cu(K:OX)(a:Ad):Nat->List D->M D
 |0=>λ_=>M.fail
 |n+1=>fP 2 (f7 K a (cu K a n))
theorem o5(N:wh K mg a):∀n,e_ P w K mg base (hE P w) (n+1) a.Br a.Bs ["_law_found","_law_due"] (D_ K 2 (cu K a n))
 |0=>⟨λvs H Q E h=>h.1,λA outer s H args us vs Q E b g i r h=>by
  obtain⟨_,F,ds,β,_,_,j,β1,e,_⟩:=h;cases e⟩
 |n+1=>by
  have c:=o5 N n;unfold cu;exact bq (k:=n+1) 2 2 (f7 K a (cu K a n)) N.F5 yp rfl rfl λf A outer s H E b=>ac (bU (ma (bG pT zy (by rfl) N.Dd PyProof.Rows.Boot.«isinstance» (ej (vv 1) (cg (ej (ra (d:= .ty "list") (cV (v:= .ty "list") (by rfl) N.Dg PyProof.Rows.Boot.«list» rfl) (λ_ _=>rfl)) (ra (d:= .ty "tuple") (cV (v:= .ty "tuple") (by rfl) N.Dq PyProof.Rows.Boot.«tuple» rfl) (λ_ _=>rfl))))))) (ac (bU (jj (sF (bn (gj b) iS (kG N.Dd (ej (vv 1) (ra (d:= .ty "list") (cV (v:= .ty "list") (by rfl) N.Dg PyProof.Rows.Boot.«list» rfl) (λ_ _=>rfl)))) (kG N.Dd (ej (vv 0) (ra (d:= .ty "list") (cV (v:= .ty "list") (by rfl) N.Dg PyProof.Rows.Boot.«list» rfl) (λ_ _=>rfl))))) (oq (bn (gj b) iS (kG N.Dd (ej (vv 1) (ra (d:= .ty "tuple") (cV (v:= .ty "tuple") (by rfl) N.Dq PyProof.Rows.Boot.«tuple» rfl) (λ_ _=>rfl)))) (kG N.Dd (ej (vv 0) (ra (d:= .ty "tuple") (cV (v:= .ty "tuple") (by rfl) N.Dq PyProof.Rows.Boot.«tuple» rfl) (λ_ _=>rfl)))))))) (ai (aK (aw (ng)))) (bv))
   (ac (bU (bn (gj b) iS (cz N.Df (d5 (vv 0))) (cz N.Df (d5 (vv 1)))) (ai (aK (aw (ng)))) (bv))
   (ai (aK (aw (l8 k6 (DA (neg:=Oq)) (ng) (bf rfl (hY ["_law_one","_law_other"] ["_law_one","_law_other"] []) (pF (by rfl) N.Dr (ej (vv 0) (vv 1))) (λcl C l s H=>⟨(bM rfl (ax (ee 0 f_) (ax (ee 1 f_) br))),aL,λD=>aD rfl (xX c (b.mono (OG _)) (by rfl) N.F6 N.F5.kp N.F7 rN (ej (vv 0) (vv 1)) (aS (aS y3))) rfl⟩) (dI (aW am (aW am cW)) (aU (aU cq))) (dH (aV ar (aV ar cS))) (λD=>aJ)))))))) (bv))
   (ac (bU (bn tR xf (vv 1) (wq)) (ai (aK (aw (l8 tR xf (vv 0) (wq))))) (bv))
   (ac (bU (jj (sF (bn (gj b) iS (kG N.Dd (ej (vv 1) (ra (d:= .ty "str") (cV (v:= .ty "str") (by rfl) N.Do PyProof.Rows.Boot.«str» rfl) (λ_ _=>rfl)))) (kG N.Dd (ej (vv 0) (ra (d:= .ty "str") (cV (v:= .ty "str") (by rfl) N.Do PyProof.Rows.Boot.«str» rfl) (λ_ _=>rfl))))) (oq (bn (gj b) iS (kG N.Dd (ej (vv 1) (ra (d:= .ty "bool") (cV (v:= .ty "bool") (by rfl) N.Da PyProof.Rows.Boot.«bool» rfl) (λ_ _=>rfl)))) (kG N.Dd (ej (vv 0) (ra (d:= .ty "bool") (cV (v:= .ty "bool") (by rfl) N.Da PyProof.Rows.Boot.«bool» rfl) (λ_ _=>rfl)))))))) (ai (aK (aw (ng)))) (bv))
   (ai (aK (aw (GT (bG pT zy (by rfl) N.Dd PyProof.Rows.Boot.«isinstance» (ej (vv 0) (cg (ej (ra (d:= .ty "int") (cV (v:= .ty "int") (by rfl) N.Dc PyProof.Rows.Boot.«int» rfl) (λ_ _=>rfl)) (ra (d:= .ty "str") (cV (v:= .ty "str") (by rfl) N.Do PyProof.Rows.Boot.«str» rfl) (λ_ _=>rfl)))))) (GS (l8 (dU b) fJ (vv 0) (vv 1)))))))))
theorem yW(N:wh K mg a):FB P w K mg base 7 "_law_same" a.Br a.Bs ["_law_found","_law_due"] 2 (cu K a 5):=⟨(o5 P w base N 5).mono (by decide),N.F6,N.F5.kp,N.F7⟩
theorem gi:cp ["_law_bag_here","_law_block","_law_columns","_law_things","_law_grid_here","_law_thing","_law_at","_law_to"] ["_law_bag_here","_law_block","_law_columns","_law_things"] (af tj):=hL
def jO(K:OX)(a:Ad):QF K a 3 "_law_grid" a.Bt a.Bu ["_law_bag_here","_law_block","_law_columns","_law_things"] 4:=⟨_,λP w mg base N=>⟨by
 have b:=iU P w base N
 exact bq (k:=2) 4 8 _ N.F8 gi rfl rfl λd A outer s H E c=>ac (KC (i:=4) gi.nd rfl (by first|exact Q1 rfl|exact Sj rfl) rfl (hY ["_law_row","_law_columns"] ["_law_row"] [2]) (cw (by rfl) N.Dj (d5 (vv 1))) (λcl C e s H=>⟨(ee 0 f_),aL,λD=>aD rfl (NG (d5 (ao)) (vv 1)) rfl⟩) am ar (λD=>vJ))
   (ac (bA aE (bj bV rfl (cw (by rfl) N.Dj (d5 (vv 3))) (ee 5 gi.nd) (ac (aG (fy 6 gi.nd (vc b c (ej (vv 0) (vv 1)))))
   (ac (aG (fy 7 gi.nd (vc b c (ej (vv 0) (vv 2)))))
   (ai (tu (fA (bc aQ bQ (bC aM bH (bC aM bH (vv 4) (vv 6)) (vv 7)) (ao)) (ij (fE dj (pv 4) (vv 6) (λ_ _=>rfl)) (vv 7) fS))))))))
   (ai (aK (aw (vv 4))))),N.F9,N.F8.kp,N.Ga⟩⟩
theorem gL:cp ["_law_bag_here","_law_way","_law_block","_law_columns"] ["_law_bag_here"] (af qP):=hL
def iO(K:OX)(a:Ad):QF K a 4 "_law_small" a.Bv a.Bw ["_law_bag_here"] 1:=⟨_,λP w mg base N=>⟨by
 have b:=iU P w base N;have c:=(jO K a).2 P w base N
 exact bq (k:=3) 1 4 _ N.Gb gL rfl rfl λe A outer s H E d=>ac (aG (fy 1 gL.nd (vc b d (ej (vv 0) (ao)))))
   (ac (bU (bn (dU d) fJ (vv 1) (ao)) (ai (aK (aw (vc c d (D2 (vv 0) (ao) (ao) (vc b d (ej (vv 0) (ao)))))))) (bv))
   (ac (bU (bn (dU d) fJ (vv 1) (ao)) (ai (aK (aw (vc c d (D2 (vv 0) (ao) (bc aQ bQ (ao) (vc b d (ej (vv 0) (ao)))) (vc b d (ej (vv 0) (ao)))))))) (bv))
   (ac (bU (bn (dU d) fJ (vv 1) (ao)) (ai (aK (aw (vc c d (D2 (vv 0) (bc aQ bQ (ao) (vc b d (ej (vv 0) (ao)))) (ao) (vc b d (ej (vv 0) (ao)))))))) (bv))
   (ac (aG (fy 2 gL.nd (bc aQ bQ (ao) (vc b d (ej (vv 0) (ao))))))
   (ac (aG (fy 3 gL.nd (bc aQ bQ (ao) (vc b d (ej (vv 0) (ao))))))
   (ai (aK (aw (vc c d (D2 (vv 0) (vv 2) (vv 3) (vc b d (ej (vv 0) (ao))))))))))))),N.Gc,N.Gb.kp,N.Gd⟩⟩
theorem uS:cp ["_law_block"] ["_law_block"] (af oN):=hL
def oW(K:OX)(a:Ad):QF K a 2 "_law_turned" a.Bx a.By ["_law_block"] 1:=⟨_,λP w mg base N=>⟨by
 exact bq (k:=1) 1 1 _ N.Ge uS rfl rfl λb A outer s H E d=>ai (aK (aw (bf rfl (hY ["_law_to","_law_block"] ["_law_to"] [0]) (cw (by rfl) N.Dj (d5 (cz N.Df (d5 (bC aM bH (vv 0) (ao)))))) (λcl C c s H=>⟨(ee 0 f_),aL,λD=>aD rfl (bf rfl (hY ["_law_row","_law_to"] ["_law_row"] [0]) (aR (vv 1)) (λcl C c s H=>⟨(ee 0 f_),aL,λD=>aD rfl (bC aM bH (vv 0) (vv 1)) rfl⟩) am ar (λD=>aJ)) rfl⟩) am ar (λD=>aJ)))),N.Gf,N.Ge.kp,N.Gg⟩⟩
theorem sU:cp ["_law_grid_here"] ["_law_grid_here"] (af mY):=hL
def i7(K:OX)(a:Ad):QF K a 2 "_law_rowsums" a.Bz a.B0 ["_law_grid_here"] 1:=⟨_,λP w mg base N=>⟨by
 exact bq (k:=1) 1 1 _ N.Gh sU rfl rfl λb A outer s H E c=>ai (aK (aw (bf rfl (hY ["_law_row"] ["_law_row"] []) (aR (vv 0)) (λcl C d s H=>⟨(ee 0 f_),aL,λD=>aD rfl (fi N.Dp (d5 (vv 0))) rfl⟩) am ar (λD=>aJ)))),N.Gi,N.Gh.kp,N.Gj⟩⟩
theorem oK:cp ["_law_grid_here"] ["_law_grid_here"] (af jq):=hL
def fW(K:OX)(a:Ad):QF K a 3 "_law_columnsums" a.B4 a.B5 ["_law_grid_here"] 1:=⟨_,λP w mg base N=>⟨by
 have b:=(oW K a).2 P w base N;exact bq (k:=2) 1 1 _ N.Gk oK rfl rfl λc A outer s H E d=>ai (aK (aw (bf rfl (hY ["_law_column"] ["_law_column"] []) (aR (vc b d (d5 (vv 0)))) (λcl C e s H=>⟨(ee 0 f_),aL,λD=>aD rfl (fi N.Dp (d5 (vv 0))) rfl⟩) am ar (λD=>aJ)))),N.Gm,N.Gk.kp,N.Gn⟩⟩
theorem yr:cp ["_law_block","_law_columns"] ["_law_block","_law_columns"] (af tq):=hL
def qZ(K:OX)(a:Ad):G:=
  lE (iw 1 [1] (cZ fU (ag (ah 0) (aF))) (i4 0) (λ_=>M.ret Oq) (uM (eS 1 [] (cZ fU (ag (ah 1) (aF))) (i4 0) (λ_=>M.ret Oq) (ln (aP fG (ag (fC (.int 0)) (ag (fC (.int 40)) (aF))))))))
def lf(K:OX)(a:Ad):List D->M (List (List D)):=mS 2 (qZ K a)
theorem wR(N:wh K mg a):e_ P w K mg base (hE P w) 2 a.B7 a.B8 ["_law_block","_law_columns"] (ZC K 2 (lf K a)):=by
 unfold lf;exact JU (k:=1) 2 2 (qZ K a) N.Go yr rfl rfl λb A outer s H E d=>ai (Jg (aw (LK rfl (hY ["_law_at","_law_columns"] ["_law_at"] [1]) (cw (by rfl) N.Dj (d5 (vv 0))) (λcl C c s H=>⟨(ee 0 f_),aL,λD=>aD rfl (y6 rfl (hY ["_law_to"] ["_law_to"] []) (cw (by rfl) N.Dj (d5 (vv 1))) (λcl C c s H=>⟨(ee 0 f_),aL,λD=>aD rfl (cg (ej (ao) (ao))) rfl⟩) am ar (λD=>aJ)) rfl⟩) am ar (λD=>vJ))))
theorem c7:cp ["_law_bag_here","_law_grid_here","_law_told","_law_at","_law_row","_law_to","_law_count","_law_way"] ["_law_bag_here","_law_grid_here"] (af oP):=hL
def gO(K:OX)(a:Ad):QF K a 3 "_law_bounds" a.Ca a.Cb ["_law_bag_here","_law_grid_here"] 2:=⟨_,λP w mg base N=>⟨by
 have c:=wR P w base N;have b:=iU P w base N
 exact bq (k:=2) 2 8 _ N.Gr c7 rfl rfl λe A outer s H E d=>ac (HE (fy 2 c7.nd (LL c (d.mono (by decide)) (by rfl) N.Gp N.Go.kp N.Gq f9 (ej (cz N.Df (d5 (vv 1))) (cz N.Df (d5 (bC aM bH (vv 1) (ao))))) (aS (aS y3)))))
   (ac (bU (bn (dU d) fJ (vc b d (ej (vv 0) (ao))) (ao)) (ai (aK (aw (vv 2)))) (bv))
   (ac (bA (gn (bE aE (bE aE e9)) (bD (bD dR))) (bj bV rfl (jx (by rfl) N.Db (d5 (vv 1))) (bM rfl (ax (ee 3 c7.nd) (ax (ee 4 c7.nd) br))) (ai (bA (gn (bE aE (bE aE e9)) (bD (bD dR))) (bj bV rfl (jx (by rfl) N.Db (d5 (vv 4))) (bM rfl (ax (ee 5 c7.nd) (ax (ee 6 c7.nd) br))) (ac (aG (fy 7 c7.nd (vc b d (ej (vv 0) (ao)))))
   (ac (bU (bn (dU d) fJ (vv 7) (ao)) (ai (tu (fA (cg (ej (bc fF gT (vv 6) (vc b d (ej (vv 0) (bc aQ bQ (vv 6) (ao))))) (bG (gv rfl) ph (by rfl) N.Di PyProof.Rows.Boot.«min» (ej (ao) (bc aQ bQ (vv 6) (vc b d (ej (vv 0) (ao)))))))) (ij (fE dj (pv 2) (vv 3) (λ_ _=>rfl)) (vv 5) fS)))) (bv))
   (ai (bU (bn (dU d) fJ (vv 7) (ao)) (ai (tu (fA (cg (ej (ao) (bG (lN rfl) xb (by rfl) N.Dh PyProof.Rows.Boot.«max» (ej (vv 6) (vc b d (ej (vv 0) (ao))))))) (ij (fE dj (pv 2) (vv 3) (λ_ _=>rfl)) (vv 5) fS)))) (bv))))))))))
   (ai (aK (aw (vv 2)))))),N.Gs,N.Gr.kp,N.Gu⟩⟩
theorem uT:cp ["_law_block"] ["_law_block"] (af oO):=hL
def oX(K:OX)(a:Ad):QF K a 2 "_law_copied" a.Cc a.Cd ["_law_block"] 1:=⟨_,λP w mg base N=>⟨by
 exact bq (k:=1) 1 1 _ N.Gv uT rfl rfl λb A outer s H E c=>ai (aK (aw (bf rfl (hY ["_law_row"] ["_law_row"] []) (aR (vv 0)) (λcl C d s H=>⟨(ee 0 f_),aL,λD=>aD rfl (cm dZ ly (by rfl) N.Dg PyProof.Rows.Boot.«list» (d5 (vv 0))) rfl⟩) am ar (λD=>aJ)))),N.Gx,N.Gv.kp,N.Gy⟩⟩
theorem dS:cp ["_law_rests","_law_lot","_law_pairs","_law_found","_law_rest","_law_duo","_law_longer","_law_one","_law_count"] ["_law_rests","_law_lot","_law_pairs"] (af vd):=hL
def jt(K:OX)(a:Ad):QF K a 2 "_law_fit" a.Cf a.Cg ["_law_rests","_law_lot","_law_pairs"] 3:=⟨_,λP w mg base N=>⟨by
 exact bq (k:=1) 3 9 _ N.Gz dS rfl rfl λb A outer s H E c=>ac (aG (fy 3 dS.nd (eU (d5 (eU (ff))))))
   (ac (bA (gn (bE aE (bE aE e9)) (bD (bD dR))) (bj bV rfl (pF (by rfl) N.Dr (ej (vv 0) (vv 2))) (bM rfl (ax (ee 4 dS.nd) (ax (ee 5 dS.nd) br))) (ac (ml (fy 6 dS.nd (dT (ff))))
   (ac (bA aE (bj bV rfl (aR (vv 3)) (ee 7 dS.nd) (ai (bA aE (bj bV rfl (j7 (by rfl) N.Dj (ej (bC aM bH (vv 5) (ao)) (bc aQ bQ (bG (gv rfl) ph (by rfl) N.Di PyProof.Rows.Boot.«min» (ej (bC aM bH (vv 5) (ao)) (vv 4))) (ao)))) (ee 8 dS.nd) (ai (jL (dh (jS QD Qw Qx dW (pv 6) (d5 (bc aQ bQ (vv 7) (eU (d5 (vv 8))))))))))))))
   (BM 6 (ai (aG (fy 3 dS.nd (vv 6)))))))))
   (ai (aK (aw (bf rfl (hY ["_law_one","_law_lot"] ["_law_one"] [1]) (aR (vv 3)) (λcl C d s H=>⟨(ee 0 f_),pK (bn (dU c) fJ (fi N.Dp (d5 (vv 0))) (vv 1)),λD=>aD rfl (vv 0) rfl⟩) am ar (λD=>aJ)))))),N.G0,N.Gz.kp,N.G1⟩⟩
theorem yq:cp ["_law_rests","_law_column"] ["_law_rests","_law_column"] (af s0):=hL
def jN(K:OX)(a:Ad):QF K a 2 "_law_less" a.Ch a.Ci ["_law_rests","_law_column"] 2:=⟨_,λP w mg base N=>⟨by
 exact bq (k:=1) 2 2 _ N.G2 yq rfl rfl λb A outer s H E c=>ai (aK (aw (bf rfl (hY ["_law_rest","_law_count"] ["_law_rest","_law_count"] []) (pF (by rfl) N.Dr (ej (vv 0) (vv 1))) (λcl C d s H=>⟨(bM rfl (ax (ee 0 f_) (ax (ee 1 f_) br))),aL,λD=>aD rfl (bc fF gT (vv 0) (vv 1)) rfl⟩) (dI (aW am (aW am cW)) (aU (aU cq))) (dH (aV ar (aV ar cS))) (λD=>aJ)))),N.G3,N.G2.kp,N.G4⟩⟩
theorem bP:cp ["_law_rowsums_here","_law_columnsums_here","_law_limits","_law_found","_law_to","_law_lot","_law_longer","_law_told","_law_rests","_law_column"] ["_law_rowsums_here","_law_columnsums_here","_law_limits"] (af mZ):=hL
def i8(K:OX)(a:Ad):QF K a 3 "_law_listing" a.Cj a.Ck ["_law_rowsums_here","_law_columnsums_here","_law_limits"] 3:=⟨_,λP w mg base N=>⟨by
 have c:=(jt K a).2 P w base N;have b:=(jN K a).2 P w base N
 exact bq (k:=2) 3 10 _ N.G5 bP rfl rfl λe A outer s H E d=>ac (aG (fy 3 bP.nd (eU (d5 (cg (ej (eU (ff)) (cm dZ ly (by rfl) N.Dg PyProof.Rows.Boot.«list» (d5 (vv 0)))))))))
   (ac (bA (gn (bE aE (bE aE e9)) (bD (bD dR))) (bj bV rfl (jx (by rfl) N.Db (d5 (vv 1))) (bM rfl (ax (ee 4 bP.nd) (ax (ee 5 bP.nd) br))) (ac (ml (fy 6 bP.nd (dT (ff))))
   (ac (bA (gn (bE aE (bE aE e9)) (bD (bD dR))) (bj bV rfl (aR (vv 3)) (bM rfl (ax (ee 7 bP.nd) (ax (ee 8 bP.nd) br))) (ai (bA aE (bj bV rfl (aR (vc c d (q_ (vv 8) (vv 5) (bf rfl (hY ["_law_row","_law_to"] ["_law_row"] [4]) (aR (vv 2)) (λcl C f s H=>⟨(ee 0 f_),aL,λD=>aD rfl (bC aM bH (vv 0) (vv 1)) rfl⟩) am ar (λD=>aJ))))) (ee 9 bP.nd) (ai (jL (dh (jS QD Qw Qx dW (pv 6) (d5 (cg (ej (bc aQ bQ (vv 7) (eU (d5 (vv 9)))) (vc b d (ej (vv 8) (vv 9)))))))))))))))
   (BM 6 (ai (aG (fy 3 bP.nd (vv 6)))))))))
   (ai (aK (aw (bf rfl (hY ["_law_told","_law_rests"] ["_law_told","_law_rests"] []) (aR (vv 3)) (λcl C f s H=>⟨(bM rfl (ax (ee 0 f_) (ax (ee 1 f_) br))),aL,λD=>aD rfl (vv 0) rfl⟩) (dI (aW am (aW am cW)) (aU (aU cq))) (dH (aV ar (aV ar cS))) (λD=>aJ)))))),N.G6,N.G5.kp,N.G7⟩⟩
theorem ef:cp ["_law_lot","_law_found","_law_k"] ["_law_lot"] (af kz):=hL
def gE(K:OX)(a:Ad):QF K a 2 "_law_factorial" a.Cl a.Cm ["_law_lot"] 1:=⟨_,λP w mg base N=>⟨by
 exact bq (k:=1) 1 3 _ N.G8 ef rfl rfl λb A outer s H E c=>ac (aG (fy 1 ef.nd (ao)))
   (ac (bA aE (bj bV rfl (j7 (by rfl) N.Dj (ej (ao) (bc aQ bQ (vv 0) (ao)))) (ee 2 ef.nd) (ai (aG (fy 1 ef.nd (bc mx rR (vv 1) (vv 2)))))))
   (ai (aK (aw (vv 1))))),N.G9,N.G8.kp,N.Ha⟩⟩
theorem iH:cp ["_law_parts","_law_under","_law_part"] ["_law_parts"] (af sX):=hL
def nJ(K:OX)(a:Ad):QF K a 3 "_law_ways" a.Cn a.Co ["_law_parts"] 1:=⟨_,λP w mg base N=>⟨by
 have b:=(gE K a).2 P w base N
 exact bq (k:=2) 1 3 _ N.Hb iH rfl rfl λd A outer s H E c=>ac (aG (fy 1 iH.nd (ao)))
   (ac (bA aE (bj bV rfl (aR (vv 0)) (ee 2 iH.nd) (ai (aG (fy 1 iH.nd (bc mx rR (vv 1) (vc b c (d5 (vv 2)))))))))
   (ai (aK (aw (bc CA Lz (vc b c (d5 (fi N.Dp (d5 (vv 0))))) (vv 1)))))),N.Hc,N.Hb.kp,N.Hd⟩⟩
theorem f8:cp ["_law_columns","_law_found","_law_column"] ["_law_columns"] (af oM):=hL
def jM(K:OX)(a:Ad):QF K a 4 "_law_weight" a.Cp a.Cq ["_law_columns"] 1:=⟨_,λP w mg base N=>⟨by
 have b:=(nJ K a).2 P w base N
 exact bq (k:=3) 1 3 _ N.He f8 rfl rfl λc A outer s H E d=>ac (aG (fy 1 f8.nd (ao)))
   (ac (bA aE (bj bV rfl (aR (vv 0)) (ee 2 f8.nd) (ai (aG (fy 1 f8.nd (bc mx rR (vv 1) (vc b d (d5 (vv 2)))))))))
   (ai (aK (aw (vv 1))))),N.Hf,N.He.kp,N.Hg⟩⟩
theorem iJ:cp ["self","rowsums","columnsums","bounds","settled"] ["self","rowsums","columnsums","bounds"] (af jr):=hL
def uq(K:OX)(a:Ad):IP:=
  mG (lD 4 (eX (da K a).1 (ag (ah 1) (ag (ah 2) (ag (ah 3) (aF))))))
  (mG (pJ (eX (eM K a).1 (ag (ah 1) (ag (ah 2) (ag (ah 4) (aF))))))
  (iT (aP rQ (ag (ah 1) (aF)))
  (iT (aP rQ (ag (ah 2) (aF)))
  (iT (ah 4)
  (iT (eX (dO K a).1 (ag (ah 1) (ag (ah 2) (ag (ah 4) (aF)))))
  (Ip))))))
def o8(K:OX)(a:Ad):List D->M (List D):=mH 5 (uq K a)
theorem Jy(N:wh K mg a):e_ P w K mg base (hE P w) 6 a.Cv a.Cw ["self","rowsums","columnsums","bounds"] (Y6 K a.Ae ["row_list","column_list","pairs","counted"] 3 (o8 K a)):=by
 have c:=(dO K a).2 P w base N;have d:=(eM K a).2 P w base N;have b:=(da K a).2 P w base N;unfold o8
 exact JT (k:=5) 3 5 (uq K a) N.Hn iJ rfl rfl λf A outer s H E e=>Iq (aG (fy 4 iJ.nd (vc b e (q_ (vv 1) (vv 2) (vv 3)))))
   (Iq (oR (dh (vc d e (q_ (vv 1) (vv 2) (vv 4)))))
   (rV N.Ib N.Ii (by decide) (by decide) (o3 (pv 0) (cm dZ ly (by rfl) N.Dg PyProof.Rows.Boot.«list» (d5 (vv 1))) rfl)
   (rV N.Ib N.Ie (by decide) (by decide) (o3 (pv 0) (cm dZ ly (by rfl) N.Dg PyProof.Rows.Boot.«list» (d5 (vv 2))) rfl)
   (rV N.Ib N.Ih (by decide) (by decide) (o3 (pv 0) (vv 4) rfl)
   (rV N.Ib N.Ig (by decide) (by decide) (o3 (pv 0) (vc c e (q_ (vv 1) (vv 2) (vv 4))) rfl)
   (N4))))))
theorem BK:cp ["_law_grid_here","_law_limits"] ["_law_grid_here","_law_limits"] (af vb):=hL
def qe(K:OX)(a:Ad):QF K a 8 "_law_net" a.Cr a.Cs ["_law_grid_here","_law_limits"] 2:=⟨_,λP w mg base N=>⟨by
 have c:=(i7 K a).2 P w base N;have b:=(fW K a).2 P w base N;have e:=Jy P w base N;have d:=(oX K a).2 P w base N;exact bq (k:=7) 2 2 _ N.Hh BK rfl rfl λg A outer s H E f=>ai (aK (aw (IM N.Ho e (f.mono (by decide)) (by rfl) N.Id N.Hq f9 (ej (vc c f (d5 (vv 0))) (vc b f (d5 (vv 0)))) (IJ (vc d f (d5 (vv 1))) (Kc)) (aS (aS y3)) (aS y3) rfl))),N.Hi,N.Hh.kp,N.Hj⟩⟩
theorem dB:cp ["_law_rowsums_here","_law_columnsums_here","_law_limits","_law_levels","_law_to","_law_lot","_law_seen","_law_rests","_law_column"] ["_law_rowsums_here","_law_columnsums_here","_law_limits"] (af qQ):=hL
def kW(K:OX)(a:Ad):QF K a 3 "_law_nodes" a.Ct a.Cu ["_law_rowsums_here","_law_columnsums_here","_law_limits"] 3:=⟨_,λP w mg base N=>⟨by
 have d:=(jt K a).2 P w base N;have c:=(jN K a).2 P w base N
 exact bq (k:=2) 3 9 _ N.Hk dB rfl rfl λf A outer s H E e=>ac (ml (fy 3 dB.nd (dT (d5 (eU (d5 (cm cx f6 (by rfl) N.Dq PyProof.Rows.Boot.«tuple» (d5 (vv 0)))))))))
   (ac (bA (gn (bE aE (bE aE e9)) (bD (bD dR))) (bj bV rfl (jx (by rfl) N.Db (d5 (vv 1))) (bM rfl (ax (ee 4 dB.nd) (ax (ee 5 dB.nd) br))) (ac (Nv (fy 6 dB.nd (tP (b:=Ov))))
   (ac (KD aE (bj bV rfl (yO (fE dj (pv 3) (pv 4) (λ_ _=>rfl))) (ee 7 dB.nd) (ai (bA aE (bj bV rfl (aR (vc d e (q_ (vv 7) (vv 5) (bf rfl (hY ["_law_row","_law_to"] ["_law_row"] [4]) (aR (vv 2)) (λcl C g s H=>⟨(ee 0 f_),aL,λD=>aD rfl (bC aM bH (vv 0) (vv 1)) rfl⟩) am ar (λD=>aJ))))) (ee 8 dB.nd) (ai (KE (fA (ng) (ij (pv 6) (cm cx f6 (by rfl) N.Dq PyProof.Rows.Boot.«tuple» (d5 (vc c e (ej (vv 7) (vv 8))))) (sR (Zc e)))))))))))
   (BM 6 (ai (jL (dh (jS QD Qw Qx dW (pv 3) (d5 (bG (lM rfl) zx (by rfl) N.Dm PyProof.Rows.Boot.«sorted» (d5 (vv 6)))))))))))))
   (ai (aK (aw (vv 3))))),N.Hl,N.Hk.kp,N.Hm⟩⟩
theorem nC:cp ["self","level","rests"] ["self","level","rests"] (af iM):=hL
def dP(K:OX)(a:Ad):QM K a 2 a.C0 a.C2 ["self","level","rests"] 3:=⟨_,λP w mg base N=>by
 exact bq (k:=1) 3 3 _ N.Hv nC rfl rfl λb A outer s H E c=>ai (aK (aw (Nh (Zc c) (l7 N.Ib N.Ig (vv 0)) (ej (cg (ej (vv 1) (vv 2))) (cg (ej (ao) (ao)))))))⟩
theorem sV:cp ["self","level","rests"] ["self","level","rests"] (af m5):=hL
def c8(K:OX)(a:Ad):{m:List D->M (List D)//∀(P:Pf) (w:Po) {mg:Pn->Option Oy} (base:P5) (N:wh K mg a),e_ P w K mg base (hE P w) 4 a.Cy a.Cz ["self","level","rests"] (Y5 K (cy K) 3 m)}:=⟨_,λP w mg base N=>by
 have b:=(bS K a).2 P w base N;have d:=(de K a).2 P w base N;have c:=(dP K a).2 P w base N
 exact LO (k:=3) 3 3 _ N.Hr sV rfl rfl λg A outer s H E e=>Nr (jj (sF (bn (vC (Zc e)) NT (cg (ej (vv 1) (vv 2))) (l7 N.Ib N.Ig (vv 0))) (oq (bn (dU e) fJ (vv 1) (cz N.Df (d5 (l7 N.Ib N.Ie (vv 0)))))))) (gW (aw (NH ff)))
   (gW (aw (y6 rfl (hY ["counts","self","level","rests"] ["counts"] [0,1,2]) (aR (vc b e (D2 (vv 2) (l7 N.Ib N.Ie (vv 0)) (l7 N.Ib N.Ih (vv 0)) (vv 1)))) (λcl C i s H=>⟨(ee 0 f_),pK (bn rO xg (bC aM bH (ox N.Ib N.Hw c (e.mono (by decide)) (dG.nil N.Hx) rN (vv 1) (ej (bc aQ bQ (vv 2) (ao)) (vc d e (ej (vv 3) (vv 0)))) (λδ β r f h=>by rw[(aS (aS y3)) δ β r f h];rfl)) (ao)) (ao)),λD=>aD rfl (vv 0) rfl⟩) am ar (λD=>aJ))))⟩
theorem rD:cp ["self"] ["self"] (af kR):=hL
def kY(K:OX)(a:Ad):QM K a 3 a.C3 a.C4 ["self"] 1:=⟨_,λP w mg base N=>by
 have b:=(dP K a).2 P w base N;exact bq (k:=2) 1 1 _ N.Hy rD rfl rfl λd A outer s H E e=>ai (aK (aw (bC aM bH (ox N.Ib N.Hw b (e.mono (by decide)) (dG.nil N.Hx) f9 (vv 0) (ej (ao) (cm cx f6 (by rfl) N.Dq PyProof.Rows.Boot.«tuple» (d5 (l7 N.Ib N.Ii (vv 0))))) (λδ β r c h=>by rw[(aS (aS y3)) δ β r c h];rfl)) (ao))))⟩
theorem bO:cp ["_law_script","_law_bag_here","_law_grid_here","_law_limits","_law_rowsums_here","_law_columnsums_here","_law_net_here","_law_levels","_law_stage","_law_nodes_here","_law_rests","_law_due","_law_counts","_law_part","_law_told","_law_column"] ["_law_script"] (af mn):=hL
def oV(K:OX)(a:Ad):{g:G//∀(P:Pf) (w:Po) {mg:Pn->Option Oy} (base:P5) (N:wh K mg a) (f:Ou) (B:Oy) (A:PV) (outer:List VN) (s:OD) (H:Hp) (E:XK),eg 8 (A.deeper (PyProof.Rows.envOfC "law" (af mn) s.heap.objs.size f B))->PSs (eJ (hE P w) P w K mg base ["_law_script","_law_bag_here","_law_grid_here","_law_limits","_law_rowsums_here","_law_columnsums_here","_law_net_here","_law_levels","_law_stage","_law_nodes_here","_law_rests","_law_due","_law_counts","_law_part","_law_told","_law_column"] "law" (af mn) f B A outer s H E) (bZ mn).tail (tG K H g (λ_=>E))}:=⟨_,λP w mg base N f B A outer s H E k=>by
 have q:=(iO K a).2 P w base N;have o:=(gO K a).2 P w base N;have m:=(i7 K a).2 P w base N;have j:=(fW K a).2 P w base N;have v:=(qe K a).2 P w base N;have t:=(kW K a).2 P w base N;have e:=iU P w base N;have n:=(i8 K a).2 P w base N;have p:=(jM K a).2 P w base N;have y:=(jt K a).2 P w base N;have b:=(dP K a).2 P w base N;have c:=yW P w base N;have d:=(c8 K a).2 P w base N;have l:=(kY K a).2 P w base N
 exact ac (aG (fy 2 bO.nd (vc q k (d5 (vv 1)))))
   (ac (aG (fy 3 bO.nd (vc o k (ej (vv 1) (vv 2)))))
   (ac (aG (fy 4 bO.nd (vc m k (d5 (vv 2)))))
   (ac (aG (fy 5 bO.nd (vc j k (d5 (vv 2)))))
   (ac (aG (fy 6 bO.nd (vc v k (ej (vv 2) (vv 3)))))
   (ac (aG (fy 7 bO.nd (vc t k (q_ (vv 4) (vv 5) (vv 3)))))
   (ac (aG (fy 8 bO.nd (bc fF gT (vc e k (ej (vv 1) (bc aQ bQ (cz N.Df (d5 (vv 7))) (ao)))) (ao))))
   (ac (aG (fy 9 bO.nd (bC aM bH (vv 7) (bG (lN rfl) xb (by rfl) N.Dh PyProof.Rows.Boot.«max» (ej (ao) (bG (gv rfl) ph (by rfl) N.Di PyProof.Rows.Boot.«min» (ej (vv 8) (bc fF gT (cz N.Df (d5 (vv 7))) (ao)))))))))
   (ac (aG (fy 10 bO.nd (bC aM bH (vv 9) (vc e k (ej (vv 1) (cz N.Df (d5 (vv 9))))))))
   (ac (bU (bn (dU k) fJ (vc e k (ej (vv 1) (ao))) (ao)) (ai (aG (fy 10 bO.nd (bc aQ bQ (AV (vv 10) (k9) (k8 (AT sG xa (ao)))) (cg (d5 (bc aQ bQ (bC aM bH (vv 10) (AT sG xa (ao))) (ao)))))))) (bv))
   (ac (ml (fy 11 bO.nd (dT (ff))))
   (ac (aG (fy 12 bO.nd (cg (ej (ao) (ao)))))
   (ac (bU (jj (GR (bn HN ZP (vv 8) (ao)) (GR (bn my qp (vv 8) (cz N.Df (d5 (vv 7)))) (Kb (bn (yV k) HY (vv 10) (bC aM bH (vv 7) (vv 8))))))) (ac (sW (i:=13) bO.nd rfl (by first|exact Q1 rfl|exact Sj rfl) rfl (hY ["_law_row","_law_stage"] ["_law_row"] [8]) (aR (vv 3)) (λcl C F s H=>⟨(ee 0 f_),aL,λD=>aD rfl (l6 (vv 0) (k8 (vv 1)) (k9)) rfl⟩) am ar (λD=>aJ))
   (ac (aG (fy 14 bO.nd (vc n k (q_ (vv 10) (l6 (vv 5) (k8 (vv 8)) (k9)) (vv 13)))))
   (ac (Kz (fy 12 bO.nd (cg (ej (cz N.Df (d5 (vv 14))) (fi N.Dp (d5 (bf rfl (hY ["_law_one"] ["_law_one"] []) (aR (vv 14)) (λcl C F s H=>⟨(ee 0 f_),aL,λD=>aD rfl (vc p k (d5 (vv 0))) rfl⟩) am ar (λD=>aJ))))))))
   (ai (bU (bn my qp (vv 8) (cz N.Df (d5 (vv 5)))) (ai (bA aE (bj bV rfl (aR (vc y k (q_ (vv 10) (bC aM bH (vv 5) (vv 8)) (bf rfl (hY ["_law_row","_law_stage"] ["_law_row"] [8]) (aR (vv 3)) (λcl C F s H=>⟨(ee 0 f_),aL,λD=>aD rfl (bC aM bH (vv 0) (vv 1)) rfl⟩) am ar (λD=>aJ))))) (ee 15 bO.nd) (ai (bU (bn (yV k) HY (vv 15) (bf rfl (hY ["_law_one"] ["_law_one"] []) (aR (vv 14)) (λcl C F s H=>⟨(ee 0 f_),aL,λD=>aD rfl (bC aM bH (vv 0) (ao)) rfl⟩) am ar (λD=>aJ))) (ai (jL (dh (jS QD Qw Qx dW (pv 11) (d5 (cm cx f6 (by rfl) N.Dq PyProof.Rows.Boot.«tuple» (d5 (vv 15)))))))) (bv)))))) (bv)))))) (bv))
   (ac (bU (oA (ma (vc c k (ej (ox N.Ib N.Hw b (k.mono (by decide)) (dG.nil N.Hx) f9 (vv 6) (ej (vv 8) (vv 10)) (λδ β r u h=>by rw[(aS (aS y3)) δ β r u h];rfl)) (vv 12))))) (ai (aK (aw (ng)))) (bv))
   (ac (KA (fy 14 bO.nd (y0 N.Ib N.Ht d (k.mono (by decide)) (dG.nil N.Hu) f9 (vv 6) (ej (vv 8) (vv 10)) (λδ β r u h=>by rw[(aS (aS y3)) δ β r u h];rfl))))
   (ac (bU (oA (ma (vc c k (ej (vv 14) (vv 11))))) (ai (aK (aw (ng)))) (bv))
   (ac (jL (dh (jS QD Qw Qx dW (pv 14) (d5 (vv 10)))))
   (ai (aK (aw (GT (vc c k (ej (Ng (y0 N.Ib N.Ht d (k.mono (by decide)) (dG.nil N.Hu) f9 (vv 6) (ej (vv 8) (vv 10)) (λδ β r u h=>by rw[(aS (aS y3)) δ β r u h];rfl))) (vv 11))) (GS (vc c k (ej (bC aM bH (ox N.Ib N.Hw b (k.mono (by decide)) (dG.nil N.Hx) f9 (vv 6) (ej (ao) (cm cx f6 (by rfl) N.Dq PyProof.Rows.Boot.«tuple» (d5 (vv 4)))) (λδ β r u h=>by rw[(aS (aS y3)) δ β r u h];rfl)) (ao)) (IL N.Ib N.Hz l (k.mono (by decide)) (dG.nil N.Ia) f9 (vv 6) rfl))))))))))))))))))))))))⟩
theorem Li{f:Ou}{o:O8}(F:d4 K "law" "law" mn f o)(N:wh K mg a)(T:∀β:Bg,β.ok->∃d,(oV K a).1 [Om,on (.sh .bag),Om,Om,Om,Om,Om,Om,Om,Om,Om,Om,Om,Om,Om,Om] β=on (.rt (.bl Oq),d)):
  e_ P w K mg base (hE P w) 9 f o ["_law_script"] (GZ K):=by
 have c:=CB P w base N;refine F.okE (k:=8) bO (λvs H Q E h=>?_) (λg A outer s H vs Q E p h=>?_)
 .obtain⟨a,ns,rfl,_⟩:=h
  rfl
 .obtain⟨a1,ns,rfl,r,q,k⟩:=h
  have rest:=(oV K a).2 P w base N f g A outer s H E p;refine⟨_,cr (rest:=(bZ mn).tail) (fy 1 bO.nd (mv c (p.mono (by decide)) rfl N.Fv N.Fu.kp N.Fw .nil rN (eA (pv 0) ik))) rest,?_⟩;refine⟨_,rfl,a1,ns,rfl,r,λb l C i j t u=>?_⟩;obtain⟨β,ok,m⟩:=J3 (K:=K) (a:=a1) (n:=["_law_script","_law_bag_here","_law_grid_here","_law_limits","_law_rowsums_here","_law_columnsums_here","_law_net_here","_law_levels","_law_stage","_law_nodes_here","_law_rests","_law_due","_law_counts","_law_part","_law_told","_law_column"].length-2) u i j t;obtain⟨d,e⟩:=T β ok;exact⟨_,_,_,β,_,d,m,e,λv I y s fr B=>by cases B.bl;exact k y⟩
end
end Law
namespace Law
open PySem L2 L2.Pu L2.Nt
section
variable{K:OX}{a:Ad}{β:Bg}
abbrev tN(l:List Nat):D:=lk (nI l)
abbrev eN(b:List Nat×Nat):D:= .tup [tN b.1,.int (b.2:Int)]
abbrev pN(p:Nat×Nat):D:=pD ((p.1:Int),(p.2:Int))
def y_(r:List Nat):Prop:=1<=r.length/\r.length<=4/\r.sum<=40/\pr (r.map (·+1))<=500
theorem kD{f g:FD}{δ:Dn}{x y:D}{ds es:List D}(b:f δ β=on (.ok x,β))(c:g δ β=on (.ok y,β))(d:cY x=on ds)(e:cY y=on es):wV (ag f (ag g aF)) δ β=on (.ok (db ds es),β):=bz (aa b (aa c rfl)) (by
 unfold AM;simp only[d,e,Rc,QO])
theorem sw{α:Type}{f g:α->D}:∀l:List α,db (l.map f) (l.map g)=l.map λx=> .tup [f x,g x]
 |[]=>rfl
 |x::l=>Py (_::·) (sw l)
theorem KM{lo:Nat}{h:Int}(b:-1000<=h)(c:h<=1000)(d:lo<=1000):nG [.int (lo:Int),.int h]=on ((OB (h-lo).toNat).map λi=>D.int ((lo+i:Nat):Int)):=by
 have e:nG [.int (lo:Int),.int h]=on (aZ lo (h-lo).toNat):=by
  simp only[nG];rw[OE (by simp only[Pc,Pq];omega)]
 rw[e];exact Py on (O5 λi _=>by congr 1)
theorem MY{l:List Nat}{c:Nat}(h:l.length<=100):jf (tN l) (.tup [.int (c:Int)])=on (tN (l++[c])):=by
 cases l with
 |nil=>rfl
 |cons x l=>
  show(if _ then _ else _)=_;rw[OE (bp (by simp at h⊢;omega))];simp[lk]
theorem yf(l:List Nat)(k:Nat):fm [.lst (((nI l).map D.int).drop k)]=on (.int (((l.drop k).sum:Nat):Int)):=by
 rw[<-Rz,<-Rz];exact(d9 _).trans (by rw[<-gl])
theorem x9:∀{r:List Nat} {ps:List (Nat×Nat)},(r.zip ps).map (λq=>D.int (RP (q.1:Int) (q.2.2:Int)))=(nI (lv ps r)).map D.int
 |[],_=>by cases ‹List (Nat×Nat)›<;>rfl
 |_::_,[]=>rfl
 |x::r,p::ps=>by
  have e:=x9 (r:=r) (ps:=ps);show _::_=D.int ((RP x p.2:Nat):Int)::(nI (lv ps r)).map D.int;rw[<-e];show D.int (RP (x:Int) (p.2:Int))::_=_;rw[show RP (x:Int) (p.2:Int)=((RP x p.2:Nat):Int) by omega];rfl
theorem x6:∀{ps:List (Nat×Nat)} {r:List Nat} {k:Nat} (b:k<ps.length) (c:k<r.length),(lv ps r)[k]?=on (RP r[k] ps[k].2)
 |p::ps,x::r,0,_,_=>rfl
 |p::ps,x::r,k+1,b,c=>x6 (k:=k) (by simpa using b) (by simpa using c)
abbrev uz(ps:List (Nat×Nat))(r:List Nat)(c:Nat)(st:D)(b d e:Option Sl):Ds:=[on (.sh (tN r)),on (.sh (.int (c:Int))),on (.sh (.lst (ps.map pN))),on (.sh (.lst ((nI (lu ps)).map .int))),on (.sh (.lst ((nI (lv ps r)).map .int))),on (.sh st),b,d,e]
theorem LR{ps:List (Nat×Nat)}{r:List Nat}{c:Nat}(H:y_ r)(v:ps.length=r.length)(A:∀p∈ps,p.1<=40/\p.2<=40)(R:c<=40):(jP K a).1 [tN r,.int (c:Int),.lst (ps.map pN)] β=on (.ok (.lst ((vB ps r c).map tN)),β):=by
 obtain⟨_,T,hs,U⟩:=H;have I:r.length<=OV:=bp (by omega);have o:∀k,k<=r.length->(na ps r c k).length<=OV:=λk m=>bp (OS (u5 c k m) (OS (rM r k) (by omega)));unfold jP
 dsimp only
 refine aO ?_;refine aB (d:= .lst ((nI (lu ps)).map .int)) (β1:=β) ?_ ?_
 .have:=bh (nv:=2) (c4:=[]) (it:=di (ah 2)) (tg:=O_ (eY (i4 0) (eY (i4 1) jJ))) (f:=ah 0) (δ:=vw (uz ps r c .non Om Om Om)) (β:=β) ps pN (λp=> .int (p.1:Int)) rfl (λx _=>⟨[on (.int (x.1:Int)),on (.int (x.2:Int))],rfl,rfl⟩) (by rw[v];exact I)
  refine Eq.trans this ?_;unfold lu;rw[OA,OA];rfl
 refine aB (d:= .lst ((nI (lv ps r)).map .int)) (β1:=β) ?_ ?_
 .rw[<-x9]
  exact bh (nv:=3) (c4:=[]) (it:=wV (ag (ah 0) (ag (ah 2) (aF)))) (tg:=O_ (eY (i4 0) (eY (O_ (eY (i4 1) (eY (i4 2) jJ))) jJ))) (f:=aP t0 (ag (ah 0) (ag (ah 2) (aF)))) (δ:=vw (uz ps r c .non Om Om Om)) (β:=β) (r.zip ps) (λq=>D.tup [.int (q.1:Int),pN q.2]) _ (by
   rw[<-hV (λx:Nat=>D.int (x:Int)) pN];refine kD (x:=tN r) (y:= .lst (ps.map pN)) rfl rfl ?_ rfl;show on _=on _;rw[OA];rfl) (λq _=>⟨[on (.int (q.1:Int)),on (.int (q.2.1:Int)),on (.int (q.2.2:Int))],rfl,ae rfl t8⟩) (bp (by rw[SD];omega))
 refine aB (d:= .lst ((na ps r c 0).map eN)) (β1:=β) (ae (aa (ae (aa (ae rfl rfl) (aa rfl rfl)) eF) rfl) j3) ?_;refine bu (ds:=aZ 0 r.length) (β1:=β) (bz (aa (ae (z:= .int (r.length:Int)) rfl (by show on (D.int _)=_;rw[Ol,Ol])) rfl) (E_ (by omega) (by omega))) (λk δ C=>β=C/\∃B t u,δ=uz ps r c (.lst ((na ps r c k).map eN)) B t u) ⟨rfl,Om,Om,Om,rfl⟩ ?_ ?_
 .rintro k d δ _ hd ⟨rfl,B,t,u,rfl⟩
  obtain⟨m,rfl⟩:=HG hd;have j:k<ps.length:=by omega
  have J:ps[k]?=on ps[k]:=Os j;have b40:=A _ (Pr j);have W:(lu ps).sum<=160:=by
   have g:∀l:List (Nat×Nat),(∀p∈l,p.1<=40/\p.2<=40)->(lu l).sum<=40*l.length:=λl=>by
    induction l with
    |nil=>intro _;exact OG _
    |cons p l ih=>
     intro h;have:=ih λq v=>h q (Ot _ v);have:=(h p Oz).1;simp only[lu,OJ,O6,OR]at*;omega
   have:=g ps A;omega
  have F:∀(l:List Nat) (n:Nat),(l.drop n).sum<=l.sum:=λl n=>by
   conv=>rhs;rw[<-Rm n l,VS]
   omega
  have L:=F (lu ps) (k+1);have N:=OS (F (lv ps r) (k+1)) x5;refine⟨uz ps r c (.lst ((na ps r c k).map eN)) (on (.sh (.int (k:Int)))) t u,rfl,?_⟩;refine aB (d:= .int ((((lu ps).drop (k+1)).sum:Nat):Int)) (β1:=β) (ae (aa (iE rfl (d_ rfl rfl rfl)) rfl) ((Py (λl=>fm [.lst l]) (kj (k:=k+1))).trans (yf _ _))) ?_;refine aB (d:= .int ((((lv ps r).drop (k+1)).sum:Nat):Int)) (β1:=β) (ae (aa (iE rfl (d_ rfl rfl rfl)) rfl) ((Py (λl=>fm [.lst l]) (kj (k:=k+1))).trans (yf _ _))) ?_;refine aq (aB (d:= .lst ((na ps r c (k+1)).map eN)) (β1:=β) ?_ (aY ⟨rfl,_,_,_,rfl⟩));have e:(na ps r c (k+1)).map eN=(na ps r c k).flatMap λb=>(YN r[k] ps[k] ((lu ps).drop (k+1)).sum ((lv ps r).drop (k+1)).sum b).map eN:=by
   show((na ps r c k).flatMap _).map eN=_;rw[QV,dN m,dN j]
  rw[e];refine JY (na ps r c k) eN _ rfl (λb A=>⟨[on (tN b.1),on (.int (b.2:Int)),Om,on (.lst ((nI (lu ps)).map .int)),on (.int (k:Int)),on (.int ((((lv ps r).drop (k+1)).sum:Nat):Int)),on (.lst ((nI (lv ps r)).map .int)),on (.int ((((lu ps).drop (k+1)).sum:Nat):Int))],rfl,?_⟩) (by
   rw[<-e,Ol];exact o (k+1) m)
  obtain⟨b2,b1⟩:=yh ps r c k b A;have X:=gZ (Pr m);unfold YN;generalize ((lu ps).drop (k+1)).sum=few at*;generalize ((lv ps r).drop (k+1)).sum=most at*;refine(y7 (OB (RP (RP r[k] ps[k].2+few) b.2+1-few-WQ ps[k].1 (b.2-most))) (λi=>D.int ((WQ ps[k].1 (b.2-most)+i:Nat):Int)) (λi=>eN (b.1++[WQ ps[k].1 (b.2-most)+i],b.2-(WQ ps[k].1 (b.2-most)+i))) ?_ ?_).trans (by rw[OA];rfl)
  .refine bz (as:=[.int ((WQ ps[k].1 (b.2-most):Nat):Int),.int (RP ((RP r[k] ps[k].2:Nat):Int) ((b.2:Int)-few)+1)]) (aa (ae (aa (d_ rfl rfl (bT (d:= .int (ps[k].1:Int)) ?_)) (aa (d_ rfl rfl rfl) rfl)) (CJ.trans ?_)) (aa (d_ (ae (aa (d_ rfl rfl (bT (d:= .int ((RP r[k] ps[k].2:Nat):Int)) ?_)) (aa (d_ rfl rfl rfl) rfl)) t8) rfl rfl) rfl)) ((KM (by omega) (by omega) (by omega)).trans ?_)
   .unfold lu
    rw[Ox,Ox,Ox,J];rfl
   .rw[show WQ (ps[k].1:Int) ((b.2:Int)-(most:Int))=((WQ ps[k].1 (b.2-most):Nat):Int) by omega]
   .rw[Ox,Ox,x6 j m];rfl
   .rw[show(RP ((RP r[k] ps[k].2:Nat):Int) ((b.2:Int)-few)+1-((WQ ps[k].1 (b.2-most):Nat):Int)).toNat=RP (RP r[k] ps[k].2+few) b.2+1-few-WQ ps[k].1 (b.2-most) by omega]
  .refine λi O=>⟨[on (tN b.1),on (.int (b.2:Int)),on (.int ((WQ ps[k].1 (b.2-most)+i:Nat):Int)),on (.lst ((nI (lu ps)).map .int)),on (.int (k:Int)),on (.int (most:Int)),on (.lst ((nI (lv ps r)).map .int)),on (.int (few:Int))],rfl,ae (aa (d_ rfl (ae rfl rfl) (MY (l:=b.1) (c:=WQ ps[k].1 (b.2-most)+i) (by omega))) (aa (d_ rfl rfl rfl) rfl)) (eF.trans ?_)⟩
   have Q:=OY.mp O;show on (D.tup [_,.int _])=on (D.tup [_,.int _]);rw[show(b.2:Int)-((WQ ps[k].1 (b.2-most)+i:Nat):Int)=((b.2-(WQ ps[k].1 (b.2-most)+i):Nat):Int) by omega]
 .rintro δ _ ⟨rfl,B,t,u,rfl⟩
  rw[tz];have h:=iA (nv:=2) (c4:=[]) (it:=di (ah 5)) (tg:=O_ (eY (i4 0) (eY (i4 1) jJ))) (tt:=fB (f2 (nX) (ah 1) (fC (.int 0)))) (f:=ah 0) (δ:=jn (uz ps r c (.lst ((na ps r c r.length).map eN)) B t u)) (β:=β) (na ps r c r.length) eN (λb=>tN b.1) (λb=>decide ((b.2:Int)=0)) rfl (λb _=>⟨[on (tN b.1),on (.int (b.2:Int))],rfl,h8 (d_ rfl rfl eq_int),λ_=>rfl⟩) (o _ (OG _));refine aq (aT h ⟨rfl,?_⟩);rw[<-I0 v,OA];rfl
theorem uL{α:Type}{tg:mm}{b:FL}{δ:Dn}{β:Bg}(u:α->D)(o:α->List D):∀(xs:List α),(∀x∈xs,∃δ1,tg (u x) δ=on δ1/\b δ1 β=on (.ok (o x),β))->nj tg (λ_=>M.ret Oq) b (xs.map u) δ β=on (.ok (xs.flatMap o),β)
 |[],_=>rfl
 |x::xs,h=>by
  obtain⟨δ1,c,d⟩:=h x Oz;have e:=uL u o xs λy f=>h y (Ot _ f);rw[OJ,nj];simp only[c,M.bind,M.ret,reduceIte,d,e,PM]
theorem kn{α:Type}{nv:Nat}{c4:List Nat}{it:FL}{tg:mm}{b:FL}{c:List D->Option D}{δ:Dn}{β:Bg}{d:D}(xs:List α)(u:α->D)(o:α->List D)(e:it δ β=on (.ok (xs.map u),β))
  (f:∀x∈xs,∃δ1,tg (u x) (lj nv c4 δ)=on δ1/\b δ1 β=on (.ok (o x),β)) (g:c (xs.flatMap o)=on d):gr nv c4 it tg (λ_=>M.ret Oq) b c δ β=on (.ok d,β):=by
 unfold gr;rw[e];simp only[uL u o xs f,g,QO]
theorem NK{α:Type}{it:FL}{tg:mm}{b:FL}{δ:Dn}{β:Bg}(xs:List α)(u:α->D)(o:α->List D)(c:it δ β=on (.ok (xs.map u),β))(d:∀x∈xs,∃δ1,tg (u x) δ=on δ1/\b δ1 β=on (.ok (o x),β)):YG it tg (λ_=>M.ret Oq) b δ β=on (.ok (xs.flatMap o),β):=by
 unfold YG M.bind;rw[c];exact uL u o xs d
noncomputable abbrev gc(B:List (List (Nat×Nat))):LP:=B.map λrow=>row.map λp=>((p.1:Int),(p.2:Int))
abbrev k_(B:List (List (Nat×Nat))):D:=c9 (gc B)
noncomputable def kq(B:List (List (Nat×Nat)))(k:Nat):List (Nat×Nat):=B.map λrow=>row.getD k (0,0)
def u_(r c:Nat)(B:List (List (Nat×Nat))):Prop:=j_ r c B/\∀row∈B,∀p∈row,p.1<=p.2/\p.2<=40
def wB(B:List (List (Nat×Nat)))(cs:List Nat):Wy:=λk r=>vB (kq B k) r (cs.getD k 0)
theorem rE(B:List (List (Nat×Nat)))(cs:List Nat):G_ cs (wB B cs):=λk r=>U5
theorem u_.col{r c k:Nat}{B:List (List (Nat×Nat))}(h:u_ r c B)(e:k<c):(kq B k).length=r/\∀p∈kq B k,p.1<=40/\p.2<=40:=by
 refine⟨by unfold kq;rw[Ol,h.1.1],λp d=>?_⟩;obtain⟨row,b,rfl⟩:=OF.mp d;have l:=h.1.2 row b;rw[dN (by omega)];have:=h.2 row b _ (Pr (show k<row.length by omega));omega
theorem JZ{r cs:List Nat}{B:List (List (Nat×Nat))}{k:Nat}(c:y_ r)(hB:u_ r.length cs.length B)(i:cs.sum<=40)(e:k<cs.length):(bS K a).1 [tN r,nL cs,k_ B,.int (k:Int)] β=on (.ok (.lst ((wB B cs k r).map tN)),β):=by
 have g:cs[k]?=on (cs.getD k 0):=by rw[Op,Os e];rfl
 obtain⟨l,q⟩:=hB.col e;unfold bS
 dsimp only
 refine aO (aq (aT (ak (aa rfl (aa (d_ rfl rfl (bT (d:= .int (cs.getD k 0:Int)) (by rw[Ox,Ox,g];rfl))) (aa ?_ rfl))) (LR c l q (OS (gZ (OT g)) i))) ⟨rfl,rfl⟩));have h:=bh (nv:=1) (c4:=[3]) (it:=di (ah 2)) (tg:=i4 0) (f:=f2 ko (ah 0) (ah 1)) (δ:=[on (tN r),on (nL cs),on (k_ B),on (.int (k:Int))]) (β:=β) B (λrow=>D.lst (row.map pN)) (λrow=>pN (row.getD k (0,0))) (cI rfl (by
  show on _=on _;rw[OA,OA];exact Py on (O5 λrow _=>Py D.lst (by show PR pD (PR _ row)=_;rw[OA];rfl)))) (λrow b=>⟨[on (D.lst (row.map pN)),on (.int (k:Int))],rfl,d_ rfl rfl (bT (by
   have l:=hB.1.2 row b;rw[Ox,dN (by omega),Os (by omega)];rfl))⟩) (bp (by rw[hB.1.1];have:=c.2.1;omega))
 refine h.trans ?_;unfold kq;rw[OA];rfl
theorem ue:∀{r v:List Nat},la v r->(r.zip v).map (λp=>D.int ((p.1:Int)-(p.2:Int)))=(nI (less r v)).map D.int
 |[],[],_=>rfl
 |x::r,y::v,h=>by
  have e:=ue h.2;have b:=h.1;show _::_=D.int ((x-y:Nat):Int)::(nI (less r v)).map D.int;rw[<-e];show D.int ((x:Int)-(y:Int))::_=_;rw[show(x:Int)-(y:Int)=((x-y:Nat):Int) by omega];rfl
 |[],_::_,h=>h.elim
 |_::_,[],h=>h.elim
theorem wJ{r v:List Nat}(h:la v r)(b:r.length<=4):(de K a).1 [tN r,tN v] β=on (.ok (tN (less r v)),β):=by
 unfold de
 dsimp only
 refine aO (aq (aT (ae (aa (x:= .lst ((nI (less r v)).map D.int)) ?_ rfl) rfl) ⟨rfl,rfl⟩));rw[<-ue h];refine bh (r.zip v) (λp=>D.tup [.int (p.1:Int),.int (p.2:Int)]) _ ?_ (λp _=>⟨[on (.int (p.1:Int)),on (.int (p.2:Int))],rfl,rfl⟩) (bp (by rw[SD];omega));rw[<-hV (λx:Nat=>D.int (x:Int)) (λx:Nat=>D.int (x:Int))];refine kD (x:=tN r) (y:=tN v) rfl rfl ?_ ?_
 .show on _=on _
  rw[OA];rfl
 .show on _=on _
  rw[OA];rfl
structure Nt0 (rs cs:List Nat):Prop where
 nr:y_ rs
 wd:pr (rs.dropLast.map (·+1))<63
 sm:rs.sum=cs.sum
 c1:1<=cs.length
 c6:cs.length<=6
structure pq (K:OX) (a:Ad) (rs cs:List Nat) (W:Wy) (bd:D):Prop extends Nt0 rs cs where
 ok:G_ cs W
 fl:∀{β:Bg} {k:Nat} {r:List Nat},k<cs.length->y_ r->r.length=rs.length->(bS K a).1 [tN r,nL cs,bd,.int (k:Int)] β=on (.ok (.lst ((W k r).map tN)),β)
theorem pq.at{rs cs r:List Nat}{k:Nat}{W:Wy}{b:D}(h:pq K a rs cs W b)(c:k<=cs.length)(d:r∈g_ W rs k):y_ r/\r.length=rs.length/\r.sum<=40:=by
 have q:=(ir h.ok h.sm k c r d).1;obtain⟨e,f,g,i⟩:=h.nr;have q1:=q.len;have q2:=q.sum;have q3:=q.pr;exact⟨⟨by omega,by omega,by omega,by omega⟩,q1,by omega⟩
abbrev lb(W:Wy)(rs:List Nat)(k:Nat):D:= .lst ((g_ W rs k).map tN)
theorem CF{rs cs:List Nat}{W:Wy}{b:D}(h:pq K a rs cs W b):(eZ K a).1 [nL rs,nL cs,b] β=on (.ok (.lst ((OB (cs.length+1)).map (lb W rs))),β):=by
 have c6:=h.c6;unfold eZ
 dsimp only
 refine aO ?_;refine aB (d:=lb W rs 0) (β1:=β) (ae (aa (ae rfl rfl) rfl) j3) ?_;refine lZ (ds:=[lb W rs 0]) (β1:=β) rfl (show 1<=OV by decide) ?_;refine bu (ds:=aZ 0 cs.length) (β1:=β) (bz (aa (ae rfl (cE (r:=cs.length) (by rw[Ol,Ol]))) rfl) (E_ (by omega) (by omega))) (λk δ c=>β=c/\∃e f,δ=[on (.sh (nL rs)),on (.sh (nL cs)),on (.sh (b)),on (.sh (lb W rs k)),on (.own ((OB (k+1)).map (lb W rs))),e,f]) ⟨rfl,Om,Om,rfl⟩ ?_ ?_
 .rintro k d δ _ hd ⟨rfl,e,f,rfl⟩
  obtain⟨g,rfl⟩:=HG hd;refine⟨_,rfl,aB (d:=lb W rs (k+1)) (β1:=β) ?_ (jH (cs:=(OB (k+1)).map (lb W rs)) (d:=lb W rs (k+1)) rfl rfl (O3 (show _<1000 by rw[Ol,OZ];omega) (by decide)) (aq (aB (d:=lb W rs (k+1)) (β1:=β) rfl (aY ⟨rfl,on (.sh (.int (k:Int))),on (.sh (lb W rs (k+1))),?_⟩))))⟩
  .refine kn (g_ W rs k) tN (λr=>(W k r).map λv=>tN (less r v)) rfl (λr j=>⟨[on (tN r),Om,on (nL cs),on (b),on (.int (k:Int))],rfl,?_⟩) ?_
   .obtain⟨i,l,_⟩:=h.at (by omega) j
    exact y7 _ tN _ (cI (ak rfl (h.fl g i l)) rfl) (λv m=>⟨[on (tN r),on (tN v),on (nL cs),on (b),on (.int (k:Int))],rfl,ak rfl (wJ (cR ((h.ok k r).subset m)) i.2.1)⟩)
   .rw[<-vE h.ok h.sm h.nr.1 h.wd g]
    unfold T_;rw[QV];simp only[OA];rfl
  .rw[Rt (n:=k+1),Pg];rfl
 .rintro δ _ ⟨rfl,e,f,rfl⟩
  rw[tz];exact aq (aT rfl ⟨rfl,rfl⟩)
theorem ow{i:Nat}{op:D->D->Option D}{f:FD}{c d z:D}{h:G}{δ:Ds}{β β1:Bg}{Q:sA->Bg->Prop}(b:(vw δ).getD i Om=on c)(e:f (vw δ) β=on (.ok d,β1))(g:op c d=on z)(k:Gw h (δ.set i (on (.sh z))) β1 Q):Gw (aN (xv i op f) h) δ β Q:=dz (by unfold xv;simp only[b,e,g,QO]) k
theorem yC{m i:Nat}{d:D}(h:(aZ 2 m)[i]?=on d):i<m/\d= .int ((i+2:Nat):Int):=by
 obtain⟨x,b,rfl⟩:=bx (f:=λ(i:Nat)=>D.int (2+(i:Int))) (xs:=OB m) h;have c:=(OI.mp b).1;rw[OZ]at c;rw[Pz c]at b;cases b;exact⟨c,by congr 1;omega⟩
theorem yz(lo:Int)(m:Nat):(aZ lo m).length=m:=by unfold aZ;rw[Ol,OZ]
theorem Y7{n:Nat}(h:n<=2^11):n<2^1000:=dX h (by decide)
theorem v4(n:Nat):dv (n-1+1)=dv n:=by cases n<;>rfl
theorem vZ{n:Nat}(h:n<=40):(i9 K a).1 [.int (n:Int)] β=on (.ok (.int ((dv n:Nat):Int)),β):=by
 unfold i9
 dsimp only
 refine aO ?_;refine aB (d:= .int 1) (β1:=β) rfl ?_;refine bu (ds:=aZ 2 (n-1)) (β1:=β) (bz (aa rfl (aa (d_ rfl rfl rfl) rfl)) (rg2 (by omega))) (λi δ b=>β=b/\∃c,δ=[on (.sh (.int (n:Int))),on (.sh (.int ((dv (i+1):Nat):Int))),c]) ⟨rfl,Om,rfl⟩ ?_ ?_
 .rintro i d δ _ hd ⟨rfl,c,rfl⟩
  obtain⟨e,rfl⟩:=yC hd;exact⟨_,rfl,aq (ow rfl rfl (qi (dX (jz (by omega)) (by decide)) (Y7 (by omega))) (aY ⟨rfl,_,rfl⟩))⟩
 .rintro δ _ ⟨rfl,c,rfl⟩
  rw[yz,v4];exact aq (aT rfl ⟨rfl,rfl⟩)
theorem ud{n:Nat}(h:n<=40):(gE K a).1 [.int (n:Int)] β=on (.ok (.int ((dv n:Nat):Int)),β):=by
 unfold gE
 dsimp only
 refine aO ?_;refine aB (d:= .int 1) (β1:=β) rfl ?_;refine bu (ds:=aZ 2 (n-1)) (β1:=β) (bz (aa rfl (aa (d_ rfl rfl rfl) rfl)) (rg2 (by omega))) (λi δ b=>β=b/\∃c,δ=[on (.sh (.int (n:Int))),on (.sh (.int ((dv (i+1):Nat):Int))),c]) ⟨rfl,Om,rfl⟩ ?_ ?_
 .rintro i d δ _ hd ⟨rfl,c,rfl⟩
  obtain⟨e,rfl⟩:=yC hd;exact⟨_,rfl,aq (aB (d_ rfl rfl (qi (dX (jz (by omega)) (by decide)) (Y7 (by omega)))) (aY ⟨rfl,_,rfl⟩))⟩
 .rintro δ _ ⟨rfl,c,rfl⟩
  rw[yz,v4];exact aq (aT rfl ⟨rfl,rfl⟩)
def KX(l:List Nat):Nat:=dv l.sum/pr (l.map dv)
theorem MZ{l:List Nat}{d:D}(h:Sq l d):oE [d]=on (.int ((l.sum:Nat):Int)):=by
 rw[<-gl];rcases h with rfl|rfl
 .exact Kr _
 .exact Kq _
theorem ju(l:List Nat):fm [nL l]=on (.int ((l.sum:Nat):Int)):=by rw[<-gl];exact d9 _
theorem sf{l:List Nat}{i n:Nat}(h:l.sum<=40)(hn:l[i]?=on n):n<=40:=OS (gZ (OT hn)) h
theorem IH{l:List Nat}{cd:D}(hs:Sq l cd)(h:l.sum<=40):(tK K a).1 [cd] β=on (.ok (.int ((KX l:Nat):Int)),β):=by
 unfold tK
 dsimp only
 refine aO ?_;refine bu (ds:=(nI l).map D.int) (β1:=β) (cI rfl hs.seq) (λi δ c=>β=c/\∃b,δ=[on (.sh cd),b,Om]) ⟨rfl,Om,rfl⟩ ?_ ?_
 .rintro i d δ _ hd ⟨rfl,b,rfl⟩
  obtain⟨n,hn,rfl⟩:=mz hd;exact⟨_,rfl,aq (dA (β1:=β) (h8 (d_ rfl rfl (by show on (D.bl (decide ((n:Int)<0)))=_;rw[Pp (by omega)]))) (bo (aY ⟨rfl,_,rfl⟩)))⟩
 rintro δ _ ⟨rfl,b,rfl⟩;refine aB (d:= .int ((dv l.sum:Nat):Int)) (β1:=β) (ak (aa (ae rfl (MZ hs)) rfl) (vZ h)) ?_;refine bu (ds:=(nI l).map D.int) (β1:=β) (cI rfl hs.seq) (λi δ c=>β=c/\∃b,δ=[on (.sh cd),b,on (.sh (.int ((dv l.sum/pr ((l.take i).map dv):Nat):Int)))]) ⟨rfl,b,by rw[Wb,RI,K0,Nat.div_one];rfl⟩ ?_ ?_
 .rintro i d δ _ hd ⟨rfl,b,rfl⟩
  obtain⟨n,hn,rfl⟩:=mz hd;refine⟨_,rfl,aq (ow rfl (ak rfl (vZ (sf h hn))) (Ix (jy n) (dX (jz (sf h hn)) (by decide))) (aY ⟨rfl,on (.sh (.int (n:Int))),?_⟩))⟩;rw[gX hn,WV];rfl
 .rintro δ _ ⟨rfl,b,rfl⟩
  rw[tY,Ql];exact aq (aT rfl ⟨rfl,rfl⟩)
theorem v3{l:List Nat}{i:Nat}(h:l.sum<=40)(c:l.length<=4):pr ((l.take i).map dv)<=2^640:=by
 refine OS (HL (m:=160) λx b=>?_) (Tk (by decide) ?_)
 .obtain⟨n,hn,rfl⟩:=OF.mp b
  exact jz (OS (gZ (UV hn)) h)
 .rw[Ol,Qi];omega
theorem CO{l:List Nat}(h:l.sum<=40)(e:l.length<=4):(nJ K a).1 [nL l] β=on (.ok (.int ((KX l:Nat):Int)),β):=by
 unfold nJ
 dsimp only
 refine aO ?_;refine aB (d:= .int 1) (β1:=β) rfl ?_;refine bu (ds:=(nI l).map D.int) (β1:=β) rfl (λi δ b=>β=b/\∃c,δ=[on (.sh (nL l)),on (.sh (.int ((pr ((l.take i).map dv):Nat):Int))),c]) ⟨rfl,Om,rfl⟩ ?_ ?_
 .rintro i d δ _ hd ⟨rfl,c,rfl⟩
  obtain⟨n,hn,rfl⟩:=mz hd;refine⟨_,rfl,aq (aB (d_ rfl (ak rfl (ud (sf h hn))) (qi (dX (v3 h e) (by decide)) (dX (jz (sf h hn)) (by decide)))) (aY ⟨rfl,on (.sh (.int (n:Int))),?_⟩))⟩;rw[gX hn];rfl
 .rintro δ _ ⟨rfl,c,rfl⟩
  rw[tY,Ql];have f:=v3 (i:=l.length) h e;rw[Ql]at f;exact aq (aT (d_ (ak (aa (ae rfl (ju l)) rfl) (ud h)) rfl (Ix (tL λx g=>by obtain⟨n,_,rfl⟩:=OF.mp g;exact jy n) (dX f (by decide)))) ⟨rfl,rfl⟩)
theorem sE{l:List Nat}(h:l.sum<=40):KX l<=2^160:=OS (VY _ _) (jz h)
theorem sD(l:List Nat):KX l=mu l:=Ln l
theorem HS{l:List Nat}(h:l.sum<=40):mu l<=2^160:=by rw[<-sD];exact sE h
theorem HA{α:Type}{l:List α}{i:Nat}{x:α}(f:α->Nat)(h:l[i]?=on x):L2.Nt.sm (l.take (i+1)) f=L2.Nt.sm (l.take i) f+f x:=by
 rw[Yi,h,sP];rfl
abbrev cv(W:Wy)(m k:Nat)(r:List Nat):D:= .tup [.int ((oD W (m-k) k r:Nat):Int),.int ((F3 W (m-k) k r:Nat):Int)]
abbrev pj(W:Wy)(rs:List Nat)(m k:Nat):D:= .dct Ov ((g_ W rs k).map λr=>((0:Int),nI r)) ((g_ W rs k).map (cv W m k))
theorem zn{f:List Nat->D}{u:List Nat}:∀{L:List (List Nat)},u∈L->lm (L.map λr=>((0:Int),nI r)) (L.map f) (0,nI u)=on (f u)
 |r::L,h=>by
  unfold lm;rw[OJ,OJ,QX,Rr];by_cases q:r=u
  .rw[q,OO rfl];rfl
  .rw[Pp λe=>q (gm (Sk.mp e).2)]
   exact zn ((ON.mp h).resolve_left λe=>q e.symm)
theorem LX{W:Wy}{rs u:List Nat}{m k:Nat}(h:u∈g_ W rs k):DS (pj W rs m k) (tN u)=on (cv W m k u):=by
 show(fK Ov (dK Ov (0,nI u))).bind _=_;rw[mE λ_=>rfl];exact zn h
theorem wU{rs cs r:List Nat}{W:Wy}{q:D}{k:Nat}(h:pq K a rs cs W q)(o:k<cs.length)(p:r∈g_ W rs k):(gD K a).1 [tN r,.lst ((W k r).map tN),pj W rs cs.length (k+1)] β=on (.ok (cv W cs.length k r),β):=by
 obtain⟨t,y,u⟩:=h.at (by omega) p;unfold gD
 dsimp only
 refine aO ?_;refine aB (d:= .int 0) (β1:=β) rfl (aB (d:= .int 0) (β1:=β) rfl ?_);refine bu (ds:=(W k r).map tN) (β1:=β) rfl (λi δ e=>β=e/\∃f g j,δ=[on (.sh (tN r)),on (.sh (.lst ((W k r).map tN))),on (.sh (pj W rs cs.length (k+1))),on (.sh (.int ((L2.Nt.sm ((W k r).take i) λv=>oD W (cs.length-(k+1)) (k+1) (less r v):Nat):Int))),on (.sh (.int ((L2.Nt.sm ((W k r).take i) λv=>mu v*F3 W (cs.length-(k+1)) (k+1) (less r v):Nat):Int))),f,g,j]) ⟨rfl,Om,Om,Om,rfl⟩ ?_ ?_
 .rintro i d δ _ hd ⟨rfl,f,g,j,rfl⟩
  obtain⟨v,l,rfl⟩:=bx hd;have hm:=OT l;have m:less r v∈g_ W rs (k+1):=fX.mpr ⟨r,p,v,hm,rfl⟩;have b:=(h.ok k r).subset hm;have hs:=(ir h.ok h.sm (k+1) o _ m).2;have c:v.sum<=40:=OS (cR b).sum u;have n:=(h.at o m).2.2;refine⟨_,rfl,GQ (d:=cv W cs.length (k+1) (less r v)) (β1:=β) (d_ rfl (ak rfl (wJ (cR b) t.2.1)) (LX m)) rfl (ow rfl rfl rfl (aq (ow rfl (d_ (ak rfl (IH (.inr rfl) c)) rfl (qi (dX (sE c) (by decide)) (dX (OS (zY h.ok _ _ _ (by omega)) (by rw[pO _ _ hs];exact HS n)) (by decide)))) rfl (aY ⟨rfl,on (.sh (tN v)),on (.sh (.int ((oD W (cs.length-(k+1)) (k+1) (less r v):Nat):Int))),on (.sh (.int ((F3 W (cs.length-(k+1)) (k+1) (less r v):Nat):Int))),?_⟩))))⟩;rw[HA _ l,HA _ l,sD,UL,UL];rfl
 .rintro δ _ ⟨rfl,f,g,j,rfl⟩
  rw[Ol,Ql];refine aq (aT (ae rfl eF) ⟨rfl,?_⟩);show Q3 (D.tup [.int ((oD W (cs.length-k) k r:Nat):Int),.int ((F3 W (cs.length-k) k r:Nat):Int)])=_;rw[show cs.length-k=cs.length-(k+1)+1 by omega];rfl
theorem wk{f g:FD}{δ:Dn}{k v:D}(b:f δ β=on (.ok k,β))(c:g δ β=on (.ok v,β)):DY f g δ β=on (.ok [.tup [k,v]],β):=by
 unfold DY M.bind;rw[b];simp only[c,M.ret]
theorem ux{α b:Type}(f:α->b)(l:List α):(l.flatMap λx=>[f x])=l.map f:=by
 induction l with
 |nil=>rfl
 |cons x l ih=>rw[PM,ih];rfl
theorem o9{rs cs:List Nat}{W:Wy}{b:D}(h:pq K a rs cs W b){k:Nat}(c:k<=cs.length):(g_ W rs k).length<=62:=by
 have:=JD h.ok h.sm c;have:=h.wd;omega
theorem dk0{rs cs:List Nat}{W:Wy}{b:D}(h:pq K a rs cs W b){k:Nat}(c:k<=cs.length){os:List D}(e:os=(g_ W rs k).map λr=> .tup [tN r,cv W cs.length k r]):ki Ov os=on (pj W rs cs.length k):=by
 refine(v9 (kvs:=(g_ W rs k).map λr=>(((0:Int),nI r),cv W cs.length k r)) ⟨?_,?_,?_,?_⟩).trans ?_
 .rw[e,OA];rfl
 .rw[OA];exact ze (λx y q=>gm (Sk.mp q).2) (ua k)
 .rw[Ol];exact bp (by have:=o9 h c;omega)
 .rintro p d _
  obtain⟨r,_,rfl⟩:=OF.mp d;rfl
 .rw[OA,OA];rfl
theorem Nw{n:Nat}(h:n<=1000):rJ [.int (n:Int)]=on (gN n):=by
 simp only[rJ];rw[OE (by simp only[Pc,Pq];omega),P3]
theorem Nx{n i:Nat}{d:D}(h:(gN n)[i]?=on d):i<n/\d= .int ((n-1-i:Nat):Int):=by
 obtain⟨x,b,rfl⟩:=bx (f:=λ(i:Nat)=>D.int ((n:Int)-1-i)) (xs:=OB n) h;have c:=(OI.mp b).1;rw[OZ]at c;rw[Pz c]at b;cases b;exact⟨c,by congr 1;omega⟩
theorem yB{f:Nat->D}{n k:Nat}(h:k<n):((OB n).map f)[k]?=on (f k):=by rw[Ox,Pz h];rfl
theorem zX{f:Nat->D}:∀n j,cj j ((List.range' j n).map f)=(List.range' j n).map λk=> .tup [.int (k:Int),f k]
 |0,_=>rfl
 |n+1,j=>by
  rw[List.range'_succ,OJ,OJ,<-zX n (j+1)];rfl
theorem Ji{f:Nat->D}(m:Nat):((OB (m+1)).map λj=>f (m-j)).reverse=(OB (m+1)).map f:=QG (by simp) λi b c=>by
 simp only[Xx,Ol,OZ]at b;simp only[Xl,Rh,RH,Ol,OZ];congr 1;omega
abbrev GB(W:Wy)(rs:List Nat)(m:Nat):List D:=(OB (m+1)).flatMap λk=>(g_ W rs k).map (cv W m k)
abbrev qx(W:Wy)(rs:List Nat)(m:Nat):D:= .dct Oq (Wi W rs (m+1)) (GB W rs m)
theorem dk1{rs cs:List Nat}{W:Wy}{b:D}(h:pq K a rs cs W b){os:List D}(e:os=(OB (cs.length+1)).flatMap λ(k:Nat)=>(g_ W rs k).map λr=> .tup [.tup [.int (k:Int),tN r],cv W cs.length k r]):ki Oq os=on (qx W rs cs.length):=by
 refine(v9 (kvs:=(OB (cs.length+1)).flatMap λ(k:Nat)=>(g_ W rs k).map λr=>(((k:Int),nI r),cv W cs.length k r)) ⟨?_,?_,?_,?_⟩).trans ?_
 .rw[e,QV];simp only[OA];rfl
 .have:=zA (W:=W) (rs:=rs) (cs.length+1)
  unfold Wi at this;rw[QV];simp only[OA];exact this
 .refine bp (OS (g0 (n:=62) λk c=>?_) (by have:=h.c6;rw[OZ];omega))
  have:=OY.mp c;rw[Ol];exact o9 h (by omega)
 .rintro p _ q
  cases q
 .unfold qx Wi
  rw[QV,QV];simp only[OA];rfl
theorem xE{rs cs:List Nat}{W:Wy}{b:D}(h:pq K a rs cs W b):(dO K a).1 [nL rs,nL cs,b] β=on (.ok (qx W rs cs.length),β):=by
 have c6:=h.c6;unfold dO
 dsimp only
 refine aO ?_;refine aB (d:= .lst ((OB (cs.length+1)).map (lb W rs))) (β1:=β) (ak rfl (CF h)) ?_;refine aB (d:= .int (cs.length:Int)) (β1:=β) (ae rfl (cE (by rw[Ol,Ol]))) ?_;refine aB (d:=pj W rs cs.length cs.length) (β1:=β) (kn (g_ W rs cs.length) tN (λr=>[.tup [tN r,.tup [.int 1,.int 1]]]) (cI (d_ rfl rfl (bT (yB (by omega)))) rfl) (λr _=>⟨[on (tN r)],rfl,wk rfl (ae rfl eF)⟩) (dk0 h (OG _) (by rw[ux];simp only[cv,UJ];rfl))) ?_;refine lZ (ds:=[pj W rs cs.length cs.length]) (β1:=β) rfl (show 1<=OV by decide) ?_;refine bu (ds:=gN cs.length) (β1:=β) (bz rfl (Nw (by omega))) (λi δ c=>β=c/\∃e f,δ=[on (.sh (nL rs)),on (.sh (nL cs)),on (.sh (b)),on (.sh (.lst ((OB (cs.length+1)).map (lb W rs)))),on (.sh (.int (cs.length:Int))),on (.sh (pj W rs cs.length (cs.length-i))),on (.own ((OB (i+1)).map λj=>pj W rs cs.length (cs.length-j))),e,f]) ⟨rfl,Om,Om,rfl⟩ ?_ ?_
 .rintro i d δ _ hd ⟨rfl,e,f,rfl⟩
  obtain⟨p,rfl⟩:=Nx hd;have l:cs.length-1-i<cs.length:=by omega
  have o:cs.length-i=(cs.length-1-i)+1:=by omega
  have m:cs.length-(i+1)=cs.length-1-i:=by omega
  rw[o];refine⟨_,rfl,aB (d:=pj W rs cs.length (cs.length-1-i+1)) (β1:=β) rfl (aB (d:=pj W rs cs.length (cs.length-1-i)) (β1:=β) (kn (g_ W rs (cs.length-1-i)) tN (λr=>[.tup [tN r,cv W cs.length (cs.length-1-i) r]]) (cI (d_ rfl rfl (bT (yB (by omega)))) rfl) (λr g=>⟨[on (tN r),on (nL cs),on (b),on (.int ((cs.length-1-i:Nat):Int)),on (pj W rs cs.length (cs.length-1-i+1))],rfl,wk rfl (ak (aa rfl (aa (ak rfl (h.fl l (h.at (by omega) g).1 (h.at (by omega) g).2.1)) rfl)) (wU h l g))⟩) (dk0 h (by omega) (ux _ _))) (aq (jH (cs:=(OB (i+1)).map λj=>pj W rs cs.length (cs.length-j)) (d:=pj W rs cs.length (cs.length-1-i)) rfl rfl (O3 (show _<1000 by rw[Ol,OZ];omega) (by decide)) (aY ⟨rfl,on (.sh (.int ((cs.length-1-i:Nat):Int))),on (.sh (pj W rs cs.length (cs.length-1-i+1))),?_⟩))))⟩;rw[Rt (n:=i+1),Pg,m];show _=[_,_,_,_,_,_,on (Sl.own (_++[pj W rs cs.length (cs.length-(i+1))])),_,_];rw[m];rfl
 .rintro δ _ ⟨rfl,e,f,rfl⟩
  rw[show(gN cs.length).length=cs.length by unfold gN;rw[Ol,OZ]];refine aq (aT (kn (OB (cs.length+1)) (λk=> .tup [.int (k:Int),pj W rs cs.length k]) (λ(k:Nat)=>(g_ W rs k).map λr=> .tup [.tup [.int (k:Int),tN r],cv W cs.length k r]) (bz (aa (d_ (y:= .int (-1)) rfl rfl rfl) rfl) ?_) (λk _=>⟨[on (.int (k:Int)),on (pj W rs cs.length k),Om,Om],rfl,?_⟩) (dk1 h rfl)) ⟨rfl,rfl⟩)
  .show on (cj 0 _)=_
   rw[Ji,List.range_eq_range',zX]
  .refine(NK (g_ W rs k) (λr=> .tup [tN r,cv W cs.length k r]) (λr=>[.tup [.tup [.int (k:Int),tN r],cv W cs.length k r]]) ?_ (λr _=>⟨[on (.int (k:Int)),on (pj W rs cs.length k),on (tN r),on (cv W cs.length k r)],rfl,wk (ae rfl eF) rfl⟩)).trans (by rw[ux])
   show on (Q3 (TC _ _ _),β)=_;rw[List.zipWith_map_left,List.zipWith_map_right,List.zipWith_self];rfl
theorem Zt{r c:Nat}{ba:LI}(sh:j_ r c ba)(r0:1<=r)(r1:r<=30)(c1:c<=30){δ:Dn}(h:δ.getD 0 Om=on (f0 ba)):ci 1 [0] (cZ fU (ag (aP e8 (ag (f2 ko (ah 0) (fC (.int 0))) (aF))) (aF))) (i4 0) (λ_=>M.ret Oq) (ln (ci 1 [0] (di (ah 1)) (i4 0) (λ_=>M.ret Oq) (ln (f2 ko (ah 0) (ah 1))))) δ β=on (.ok (f0 (tp c ba)),β):=by
 obtain⟨b,d,g⟩:=sh.at (i:=0) (by omega);have k:(gI ba)[0]?=on (b.map D.int):=by rw[Ox,d];rfl
 have o:aP e8 (ag (f2 ko (ah 0) (fC (.int 0))) (aF)) δ β=on (.ok (.int (c:Int)),β):=ae (aa (x:= .lst (b.map D.int)) (d_ (x:=f0 ba) (oi h) rfl (rS k)) rfl) (cE (by rw[Ol,g]));have e:=bh (nv:=1) (c4:=[0]) (it:=cZ fU (ag (aP e8 (ag (f2 ko (ah 0) (fC (.int 0))) (aF))) (aF))) (tg:=i4 0) (f:=ci 1 [0] (di (ah 1)) (i4 0) (λ_=>M.ret Oq) (ln (f2 ko (ah 0) (ah 1)))) (δ:=δ) (β:=β) (OB c) (λi=>D.int (0+(i:Int))) (λj=>D.lst (ba.map λrow=>D.int (row.getD j 0))) (bz (ds:=aZ 0 c) (aa o rfl) (E_ (by omega) (by omega))) ?_ (bp (by rw[OZ];omega))
 .rw[e]
  unfold tp t_;show _=on (Q3 (D.lst (PR D.lst (PR _ (PR _ _)))),β);rw[OA,OA];congr 4;refine O5 λj _=>?_;show _=D.lst ((ba.map λrow=>row.getD j 0).map D.int);rw[OA];rfl
 .intro j p
  have q:=OY.mp p;have m:lj 1 [0] δ=[Om,on (f0 ba)]:=by
   unfold lj;simp only[OJ,RI,h];rfl
  refine⟨[on (.int (0+(j:Int))),on (f0 ba)],by rw[m];rfl,?_⟩;have hm:(gI ba).map D.lst=ba.map λrow=>D.lst (row.map D.int):=by rw[OA];rfl
  refine bh (nv:=1) (c4:=[0]) ba (λrow=>D.lst (row.map D.int)) _ (by show on (Q3 ((gI ba).map D.lst),β)=_;rw[hm]) (λrow t=>⟨_,rfl,d_ (x:= .lst (row.map D.int)) (y:= .int (0+(j:Int))) rfl rfl ?_⟩) (bp (by rw[sh.1];omega));have u:=sh.2 row t;obtain⟨x,n⟩:=IB (l:=row) (i:=j) (by omega);rw[SU];refine bT ?_;rw[Ox,n,Op,n];rfl
theorem w5{r c:Nat}{ba:LI}(sh:j_ r c ba)(r0:1<=r)(r1:r<=30)(c1:c<=30):(oW K a).1 [f0 ba] β=on (.ok (f0 (tp c ba)),β):=
 aO (aq (aT (Zt sh r0 r1 c1 rfl) ⟨rfl,rfl⟩))
noncomputable abbrev iL(xs:List Int):D:= .lst (xs.map D.int)
theorem ye{ba:LI}(h:ba.length<=1000){f:FD}{δ:Dn}(e:f δ β=on (.ok (f0 ba),β)):ci 1 [] (di f) (i4 0) (λ_=>M.ret Oq) (ln (aP fm (ag (ah 0) (aF)))) δ β=on (.ok (iL (ba.map Qt)),β):=by
 have hm:(gI ba).map D.lst=ba.map λrow=>D.lst (row.map D.int):=by rw[OA];rfl
 have:=bh (nv:=1) (c4:=[]) (it:=di f) (tg:=i4 0) (f:=aP fm (ag (ah 0) (aF))) (δ:=δ) (β:=β) ba (λrow=>D.lst (row.map D.int)) (λrow=>D.int row.sum) (by rw[<-hm];exact cI e rfl) (λrow _=>⟨_,rfl,ae rfl (d9 row)⟩) (bp h);rw[this];show _=on (Q3 (D.lst ((ba.map Qt).map D.int)),β);rw[OA];rfl
theorem oU{ba:LI}(h:ba.length<=1000):(i7 K a).1 [f0 ba] β=on (.ok (iL (ba.map Qt)),β):=
 aO (aq (aT (ye h rfl) ⟨rfl,rfl⟩))
theorem kC{r c:Nat}{ba:LI}(sh:j_ r c ba)(r0:1<=r)(r1:r<=30)(c1:c<=30):(fW K a).1 [f0 ba] β=on (.ok (iL ((tp c ba).map Qt)),β):=
 aO (aq (aT (ye (by rw[(qa (d:=(0:Int)) (c:=c) sh.1).1];omega) (ak rfl (w5 sh r0 r1 c1))) ⟨rfl,rfl⟩))
noncomputable def gp(G:LI)(i j:Nat):Int:=(G.getD i []).getD j 0
theorem Ob{G:LI}{i j:Nat}{row:List Int}{x:Int}(b:G[i]?=on row)(c:row[j]?=on x):gp G i j=x:=by
 unfold gp;simp only[Op,b,c,Option.getD_some]
theorem zQ{G:LI}{i j:Nat}{row:List Int}(b:G[i]?=on row):row.getD j 0=gp G i j:=by
 unfold gp;rw[Op (l:=G),b];rfl
theorem AJ:∀(xs:List Int),S xs.length (λj=>xs.getD j 0)=xs.sum:=λxs=>by
 unfold S;congr 1;refine QG (by simp) λi c b=>?_;rw[Rh,RH,Op,Os b];rfl
theorem M1{r c i:Nat}{A:LI}(d:j_ r c A)(e:i<r):S c (gp A i)=(A.map Qt).getD i 0:=by
 obtain⟨f,b,g⟩:=d.at e;rw[Op,Ox,b];show _=f.sum;rw[<-AJ,g];exact dn λj _=>(zQ b).symm
theorem M2{r c j:Nat}{A:LI}(b:j_ r c A)(f:j<c):S r (λp=>gp A p j)=((tp c A).map Qt).getD j 0:=by
 have e:(tp c A)[j]?=on (A.map λrow=>row.getD j 0):=by
  show((OB c).map λj=>A.map λrow=>row.getD j 0)[j]?=_;rw[Ox,Pz f];rfl
 rw[Op,Ox,e];show _=(A.map λrow=>row.getD j 0).sum;rw[<-AJ,Ol,b.1];refine dn λp g=>?_;obtain⟨h,d,i⟩:=b.at g;rw[Op (l:=A.map _),Ox,d];exact(zQ d).symm
theorem zb{rs:List Int}{b:List Nat}(c:∀i∈b,i<rs.length)(d:b.length<=1000):(kU K a).1 [iL rs,nL b] β=on (.ok (.int (o7 rs b)),β):=by
 unfold kU
 dsimp only
 refine aO (aq (aT (ae (aa (x:=iL (b.map λi=>rs.getD i 0)) ?_ rfl) (d9 _)) ⟨rfl,rfl⟩));have:=bh (nv:=1) (c4:=[0]) (it:=di (ah 1)) (tg:=i4 0) (f:=f2 ko (ah 1) (ah 0)) (δ:=[on (iL rs),on (nL b)]) (β:=β) b (λi=>D.int (i:Int)) (λi=>D.int (rs.getD i 0)) (by show on (Q3 ((nI b).map D.int),β)=_;rw[OA];rfl) (λi e=>⟨_,rfl,d_ rfl rfl (HZ (c i e))⟩) (bp d);refine this.trans ?_;show _=on (Q3 (D.lst ((b.map λi=>rs.getD i 0).map D.int)),β);rw[OA];rfl
theorem qY{r c j:Nat}{cs:List Int}{b:LP}{g:List Nat}(sh:j_ r c b)(n:cs.length=c)(k:r<=1000)(l:j<c):(cT K a).1 [iL cs,c9 b,nL g,.int (j:Int)] β=on (.ok (.int (eC cs b r g j)),β):=by
 unfold cT
 dsimp only
 refine aO ?_;refine aB (d:=iL (((OB r).filter λi=>!decide (i∈g)).map λi=>(bI b i j).1)) (β1:=β) ?_ ?_
 .have m:((gP b).map D.lst).length=r:=by rw[Ol,Ol,sh.1]
  have:=iA (nv:=2) (c4:=[2,3]) (it:=HR (ag (ah 1) aF)) (tg:=O_ (eY (i4 0) (eY (i4 1) jJ))) (tt:=fB (f2 (L4 Oq) (ah 0) (ah 2))) (f:=f2 ko (f2 ko (ah 1) (ah 3)) (fC (.int 0))) (δ:=[on (iL cs),on (c9 b),on (nL g),on (.int (j:Int)),Om]) (β:=β) (OB r) (λi=>D.tup [.int (i:Int),.lst ((b.getD i []).map pD)]) (λi=>D.int (bI b i j).1) (λi=>!decide (i∈g)) ?_ (λi h=>⟨_,rfl,h8 (d_ rfl rfl ur),λ_=>d_ (d_ rfl rfl (uk sh (OY.mp h) l).2) rfl uj⟩) (bp (by rw[OZ];exact k))
  .refine this.trans ?_
   show _=on (Q3 (D.lst ((((OB r).filter λi=>!decide (i∈g)).map λi=>(bI b i j).1).map D.int)),β);rw[OA];rfl
  .show on (Q3 (cj 0 ((gP b).map D.lst)),β)=_
   rw[m8,m];congr 3;refine O5 λi h=>?_;rw[QN];congr 3;obtain⟨e,_⟩:=sh.getD (OY.mp h);rw[Op,Ox,Ox,e];rfl
 refine aq (aT (d_ (x:= .int (cs.getD j 0)) (d_ rfl rfl (HZ (by omega))) (ae rfl (d9 _)) rfl) ⟨rfl,?_⟩);have e:(OB r).map (λi=>if i∈g then(0:Int)else(bI b i j).1)=(OB r).map (λx=>if(!decide (x∈g))=Oq then(bI b x j).1 else 0):=O5 λi _=>by by_cases q:i∈g<;>simp[q]
 unfold eC S;rw[vY,e]
theorem rA{r c j:Nat}{b:LP}{d:List Nat}(sh:j_ r c b)(e:∀i∈d,i<r)(k:d.length<=1000)(g:j<c):(cU K a).1 [c9 b,nL d,.int (j:Int)] β=on (.ok (.int (fc b d j)),β):=by
 unfold cU
 dsimp only
 refine aO (aq (aT (ae (aa (x:=iL (d.map λi=>(bI b i j).2)) ?_ rfl) (d9 _)) ⟨rfl,rfl⟩));have:=bh (nv:=1) (c4:=[0,2]) (it:=di (ah 1)) (tg:=i4 0) (f:=f2 ko (f2 ko (f2 ko (ah 1) (ah 0)) (ah 2)) (fC (.int 1))) (δ:=[on (c9 b),on (nL d),on (.int (j:Int))]) (β:=β) d (λi=>D.int (i:Int)) (λi=>D.int (bI b i j).2) (by show on (Q3 ((nI d).map D.int),β)=_;rw[OA];rfl) (λi h=>⟨_,rfl,d_ (d_ (d_ rfl rfl (uk sh (e i h) g).1) rfl (uk sh (e i h) g).2) rfl LA⟩) (bp k);refine this.trans ?_;show _=on (Q3 (D.lst ((d.map λi=>(bI b i j).2).map D.int)),β);rw[OA];rfl
theorem yy{r c:Nat}{cs:List Int}{b:LP}{d e:List Nat}(sh:j_ r c b)(k:cs.length=c)(l:r<=1000)(h:c<=1000)(m:∀i∈d,i<r)(n:d.length<=1000):(kT K a).1 [iL cs,c9 b,nL d,nL e] β=on (.ok (.int (rK cs b r c d e)),β):=by
 unfold kT
 dsimp only
 refine aO (aq (aT (ae (aa (x:=iL ((OB c).map λj=>if j∈e then eC cs b r d j else fc b d j)) ?_ rfl) (d9 _)) ⟨rfl,rfl⟩));have:=bh (nv:=1) (c4:=[3,0,1,2]) (it:=cZ fU (ag (aP e8 (ag (ah 0) (aF))) (aF))) (tg:=i4 0) (f:=YF (fB (f2 (L4 Ov) (ah 0) (ah 1))) (eX (cT K a).1 (ag (ah 2) (ag (ah 3) (ag (ah 4) (ag (ah 0) (aF)))))) (eX (cU K a).1 (ag (ah 3) (ag (ah 4) (ag (ah 0) (aF)))))) (δ:=[on (iL cs),on (c9 b),on (nL d),on (nL e)]) (β:=β) (OB c) (λj=>D.int (0+(j:Int))) (λj=>D.int (if j∈e then eC cs b r d j else fc b d j)) (bz (ds:=aZ 0 c) (aa (ae rfl (cE (by rw[Ol,k]))) rfl) (E_ (by omega) (by omega))) (λj o=>⟨[on (.int (j:Int)),on (nL e),on (iL cs),on (c9 b),on (nL d)],by rw[SU];rfl,?_⟩) (bp (by rw[OZ];exact h))
 .refine this.trans ?_
  show _=on (Q3 (D.lst (((OB c).map λj=>if j∈e then eC cs b r d j else fc b d j).map D.int)),β);rw[OA];rfl
 .have g:=OY.mp o
  by_cases q:j∈e
  .rw[OE q]
   exact M6 (h8 (d_ rfl rfl (by rw[ur];simp[q]))) (ak rfl (qY sh k l g))
  .rw[OC q]
   exact M7 (h8 (d_ rfl rfl (by rw[ur];simp[q]))) (ak rfl (rA sh m n g))
theorem zf{r c:Nat}{cs:List Int}{b:LP}{d:List Nat}(sh:j_ r c b)(g:cs.length=c)(l:r<=1000)(e:c<=1000)(m:∀i∈d,i<r)(n:d.length<=1000):(i6 K a).1 [iL cs,c9 b,nL d] β=on (.ok (nL (tX cs b r c d)),β):=by
 unfold i6
 dsimp only
 refine aO ?_;have h:=iA (nv:=1) (c4:=[0,1,2]) (it:=cZ fU (ag (aP e8 (ag (ah 0) (aF))) (aF))) (tg:=i4 0) (tt:=fB (f2 (YO) (eX (cT K a).1 (ag (ah 1) (ag (ah 2) (ag (ah 3) (ag (ah 0) (aF)))))) (eX (cU K a).1 (ag (ah 2) (ag (ah 3) (ag (ah 0) (aF))))))) (f:=ah 0) (δ:=[on (iL cs),on (c9 b),on (nL d)]) (β:=β) (OB c) (λj=>D.int (0+(j:Int))) (λj=>D.int (j:Int)) (λj=>decide (eC cs b r d j<fc b d j))
  (bz (ds:=aZ 0 c) (aa (ae rfl (cE (by rw[Ol,g]))) rfl) (E_ (by omega) (by omega)))
  (λj k=>⟨[on (.int (j:Int)),on (iL cs),on (c9 b),on (nL d)],by rw[SU];rfl,h8 (d_ (ak rfl (qY sh g l (OY.mp k))) (ak rfl (rA sh m n (OY.mp k))) rfl),λ_=>rfl⟩) (bp (by rw[OZ];exact e))
 refine aq (aT h ⟨rfl,?_⟩);show Q3 (D.lst ((nI (tX cs b r c d)).map D.int))=_;rw[OA];rfl
theorem KJ{n i:Nat}{d:D}(h:(aZ 0 n)[i]?=on d):i<n/\d= .int (i:Int):=by
 obtain⟨x,b,rfl⟩:=bx (f:=λ(i:Nat)=>D.int (0+(i:Int))) (xs:=OB n) h;have c:=(OI.mp b).1;rw[OZ]at c;rw[Pz c]at b;cases b;exact⟨c,by rw[SU]⟩
theorem xH{n:Nat}(hn:n<=6):(kX K a).1 [.int (n:Int)] β=on (.ok (.lst ((r8 n).map nL)),β):=by
 unfold kX
 dsimp only
 refine aO ?_;refine aB (d:= .lst [.lst []]) (β1:=β) (ae (aa (ae rfl CP) rfl) j3) ?_;refine bu (ds:=aZ 0 n) (β1:=β) (bz rfl (E_ (by omega) (by omega))) (λi δ b=>β=b/\∃c,δ=[on (.sh (.int (n:Int))),on (.sh (.lst ((r8 i).map nL))),c]) ⟨rfl,Om,rfl⟩ ?_ ?_
 .rintro i d δ _ hd ⟨rfl,c,rfl⟩
  obtain⟨g,rfl⟩:=KJ hd;have j:(r8 i).length<=64:=by rw[wc];exact OS (Tk (by decide) (show i<=6 by omega)) (by decide)
  refine⟨[on (.sh (.int (n:Int))),on (.sh (.lst ((r8 i).map nL))),on (.sh (.int (i:Int)))],rfl,aq (aB (d:= .lst ((r8 (i+1)).map nL)) (β1:=β) ?_ (aY ⟨rfl,_,rfl⟩))⟩;have h:=bh (nv:=1) (c4:=[2]) (it:=di (ah 1)) (tg:=i4 0) (f:=f2 jf (ah 0) (aP jX (ag (ah 1) (aF)))) (δ:=vw [on (.sh (.int (n:Int))),on (.sh (.lst ((r8 i).map nL))),on (.sh (.int (i:Int)))]) (β:=β) (r8 i) nL (λl=>nL (l++[i])) rfl (λl e=>⟨[on (nL l),on (.int (i:Int))],rfl,by
   have k:l.length<=i:=by have:=(hG i l e).length_le;rwa[OZ]at this
   refine d_ rfl (ae rfl j3) ((mV ?_).trans ?_)
   .rw[Ol,Ol,PL];omega
   .simp only[nL,nI,Pg,OJ,RI]⟩) (bp (by omega))
  refine d_ rfl h ((mV ?_).trans ?_)
  .rw[Ol,Ol];omega
  .rw[r8,Pg,OA];rfl
 .rintro δ _ ⟨rfl,c,rfl⟩
  rw[show(aZ 0 n).length=n by unfold aZ;rw[Ol,OZ]];exact aq (aT rfl ⟨rfl,rfl⟩)
theorem L0{r:Nat}{b:List Nat}(h:b∈r8 r):(∀i∈b,i<r)/\b.length<=r:=⟨λi c=>OY.mp ((hG r b h).subset c),by have:=(hG r b h).length_le;rwa[OZ]at this⟩
theorem LQ{r c:Nat}{rs cs:List Int}{b:LP}(sh:j_ r c b)(l:rs.length=r)(m:cs.length=c)(n:r<=6)(p:c<=6)(ok:∀X Y,0<=Y9 rs cs b r c X Y):(eM K a).1 [iL rs,iL cs,c9 b] β=on (.ok .non,β):=by
 unfold eM
 dsimp only
 refine aO (aq (bu (ds:=(r8 r).map nL) (β1:=β) (cI (ak (aa (ae rfl (cE (r:=r) (by rw[Ol,l]))) rfl) (xH n)) rfl) (λi δ f=>β=f/\∃g h,δ=[on (.sh (iL rs)),on (.sh (iL cs)),on (.sh (c9 b)),g,h]) ⟨rfl,Om,Om,rfl⟩ ?_ ?_))
 .rintro i d δ _ hd ⟨rfl,g,h,rfl⟩
  obtain⟨e,q,rfl⟩:=bx hd;have hm:=OT q;obtain⟨k,t⟩:=L0 hm;refine⟨_,rfl,aB (d:=nL (tX cs b r c e)) (β1:=β) (ak rfl (zf sh m (by omega) (by omega) k (by omega))) ?_⟩;refine aq (dA (h8 (d_ (ak rfl (zb (by rw[l];exact k) (by omega))) (ak rfl (yy sh m (by omega) (by omega) k (by omega))) ?_)) (bo (aY ⟨rfl,_,_,rfl⟩)));have o:=ok (λi=>decide (i∈e)) (λj=>decide (j∈tX cs b r c e));have sub:(tX cs b r c e).Sublist (OB c):=U5;rw[<-Kw (hG r e hm) sub]at o;show on (D.bl (decide _))=_;rw[Pp (by omega)]
 .rintro δ _ ⟨rfl,g,h,rfl⟩
  exact aY ⟨rfl,rfl⟩
theorem IT{r c:Nat}{ba:LI}{b:LP}(sh:j_ r c ba)(m:j_ r c b)(kp:Kp ba b)(X Y:Nat->Bool):0<=Y9 (ba.map Qt) ((tp c ba).map Qt) b r c X Y:=by
 refine Ja (g:=gp ba) (λi f j h=>?_) (λi f=>(M1 sh f).symm) (λj h=>(M2 sh h).symm) X Y;obtain⟨row,k,n⟩:=sh.at f;have ex:=mU (l:=row) (i:=j) (d:=0) (by omega);obtain⟨e,l⟩:=m.getD f;have ep:=mU (l:=b.getD i []) (i:=j) (d:=((0,0):Int×Int)) (by omega);rw[Ob k ex];exact kp i j _ _ (lS k ex) (lS e ep)
variable{rs cs:List Nat}
theorem Ir{g:G}{δ:Ds}{o:sA}(h:Gw g δ β (λc b=>c=o/\b=β)):g δ β=on (o,β):=by
 obtain⟨c,b,e,rfl,rfl⟩:=h;exact e
theorem jG{t:Dn->M Bool}{d b h:G}{δ:Ds}{β1:Bg}{c:Bool}{Q:sA->Bg->Prop}(e:t (jn δ) β=on (.ok c,β1))(f:c=Ov)(k:Gw (aN b h) δ β1 Q):Gw (aN (y1 t d b) h) δ β Q:=by
 subst f;exact dA e k
theorem ND{p:Int×Int}(h:o1 p):(ii K a).1 [pD p] β=on (.ok .non,β):=by
 obtain⟨b,c,e⟩:=h;unfold ii
 dsimp only
 refine aO ?_;exact GQ (d:=pD p) (β1:=β) rfl rfl (aq (jG (oo (h8 (AO rfl rfl rfl rfl))) (by simp;omega) (bo (aY ⟨rfl,rfl⟩))))
theorem Jc{r c:Nat}{b:LP}(g:t7 r c b)(n:r<=1000):(cJ K a).1 [c9 b,.int (r:Int),.int (c:Int)] β=on (.ok (c9 b),β):=by
 unfold cJ
 dsimp only
 refine aO ?_;refine dA (β1:=β) (h8 (d_ rfl rfl rfl)) (bo ?_);have o:ci 1 [2] (di (ah 0)) (i4 0) (λ_=>M.ret Oq) (ln (f2 (jc) (aP e8 (ag (ah 0) (aF))) (ah 1))) [on (c9 b),on (.int (r:Int)),on (.int (c:Int)),Om,Om] β=on (.ok (.lst (b.map λ_=>D.bl Ov)),β):=
  bh (nv:=1) (c4:=[2]) b (λrow=>D.lst (row.map pD)) _ (by show on _=_;rw[OA];rfl) (λrow h=>⟨_,rfl,d_ (ae rfl (cE (r:=c) (by rw[Ol];exact g.shp.2 row h))) rfl (ne_int.trans (by rw[OO rfl];rfl))⟩) (bp (by rw[g.shp.1];exact n))
 refine jG (oj (h8 (d_ (ae rfl (zu (r:=r) (by rw[Ol];exact g.shp.1))) rfl (ne_int.trans (by rw[OO rfl];rfl)))) (lY (ae (aa o rfl) (any_map b λ_=>Ov)) rfl)) (by simp) (bo ?_);refine bu (ds:=(gP b).map D.lst) (β1:=β) rfl (λi δ e=>β=e/\∃l f,δ=[on (.sh (c9 b)),on (.sh (.int (r:Int))),on (.sh (.int (c:Int))),l,f]) ⟨rfl,Om,Om,rfl⟩ ?_ ?_
 .rintro i d δ _ hd ⟨rfl,l,f,rfl⟩
  obtain⟨y,q,rfl⟩:=bx hd;obtain⟨row,k,rfl⟩:=bx q;refine⟨_,rfl,aq (bu (ds:=row.map pD) (β1:=β) rfl (λj δ e=>β=e/\∃f,δ=[on (.sh (c9 b)),on (.sh (.int (r:Int))),on (.sh (.int (c:Int))),on (.sh (.lst (row.map pD))),f]) ⟨rfl,_,rfl⟩ ?_ ?_)⟩
  .rintro j d δ _ hd ⟨rfl,f,rfl⟩
   obtain⟨p,m,rfl⟩:=bx hd;exact⟨_,rfl,aq (ou (ak rfl (ND (g.ok row (OT k) p (OT m)))) (aY ⟨rfl,_,rfl⟩))⟩
  .rintro δ _ ⟨rfl,f,rfl⟩
   exact aY ⟨rfl,_,_,rfl⟩
 .rintro δ _ ⟨rfl,l,f,rfl⟩
  exact aq (aT (bh (nv:=1) (c4:=[]) (gP b) D.lst D.lst rfl (λx _=>⟨_,rfl,rfl⟩) (bp (by rw[Ol,g.shp.1];exact n))) ⟨rfl,rfl⟩)
theorem y8(l:List Nat){n:Nat}{δ:Dn}(b:l.length<=1000)(e:δ.getD n Om=on (nL l)):uB (aP xL (ag (ci 1 [] (di (ah n)) (i4 0) (λ_=>M.ret Oq) (ln (f2 (YO) (ah 0) (fC (.int 0))))) (aF))) δ β=on (.ok Ov,β):=by
 have c:=bh (nv:=1) (c4:=[]) (it:=di (ah n)) (tg:=i4 0) (f:=f2 (YO) (ah 0) (fC (.int 0))) (δ:=δ) (β:=β) (nI l) D.int (λx=>D.bl (decide (x<0))) (cI (oi e) rfl) (λx _=>⟨_,rfl,rfl⟩) (bp (by rw[Ol];exact b));refine lY (ae (aa c rfl) (any_map _ _)) (Py on (Ye.mpr λx d=>?_));obtain⟨n,_,rfl⟩:=OF.mp d;simp
theorem qm(l:List Nat):e8 [nL l]=on (.int (l.length:Int)):=cE (by rw[Ol,Ol])
theorem JX(h:Nt0 rs cs):(ig K a).1 [nL rs,nL cs] β=on (.ok .non,β):=by
 obtain⟨b,c,d,e⟩:=h.nr;have c1:=h.c1;have c6:=h.c6;unfold ig
 dsimp only
 refine aO ?_;refine jG (oo (h8 (uX rfl (ae rfl (qm rs)) rfl))) (by simp;omega) (bo ?_);refine jG (oo (h8 (uX rfl (ae rfl (qm cs)) rfl))) (by simp;omega) (bo ?_);refine dA (oj (y8 rs (by omega) rfl) (y8 cs (by omega) rfl)) (bo ?_);refine jG (h8 (d_ (ae rfl (ju rs)) (ae rfl (ju cs)) ne_int)) (by rw[h.sm];simp) (bo ?_);exact aq (jG (h8 (d_ (ae rfl (ju rs)) rfl gt_int)) (by simp;omega) (bo (aY ⟨rfl,rfl⟩)))
theorem IG(h:y_ rs):(ie K a).1 [nL rs] β=on (.ok .non,β):=by
 obtain⟨g,j,k,e⟩:=h;unfold ie
 dsimp only
 refine aO ?_;refine aB (d:= .int 1) (β1:=β) rfl ?_;refine bu (ds:=(nI rs).map D.int) (β1:=β) rfl (λi δ b=>β=b/\∃c,δ=[on (.sh (nL rs)),on (.sh (.int ((pr ((rs.take i).map (·+1)):Nat):Int))),c]) ⟨rfl,Om,rfl⟩ ?_ ?_
 .rintro i d δ _ hd ⟨rfl,c,rfl⟩
  obtain⟨n,hn,rfl⟩:=mz hd;have f:=gZ (OT hn);have l:=OS (rM rs i) e;refine⟨_,rfl,aq (ow rfl (d_ (z:= .int ((n+1:Nat):Int)) rfl rfl rfl) (qi (Y7 (by omega)) (Y7 (by omega))) (aY ⟨rfl,on (.sh (.int (n:Int))),?_⟩))⟩;rw[gX hn];rfl
 .rintro δ _ ⟨rfl,c,rfl⟩
  rw[tY,Ql];exact aq (jG (h8 (d_ rfl rfl gt_int)) (by simp;omega) (bo (aY ⟨rfl,rfl⟩)))
structure B_ (ba:LI) (B:List (List (Nat×Nat))) (rs cs:List Nat):Prop extends Nt0 rs cs where
 shp:j_ rs.length cs.length ba
 rw1:ba.map Qt=nI rs
 cl1:(tp cs.length ba).map Qt=nI cs
 bok:u_ rs.length cs.length B
 kp:Kp ba (gc B)
theorem iZ{r c:Nat}{B:List (List (Nat×Nat))}(h:j_ r c B):j_ r c (gc B):=h.map
theorem u_.bnd{r c:Nat}{B:List (List (Nat×Nat))}(h:u_ r c B):t7 r c (gc B):=⟨iZ h.1,λrow e p f=>by
 obtain⟨b,g,rfl⟩:=OF.mp e;obtain⟨d,i,rfl⟩:=OF.mp f;have:=h.2 b g d i;exact⟨by show(0:Int)<=(d.1:Int);omega,by show(d.1:Int)<=(d.2:Int);omega,by show(d.2:Int)<=40;omega⟩⟩
theorem B_.nt{ba:LI}{B:List (List (Nat×Nat))}(h:B_ ba B rs cs):pq K a rs cs (wB B cs) (k_ B):=⟨h.toNt0,rE B cs,λ{β k r} b c e=>JZ c (by rw[e];exact h.bok) (by rw[<-h.sm];exact h.nr.2.2.1) b⟩
theorem B_.fit{ba:LI}{B:List (List (Nat×Nat))}(h:B_ ba B rs cs):(eM K a).1 [nL rs,nL cs,k_ B] β=on (.ok .non,β):=by
 have b:=h.nr.2.1;have c6:=h.c6;refine LQ (iZ h.bok.1) (Ol _) (Ol _) (by omega) (by omega) λX Y=>?_;rw[<-h.rw1,<-h.cl1];exact IT h.shp (iZ h.bok.1) h.kp X Y
theorem Jd{ba:LI}{B:List (List (Nat×Nat))}(h:B_ ba B rs cs):(cJ K a).1 [k_ B,.int (rs.length:Int),.int (cs.length:Int)] β=on (.ok (k_ B),β):=Jc h.bok.bnd (by have:=h.nr.2.1;omega)
abbrev ZN(B:List (List (Nat×Nat)))(rs cs:List Nat):List D:=[nL rs,nL cs,k_ B,qx (wB B cs) rs cs.length]
abbrev Lm(a:Ad)(B:List (List (Nat×Nat)))(rs cs:List Nat):D:= .obj a.Ae ["row_list","column_list","pairs","counted"] (ZN B rs cs)
theorem NO{ba:LI}{B:List (List (Nat×Nat))}{d:D}(h:B_ ba B rs cs)(hd:∀{β:Bg},(cJ K a).1 [d,.int (rs.length:Int),.int (cs.length:Int)] β=on (.ok (k_ B),β)):o8 K a [nL rs,nL cs,d] β=on (.ok (ZN B rs cs),β):=DG λx=>by
 have b:(da K a).1 [nL rs,nL cs,d] β=on (.ok (k_ B),β):=by
  unfold da
  dsimp only
  refine aO ?_;exact ou (ak rfl (JX h.toNt0)) (aB (ak (aa rfl (aa (ae rfl (qm rs)) (aa (ae rfl (qm cs)) rfl))) hd) (ou (ak rfl (IG h.nr)) (aq (aT rfl ⟨rfl,rfl⟩))))
 unfold uq;refine zI (g:=lD 4 _) (δ1:=[on (.sh (.adr x)),on (.sh (nL rs)),on (.sh (nL cs)),on (.sh d),on (.sh (k_ B))]) (β1:=β) (Ir (aq (aB (ak rfl b) (aY ⟨rfl,rfl⟩)))) rfl rfl ?_;refine zI (δ1:=[on (.sh (.adr x)),on (.sh (nL rs)),on (.sh (nL cs)),on (.sh d),on (.sh (k_ B))]) (β1:=β) (Ir (aq (ou (ak rfl h.fit) (aY ⟨rfl,rfl⟩)))) rfl rfl ?_;exact pB (ae rfl rfl) (pB (ae rfl rfl) (pB rfl (pB (ak rfl (xE h.nt)) rfl)))
theorem Ll{ba:LI}{B:List (List (Nat×Nat))}(h:B_ ba B rs cs):o8 K a [nL rs,nL cs,k_ B] β=on (.ok (ZN B rs cs),β):=NO h (Jd h)
variable{W:Wy}{bd:D}
abbrev ld(a:Ad)(W:Wy)(bd:D)(rs cs:List Nat):D:= .obj a.Ae ["row_list","column_list","pairs","counted"] [nL rs,nL cs,bd,qx W rs cs.length]
theorem JG{b d:List et}{c e:List D}{y:et}(h:b.length=c.length):lm (b++d) (c++e) y=(lm b c y).or (lm d e y):=by
 unfold lm;rw[List.zip_append h,List.find?_append];cases(b.zip c).find? λp=>decide (p.1=y)<;>rfl
theorem HV{f:List Nat->D}{u:List Nat}{k:Int}:∀{L:List (List Nat)},u∈L->lm (L.map λr=>(k,nI r)) (L.map f) (k,nI u)=on (f u)
 |r::L,h=>by
  unfold lm;rw[OJ,OJ,QX,Rr];by_cases q:r=u
  .rw[q,OO rfl];rfl
  .rw[Pp λe=>q (gm (Sk.mp e).2)]
   exact HV ((ON.mp h).resolve_left λe=>q e.symm)
theorem zm{f:List Nat->D}{y:et}{k:Int}(h:k≠y.1):∀{L:List (List Nat)},lm (L.map λr=>(k,nI r)) (L.map f) y=Om
 |[]=>rfl
 |r::L=>by
  have ih:=zm (f:=f) h (L:=L);unfold lm at ih⊢;rw[OJ,OJ,QX,Rr,Pp λe=>h (Sk.mp e).1];exact ih
theorem zo{m k:Nat}{u:List Nat}(b:u∈g_ W rs k):∀{L:List Nat},k∈L->lm (L.flatMap λk=>(g_ W rs k).map λr=>((k:Int),nI r)) (L.flatMap λk=>(g_ W rs k).map (cv W m k)) ((k:Int),nI u)=on (cv W m k u)
 |j::L,h=>by
  rw[PM,PM,JG (by rw[Ol,Ol])];by_cases q:j=k
  .subst q
   rw[HV b];rfl
  .rw[zm (by show(j:Int)≠(k:Int);omega),Option.none_or]
   exact zo b ((ON.mp h).resolve_left λe=>q e.symm)
theorem lh{k:Nat}{u:List Nat}(c:k<=cs.length)(b:u∈g_ W rs k):lm (Wi W rs (cs.length+1)) (GB W rs cs.length) ((k:Int),nI u)=on (cv W cs.length k u):=zo b (OY.mpr (by omega))
theorem pq.nx{k:Nat}{r v:List Nat}(h:pq K a rs cs W bd)(b:r∈g_ W rs k)(c:v∈W k r):less r v∈g_ W rs (k+1):=fX.mpr ⟨r,b,v,c,rfl⟩
theorem wn{k:Nat}{r:List Nat}(h:pq K a rs cs W bd)(b:y_ r):(W k r).length<=500:=by
 have:=(h.ok k r).length_le;have:=jI r (cs.getD k 0);have:=rM r (r.length-1);rw[<-WS]at this;have:=b.2.2.2;omega
abbrev sT(W:Wy)(cs:List Nat)(k:Nat)(r:List Nat):List (List Nat):=stW W (cs.length-(k+1)) k r
abbrev tB(W:Wy)(cs:List Nat)(k:Nat)(r v:List Nat):Nat:=oD W (cs.length-(k+1)) (k+1) (less r v)
theorem No{k:Nat}{r:List Nat}(h:pq K a rs cs W bd)(b:y_ r):(sT W cs k r).length<=500:=OS U5.length_le (wn h b)
theorem sI(l:List Nat):sH [nL l]=on (tN l):=rfl
theorem J6{f:FD}{g:FL}{δ:Dn}{b:Bool}{ks:List et}{vs:List D}{k z:D}{y:et}(c:f δ β=on (.ok (.dct b ks vs),β))(d:g δ β=on (.ok [k,z],β))(e:fK b k=on y):DQ f g δ β=on (.ok ((lm ks vs y).getD z),β):=by
 unfold DQ;rw[M.bind_ok c];simp only;rw[M.bind_ok d];simp only[e,QO,M.ofO]
abbrev A_(W:Wy)(rs cs:List Nat)(s:Int)(u:List Nat):Option D:=lm (Wi W rs (cs.length+1)) (GB W rs cs.length) (s,nI u)
theorem pS{s:Int}{u:List Nat}:(dP K a).1 [ld a W bd rs cs,.int s,tN u] β=on (.ok ((A_ W rs cs s u).getD (.tup [.int 0,.int 0])),β):=
 aO (aq (aT (J6 (jF rfl rfl) (aa (ae rfl eF) (aa (ae rfl eF) rfl)) (mE (b:=Oq) (k:=(s,nI u)) λe=>(by cases e))) ⟨rfl,rfl⟩))
theorem y9{s:Int}{u:List Nat}:CG (.tup [.int s,tN u]) (qx W rs cs.length)=on (.bl (A_ W rs cs s u).isNone):=by
 show(fK Oq (dK Oq (s,nI u))).map _=_;rw[mE λe=>(by cases e),QO]
theorem Lr{s:Int}{u:List Nat}(h:∀k,k<=cs.length->s=(k:Int)->u∉g_ W rs k):A_ W rs cs s u=Om:=NQ λz=>by
 obtain⟨k,b,z⟩:=PY.mp z;obtain⟨r,c,e⟩:=OF.mp z;have d:=(Sk.mp e).1;have f:=gm (Sk.mp e).2;exact h k (by have:=OY.mp b;omega) d.symm (f▸c)
def Zg(W:Wy)(cs:List Nat)(k:Nat)(r:List Nat):List (List Nat):=if k<cs.length then sT W cs k r else[]
theorem BE{k:Nat}{r:List Nat}(h:pq K a rs cs W bd)(f:k<=cs.length)(d:r∈g_ W rs k):(c8 K a).1 [ld a W bd rs cs,.int (k:Int),tN r] β=on (.ok ((Zg W cs k r).map tN),β):=by
 obtain⟨e,i,j⟩:=h.at f d;unfold c8 Zg
 dsimp only
 refine GL (c:=decide ((k:Int)=(cs.length:Int))) (β1:=β) (oj (h8 (d_ (ae rfl eF) (jF rfl rfl) (y9.trans (by rw[show A_ W rs cs k r=_ from lh f d];rfl)))) (h8 (d_ rfl (ae (aa (jF rfl rfl) rfl) (qm cs)) eq_int))) ?_;by_cases q:k=cs.length
 .rw[OE (OO (by omega)),OC (by omega)];rfl
 .have b:k<cs.length:=by omega
  rw[OC (λz=>q (by have:=PU z;omega)),OE b];refine DV (iA (W k r) tN tN (λv=>decide ((0:Int)<((tB W cs k r v:Nat):Int))) (cI (ak (aa rfl (aa (jF rfl rfl) (aa (jF rfl rfl) (aa rfl rfl)))) (h.fl b e i)) rfl) (λv g=>⟨[on (tN v),on (ld a W bd rs cs),on (.int (k:Int)),on (tN r)],rfl,?_,λ_=>rfl⟩) (bp ?_))
  .exact h8 (d_ (d_ (hX rfl (aa (x:= .int ((k+1:Nat):Int)) (d_ rfl rfl rfl) (aa (ak rfl (wJ (cR ((h.ok k r).subset g)) e.2.1)) rfl)) (pS.trans (by rw[show A_ W rs cs ((k+1:Nat):Int) (less r v)=_ from lh b (h.nx d g)];rfl))) rfl uj) rfl gt_int)
  .have:=wn (k:=k) h e
   omega
theorem BF{s:Int}{u:List Nat}(h:A_ W rs cs s u=Om):(c8 K a).1 [ld a W bd rs cs,.int s,tN u] β=on (.ok [],β):=by
 unfold c8
 dsimp only
 exact GL (c:=Oq) (β1:=β) (M4 (h8 (d_ (ae rfl eF) (jF rfl rfl) (y9.trans (by rw[h];rfl))))) rfl
theorem IU:(kY K a).1 [ld a W bd rs cs] β=on (.ok (.int ((oD W cs.length 0 rs:Nat):Int)),β):=
 aO (aq (aT (d_ (hX rfl (aa rfl (aa (ae (aa (jF rfl rfl) rfl) rfl) rfl)) (pS.trans (by rw[show A_ W rs cs 0 rs=_ from lh (k:=0) (PX _) (O9.mpr rfl)];rfl))) rfl uj) ⟨rfl,rfl⟩))
theorem Oi{l:List Nat}{c:Nat}(h:l.length<=100):jf (nL l) (.lst [.int (c:Int)])=on (nL (l++[c])):=by
 refine(mV (by rw[Ol,Ol,PL];omega)).trans ?_;show _=on (D.lst (PR D.int (PR _ (l++[c]))));rw[Pg,Pg];rfl
abbrev YS(ps:List (Nat×Nat))(x:D)(c:Nat)(f:D)(b d e g h:Option Sl):Ds:=[on (.sh x),on (.sh (.int (c:Int))),on (.sh (.lst (ps.map pN))),on (.sh f),b,d,e,g,h]
theorem Ny{lo:Nat}{n i:Nat}{d:D}(h:((OB n).map λi=>D.int ((lo+i:Nat):Int))[i]?=on d):i<n/\d= .int ((lo+i:Nat):Int):=by
 obtain⟨x,b,rfl⟩:=bx h;have c:=(OI.mp b).1;rw[OZ]at c;rw[Pz c]at b;cases b;exact⟨c,rfl⟩
theorem d8{α:Type}{l:List α}{i:Nat}{x:α}(h:l[i]?=on x):l.take (i+1)=l.take i++[x]:=by rw[Yi,h];rfl
theorem ql{ps:List (Nat×Nat)}{x:D}{r:List Nat}{c:Nat}(J:cY x=on ((nI r).map D.int))(L:y_ r)(A:ps.length=r.length)(N:∀p∈ps,p.1<=40/\p.2<=40):(jt K a).1 [x,.int (c:Int),.lst (ps.map pN)] β=on (.ok (.lst ((vB ps r c).map nL)),β):=by
 obtain⟨_,U,hs,O⟩:=L;have n:∀k,k<=r.length->(l_ ps r k).length<=500:=λk B=>OS (vT k B) (OS (rM r k) O);unfold jt
 dsimp only
 refine aO ?_;refine aB (d:= .lst ((l_ ps r 0).map nL)) (β1:=β) (ae (aa (ae rfl CP) rfl) j3) ?_;refine bu (ds:=(r.zip ps).map λq=> .tup [.int (q.1:Int),pN q.2]) (β1:=β) ?_ (λk δ g=>β=g/\∃C F o m b,δ=YS ps x c (.lst ((l_ ps r k).map nL)) C F o m b) ⟨rfl,Om,Om,Om,Om,Om,rfl⟩ ?_ ?_
 .rw[<-hV (λx:Nat=>D.int (x:Int)) pN]
  exact kD (x:=x) (y:= .lst (ps.map pN)) rfl rfl (J.trans (by rw[OA];rfl)) rfl
 .rintro k d δ _ hd ⟨rfl,C,F,o,m,b,rfl⟩
  obtain⟨q,I,rfl⟩:=bx hd;have B:k<r.length:=by
   have:=(OI.mp I).1;rw[SD]at this;omega
  have t:k<ps.length:=by omega
  obtain rfl:q=(r[k],ps[k]):=by
   have:=(OI.mp I).2;rw[List.getElem_zip]at this;exact this.symm
  have b40:=N _ (Pr t);have Q:=gZ (Pr B);refine⟨YS ps x c (.lst ((l_ ps r k).map nL)) (on (.sh (.int (r[k]:Int)))) (on (.sh (pN ps[k]))) o m b,rfl,?_⟩;refine lZ (ds:=[]) (β1:=β) rfl (PX _) ?_;have step:∀u:List Nat,((OB (RP ps[k].2 r[k]+1-ps[k].1)).map λi=>u++[ps[k].1+i]).length<=41:=λu=>by rw[Ol,OZ];omega
  refine bu (ds:=(l_ ps r k).map nL) (β1:=β) rfl (λi δ g=>β=g/\∃m b,δ=YS ps x c (.lst ((l_ ps r k).map nL)) (on (.sh (.int (r[k]:Int)))) (on (.sh (pN ps[k]))) (on (.own ((((l_ ps r k).take i).flatMap λu=>(OB (RP ps[k].2 r[k]+1-ps[k].1)).map λj=>u++[ps[k].1+j]).map nL))) m b) ⟨rfl,m,b,rfl⟩ ?_ ?_
  .rintro i d δ _ hd ⟨rfl,m,b,rfl⟩
   obtain⟨u,H,rfl⟩:=bx hd;have X:=zP k u (OT H);have Y:=(OI.mp H).1;have Z:=n k (by omega);have hN:(((l_ ps r k).take i).flatMap λu=>(OB (RP ps[k].2 r[k]+1-ps[k].1)).map λj=>u++[ps[k].1+j]).length<=500*41:=OS (g0 λu _=>step u) (Tj _ (by rw[Qi];omega));refine⟨_,rfl,aq (bu (ds:=(OB (RP ps[k].2 r[k]+1-ps[k].1)).map λj=>D.int ((ps[k].1+j:Nat):Int)) (β1:=β) (bz (as:=[.int (ps[k].1:Int),.int ((RP ps[k].2 r[k]:Nat)+1)]) (aa (d_ rfl rfl uj) (aa (d_ (x:= .int ((RP ps[k].2 r[k]:Nat):Int)) (ae (aa (d_ rfl rfl LA) (aa rfl rfl)) (t8.trans ?_)) rfl rfl) rfl)) ((KM (by omega) (by omega) (by omega)).trans ?_)) (λj δ g=>β=g/\∃b,δ=YS ps x c (.lst ((l_ ps r k).map nL)) (on (.sh (.int (r[k]:Int)))) (on (.sh (pN ps[k]))) (on (.own ((((l_ ps r k).take i).flatMap λu=>(OB (RP ps[k].2 r[k]+1-ps[k].1)).map λj=>u++[ps[k].1+j]).map nL++((OB (RP ps[k].2 r[k]+1-ps[k].1)).take j).map λj=>nL (u++[ps[k].1+j])))) (on (.sh (nL u))) b) ⟨rfl,b,by rw[Wb,RI,Pi];rfl⟩ ?_ ?_)⟩
   .rw[show RP (ps[k].2:Int) (r[k]:Int)=((RP ps[k].2 r[k]:Nat):Int) by omega]
   .rw[show((RP ps[k].2 r[k]:Nat)+1-(ps[k].1:Int):Int).toNat=RP ps[k].2 r[k]+1-ps[k].1 by omega]
   .rintro j d δ _ hd ⟨rfl,b,rfl⟩
    obtain⟨R,rfl⟩:=Ny hd;have e:(OB (RP ps[k].2 r[k]+1-ps[k].1))[j]?=on j:=Pz R;refine⟨_,rfl,aq (jH (d:=nL (u++[ps[k].1+j])) rfl (aa (d_ rfl (ae rfl j3) (Oi (by omega))) rfl) (O3 (show _<50000 by rw[OQ,Ol,Ol,Qi,OZ];omega) (by decide)) (aY ⟨rfl,on (.sh (.int ((ps[k].1+j:Nat):Int))),?_⟩))⟩;rw[d8 e,Pg];show[_,_,_,_,_,_,on (Sl.own (_++_++[_])),_,_]=[_,_,_,_,_,_,on (Sl.own (_++(_++[_]))),_,_];rw[PZ]
   .rintro δ _ ⟨rfl,b,rfl⟩
    rw[Ol,OZ];refine aY ⟨rfl,on (.sh (nL u)),b,?_⟩;rw[d8 H,QL,Pg,PM,Uv,Pi,OA,Rb (l:=OB (RP ps[k].2 r[k]+1-ps[k].1)) (by rw[OZ];exact OG _)];rfl
  .rintro δ _ ⟨rfl,m,b,rfl⟩
   rw[Ol,Ql];refine wo (aq (aB (d:= .lst ((l_ ps r (k+1)).map nL)) (β1:=β) ?_ (aY ⟨rfl,_,_,_,_,_,rfl⟩)));have T:l_ ps r (k+1)=(l_ ps r k).flatMap λu=>(OB (RP ps[k].2 r[k]+1-ps[k].1)).map λi=>u++[ps[k].1+i]:=by
    show WN _ _=_;rw[dN B,dN t]
   rw[T];rfl
 .rintro δ _ ⟨rfl,C,F,o,m,b,rfl⟩
  rw[Ol,SD,A,WW,vU A];have h:=iA (nv:=1) (c4:=[1]) (it:=di (ah 3)) (tg:=i4 0) (tt:=fB (f2 (nX) (aP fm (ag (ah 0) (aF))) (ah 1))) (f:=ah 0) (δ:=jn (YS ps x c (.lst ((F_ ps r).map nL)) C F o m b)) (β:=β) (F_ ps r) nL nL (λv=>decide (v.sum=c)) rfl (λv _=>⟨[on (nL v),on (.int (c:Int))],rfl,h8 (d_ (ae rfl (ju v)) rfl (eq_int.trans (by rw[decide_eq_decide.mpr (show((v.sum:Nat):Int)=(c:Int)↔v.sum=c by omega)]))),λ_=>rfl⟩) (bp (by rw[<-vU A];have:=n r.length (OG _);omega));refine aq (aT h ⟨rfl,?_⟩);rw[AC A]
theorem uc{x:D}{r v:List Nat}(b:cY x=on ((nI r).map D.int))(h:la v r)(c:r.length<=4):(jN K a).1 [x,nL v] β=on (.ok (nL (less r v)),β):=by
 unfold jN
 dsimp only
 refine aO (aq (aT ?_ ⟨rfl,rfl⟩));unfold nL;rw[<-ue h];refine bh (r.zip v) (λp=>D.tup [.int (p.1:Int),.int (p.2:Int)]) _ ?_ (λp _=>⟨[on (.int (p.1:Int)),on (.int (p.2:Int))],rfl,rfl⟩) (bp (by rw[SD];omega));rw[<-hV (λx:Nat=>D.int (x:Int)) (λx:Nat=>D.int (x:Int))];refine kD (x:=x) (y:=nL v) rfl rfl (b.trans (by rw[OA];rfl)) ?_
 .show on _=on _
  rw[OA];rfl
theorem qw{r c k n i:Nat}{B:List (List (Nat×Nat))}(hB:u_ r c B)(g:r<=4)(j:k<c){δ:Dn}(d:δ.getD i Om=on (k_ B))(e:lj 1 [n] δ=[Om,on (.int (k:Int))]):ci 1 [n] (di (ah i)) (i4 0) (λ_=>M.ret Oq) (ln (f2 ko (ah 0) (ah 1))) δ β=on (.ok (.lst ((kq B k).map pN)),β):=by
 have h:=bh (nv:=1) (c4:=[n]) (it:=di (ah i)) (tg:=i4 0) (f:=f2 ko (ah 0) (ah 1)) (δ:=δ) (β:=β) B (λrow=>D.lst (row.map pN)) (λrow=>pN (row.getD k (0,0))) (cI (oi d) (by
  show on _=on _;rw[OA,OA];exact Py on (O5 λrow _=>Py D.lst (by show PR pD (PR _ row)=_;rw[OA];rfl)))) (λrow b=>⟨[on (D.lst (row.map pN)),on (.int (k:Int))],by rw[e];rfl,d_ rfl rfl (bT (by
   have l:=hB.1.2 row b;rw[Ox,dN (by omega),Os (by omega)];rfl))⟩) (bp (by rw[hB.1.1];omega))
 refine h.trans ?_;unfold kq;rw[OA];rfl
theorem Lo{rs:List Nat}(h:rs.sum<=8):mu rs<=40320:=by
 have b:mu rs<=dv rs.sum:=by
  rw[<-im];exact UB _ (qg rs)
 exact OS b (OS (uA h) (by decide))
noncomputable abbrev eQ(q:List (List Nat)×List Nat):D:= .tup [.lst (q.1.map nL),nL q.2]
abbrev ZO(rs cs:List Nat)(B:List (List (Nat×Nat)))(f:D)(b c d e g h:Option Sl):Ds:=[on (.sh (tN rs)),on (.sh (nL cs)),on (.sh (k_ B)),on (.sh f),b,c,d,e,g,h]
abbrev Za(W:Wy)(k:Nat)(q:List (List Nat)×List Nat):List (List (List Nat)×List Nat):=(W k q.2).map λv=>(q.1++[v],less q.2 v)
theorem w8{rs cs:List Nat}{B:List (List (Nat×Nat))}(nr:y_ rs)(hs:rs.sum=cs.sum)(c6:cs.length<=6)(C:rs.sum<=8)(hB:u_ rs.length cs.length B):(i8 K a).1 [tN rs,nL cs,k_ B] β=on (.ok (.lst ((lst (wB B cs) rs cs.length).map λq=> .lst (q.1.map nL))),β):=by
 obtain⟨O,F,Q,R⟩:=nr;have m:=rE B cs;have h:∀k,k<=cs.length->(lst (wB B cs) rs k).length<=40320:=λk l=>OS (vI m hs l) (Lo C);unfold i8
 dsimp only
 refine aO ?_;refine aB (d:= .lst ((lst (wB B cs) rs 0).map eQ)) (β1:=β) (ae (aa (ae (aa (ae rfl CP) (aa (ae rfl rfl) rfl)) eF) rfl) j3) ?_;refine bu (ds:=cj 0 ((nI cs).map D.int)) (β1:=β) (bz rfl rfl) (λk δ e=>β=e/\∃o p r f g b,δ=ZO rs cs B (.lst ((lst (wB B cs) rs k).map eQ)) o p r f g b) ⟨rfl,Om,Om,Om,Om,Om,Om,rfl⟩ ?_ ?_
 .rintro k d δ _ hd ⟨rfl,o,p,r,f,g,b,rfl⟩
  obtain⟨x,H,rfl⟩:=mR hd;obtain⟨n,hn,rfl⟩:=mz H;have l:=(OI.mp hn).1;have I:cs.getD k 0=n:=by rw[Op,hn];rfl
  obtain⟨cl,J⟩:=hB.col l;refine⟨_,rfl,lZ (ds:=[]) (β1:=β) rfl (PX _) ?_⟩;have y:∀i,(((lst (wB B cs) rs k).take i).flatMap (Za (wB B cs) k)).length<=40320:=λi=>by
   refine OS ?_ (h (k+1) l);show _<=((lst (wB B cs) rs k).flatMap (Za (wB B cs) k)).length
   conv=>rhs;rw[<-Rm i (lst (wB B cs) rs k),QL,OQ]
   exact RC _ _
  refine bu (ds:=(lst (wB B cs) rs k).map eQ) (β1:=β) rfl (λi δ e=>β=e/\∃f g b,δ=ZO rs cs B (.lst ((lst (wB B cs) rs k).map eQ)) (on (.sh (.int (k:Int)))) (on (.sh (.int (n:Int)))) (on (.own ((((lst (wB B cs) rs k).take i).flatMap (Za (wB B cs) k)).map eQ))) f g b) ⟨rfl,f,g,b,rfl⟩ ?_ ?_
  .rintro i d δ _ hd ⟨rfl,f,g,b,rfl⟩
   obtain⟨q,t,rfl⟩:=bx hd;have hm:=OT t;obtain⟨q1,q2,q3⟩:=ub m hs k (by omega) q hm;have L:=q1.len;have sq:=q1.sum;have T:=q1.pr;have N:y_ q.2:=⟨by omega,by omega,by omega,by omega⟩;have U:(wB B cs k q.2).length<=40320:=by
    have:=y (i+1);rw[d8 t,QL,PM,Uv,Pi,OQ,Ol]at this;omega
   refine⟨_,rfl,aq (bu (ds:=(wB B cs k q.2).map nL) (β1:=β) (cI (ak (aa rfl (aa rfl (aa (qw hB F l rfl rfl) rfl))) (ql (c:=n) rfl N (by rw[cl,L]) J)) (by unfold wB;rw[I];rfl)) (λj δ e=>β=e/\∃b,δ=ZO rs cs B (.lst ((lst (wB B cs) rs k).map eQ)) (on (.sh (.int (k:Int)))) (on (.sh (.int (n:Int)))) (on (.own ((((lst (wB B cs) rs k).take i).flatMap (Za (wB B cs) k)).map eQ++((wB B cs k q.2).take j).map λv=>eQ (q.1++[v],less q.2 v)))) (on (.sh (.lst (q.1.map nL)))) (on (.sh (nL q.2))) b) ⟨rfl,b,by rw[Wb,RI,Pi];rfl⟩ ?_ ?_)⟩
   .rintro j d δ _ hd ⟨rfl,b,rfl⟩
    obtain⟨v,A,rfl⟩:=bx hd;have u:=(m k q.2).subset (OT A);have X:=y i;refine⟨_,rfl,aq (jH (d:=eQ (q.1++[v],less q.2 v)) rfl (aa (ae (aa (d_ rfl (ae rfl j3) ((mV (by rw[Ol,PL];omega)).trans ?_)) (aa (ak rfl (uc rfl (cR u) (by omega))) rfl)) eF) rfl) (O3 (show _<100000 by rw[OQ,Ol,Ol,Qi];omega) (by decide)) (aY ⟨rfl,on (.sh (nL v)),?_⟩))⟩
    .rw[Pg];rfl
    .rw[d8 A,Pg]
     show[_,_,_,_,_,_,on (Sl.own (_++_++[_])),_,_,_]=[_,_,_,_,_,_,on (Sl.own (_++(_++[_]))),_,_,_];rw[PZ]
   .rintro δ _ ⟨rfl,b,rfl⟩
    rw[Ol,Ql];refine aY ⟨rfl,on (.sh (.lst (q.1.map nL))),on (.sh (nL q.2)),b,?_⟩;rw[d8 t,QL,Pg,PM,Uv,Pi,OA];rfl
  .rintro δ _ ⟨rfl,f,g,b,rfl⟩
   rw[Ol,Ql];exact wo (aq (aB (d:= .lst ((lst (wB B cs) rs (k+1)).map eQ)) (β1:=β) rfl (aY ⟨rfl,_,_,_,_,_,_,rfl⟩)))
 .rintro δ _ ⟨rfl,o,p,r,f,g,b,rfl⟩
  rw[iW,Ol,Ol];exact aq (aT (bh (lst (wB B cs) rs cs.length) eQ (λq=> .lst (q.1.map nL)) rfl (λq _=>⟨[on (.lst (q.1.map nL)),on (nL q.2)],rfl,rfl⟩) (OS (h _ (OG _)) (by decide))) ⟨rfl,rfl⟩)
theorem zZ{ba:List (List D)}(h:ba.length<=1000):(oX K a).1 [lG ba] β=on (.ok (lG ba),β):=
 aO (aq (aT (bh ba D.lst D.lst rfl (λx _=>⟨_,rfl,rfl⟩) (bp h)) ⟨rfl,rfl⟩))
theorem zt{r c:Nat}(d:r<=1000)(e:c<=1000):lf K a [.int (r:Int),.int (c:Int)] β=on (.ok (gP (mK r c)),β):=by
 have b:∀x:Nat,eS 1 [] (cZ fU (ag (ah 1) (aF))) (i4 0) (λ_=>M.ret Oq) (ln (aP fG (ag (fC (.int 0)) (ag (fC (.int 40)) (aF))))) [on (.int (0+(x:Int))),on (.int (c:Int))] β=on (.ok ((O0 c ((0:Int),(40:Int))).map pD),β):=λx=>by
  have h:=z0 (nv:=1) (c4:=[]) (it:=cZ fU (ag (ah 1) (aF))) (tg:=i4 0) (f:=aP fG (ag (fC (.int 0)) (ag (fC (.int 40)) (aF)))) (δ:=[on (.int (0+(x:Int))),on (.int (c:Int))]) (β:=β) (OB c) (λi=>D.int (0+(i:Int))) (λ_=>pD (0,40))
   (bz rfl (E_ (by omega) (by omega))) (λx _=>⟨_,rfl,ae rfl eF⟩) (bp (by rw[OZ];omega))
  rw[iR]at h;rw[RJ];exact h
 have h:=rf (nv:=1) (c4:=[1]) (it:=cZ fU (ag (ah 0) (aF))) (tg:=i4 0) (f:=eS 1 [] (cZ fU (ag (ah 1) (aF))) (i4 0) (λ_=>M.ret Oq) (ln (aP fG (ag (fC (.int 0)) (ag (fC (.int 40)) (aF)))))) (δ:=[on (.int (r:Int)),on (.int (c:Int))]) (β:=β) (OB r) (λi=>D.int (0+(i:Int))) (λ_=>(O0 c ((0:Int),(40:Int))).map pD)
  (bz rfl (E_ (by omega) (by omega))) (λx _=>⟨_,rfl,b x⟩) (bp (by rw[OZ];omega))
 rw[iR]at h;refine J2 (aq (II h ⟨rfl,?_⟩));show gP (mK r c)=_;show PR _ _=_;rw[RJ]
abbrev YH(ba:LI)(b:LP)(c d e f g:Option Sl):Ds:=[on (.sh .bag),on (.sh (f0 ba)),on (.grd (gP b)),c,d,e,f,g]
def BdI(r c:Nat)(ba:LI)(d e:Option Sl)(δ:Ds)(β:Bg):Prop:=β.ok/\∃(b:LP) (f g h:Option Sl),δ=YH ba b d e f g h/\t7 r c b/\Kp ba b
theorem w9{r c:Nat}{ba:LI}(t:YA r c ba)(ok:β.ok):∃(b:LP) (f:Bg),(gO K a).1 [.bag,f0 ba] β=on (.ok (c9 b),f)/\t7 r c b/\Kp ba b/\f.ok:=by
 suffices h:∃g f,(gO K a).1 [.bag,f0 ba] β=on (g,f)/\(∃(b:LP),g= .ok (c9 b)/\t7 r c b/\Kp ba b/\f.ok) by
  obtain⟨g,f,e,b,rfl,h1,h2⟩:=h;exact⟨b,f,e,h1,h2⟩
 have r1:=t.r1;have c1:=t.c1;have c0:=t.c0;have r0:=t.r0;obtain⟨F,H,I⟩:=t.shp.at (i:=0) (by omega);have hr0:(gI ba)[0]?=on (F.map D.int):=by rw[Ox,H];rfl
 unfold gO
 dsimp only
 refine pV ?_;refine GP (β1:=β) (IF (as:=[.int (r:Int),.int (c:Int)]) (β1:=β) (aa (ae rfl (zu (by rw[Ol,t.shp.1]))) (aa (ae (aa (x:= .lst (F.map D.int)) (d_ rfl rfl (rS hr0)) rfl) (cE (by rw[Ol,I]))) rfl)) (zt (by omega) (by omega))) (Lj _) ?_;obtain⟨w0,β1,p1,a0,a1,R⟩:=bB ok (lot:=3) (by decide) (by decide);refine gz (c:=decide (w0=0)) (β1:=β1) (h8 (d_ (ak rfl p1) rfl eq_int)) ?_;by_cases hw:w0=0
 .rw[OE (by simpa using hw)]
  exact aT rfl ⟨_,rfl,t7.free r c,Kp.free t,R⟩
 rw[OC (by simpa using hw)];refine bo ?_;refine bu (ds:=cj 0 ((gI ba).map D.lst)) (β1:=β1) rfl (λ_ δ β=>∃s3 s4,BdI r c ba s3 s4 δ β) ⟨Om,Om,R,mK r c,Om,Om,Om,rfl,t7.free r c,Kp.free t⟩ ?_ ?_
 .rintro i d δ β2 hd ⟨s3,s4,J,b,Y,Z,T,rfl,o,B⟩
  obtain⟨x,hx,rfl⟩:=mR hd;obtain⟨y,hy,rfl⟩:=bx hx;obtain⟨row,m,rfl⟩:=bx hy;have hi:i<r:=by rw[<-t.shp.1];exact(OI.mp m).1
  have U:row.length=c:=t.shp.2 row (OT m);refine⟨YH ba b (on (.sh (.int i))) (on (.sh (.lst (row.map D.int)))) Y Z T,rfl,aq ?_⟩;refine bu (ds:=cj 0 (row.map D.int)) (β1:=β2) rfl (λ_=>BdI r c ba (on (.sh (.int i))) (on (.sh (.lst (row.map D.int))))) ⟨J,b,Y,Z,T,rfl,o,B⟩ ?_ (λδ β h=>aY ⟨_,_,h⟩);rintro j d δ β3 hd ⟨ok3,b,Y,Z,T,rfl,o,B⟩;obtain⟨x,hx,rfl⟩:=mR hd;obtain⟨n,hn,rfl⟩:=bx hx;have hj:j<c:=by rw[<-U];exact(OI.mp hn).1
  have hn40:=t.le40 row (OT m) n (OT hn);obtain⟨q,l,L⟩:=o.shp.at hi;refine⟨YH ba b (on (.sh (.int i))) (on (.sh (.lst (row.map D.int)))) (on (.sh (.int j))) (on (.sh (.int n))) T,rfl,?_⟩;obtain⟨w,A,p4,w0,w1,N⟩:=bB ok3 (lot:=4) (by decide) (by decide);refine aB (d:= .int w) (β1:=A) (ak rfl p4) ?_
  have put:∀(p:Int×Int) (δ:Ds),o1 p->p.1<=n->n<=p.2->∀{β5:Bg} {fv:FD} {h:G} {Q:sA->Bg->Prop},fv (jn (YH ba b (on (.sh (.int i))) (on (.sh (.lst (row.map D.int)))) (on (.sh (.int j))) (on (.sh (.int n))) (on (.sh (.int w))))) A=on (.ok (pD p),β5)->
    (∀b,t7 r c b->Kp ba b->Gw h (YH ba b (on (.sh (.int i))) (on (.sh (.lst (row.map D.int)))) (on (.sh (.int j))) (on (.sh (.int n))) (on (.sh (.int w)))) β5 Q)->
    Gw (aN (pI 2 (ah 3) (ah 5) fv) h) (YH ba b (on (.sh (.int i))) (on (.sh (.lst (row.map D.int)))) (on (.sh (.int j))) (on (.sh (.int n))) (on (.sh (.int w)))) A Q:=λp δ hp h1 h2 β5 fv h Q e k=>by
   refine GO (d:=pD p) (ba:=gP b) (ds:=q.map pD) (ka:=i) (kb:=j) (ja:=i) (jb:=j) e rfl rfl rfl ?_ ?_ ?_ rfl ?_
   .rw[Ol,o.shp.1];exact lA (by omega) (by omega)
   .rw[Ox,l];rfl
   .rw[Ol,L];exact lA (by omega) (by omega)
   .have X:(gP b).set i ((q.map pD).set j (pD p))=gP (b.set i (q.set j p)):=by
     show _=PR _ _;rw[Tz,Tz]
    rw[X];exact k _ (o.set l hp) (B.set l (lS m hn) h1 h2)
  refine gz (c:=decide (w=0)) (β1:=A) (h8 (d_ rfl rfl eq_int)) ?_;by_cases q0:w=0
  .rw[OE (by simpa using q0)]
   obtain⟨u,β5,p5,u0,u1,ok5⟩:=bB N (lot:=n+1) (by omega) (by omega);obtain⟨v,C,p6,v0,v1,O⟩:=bB ok5 (lot:=3) (by decide) (by decide);refine put (n-u,RP 40 (n+v)) [] ⟨by show 0<=n-u;omega,by show n-u<=RP 40 (n+v);omega,by show RP 40 (n+v)<=40;omega⟩ (by show n-u<=n;omega) (by show n<=RP 40 (n+v);omega) (β5:=C) ?_ λb o B=>?_
   .exact ae (aa (d_ rfl (ak (aa rfl (aa (d_ rfl rfl rfl) rfl)) p5) rfl) (aa (ae (aa rfl (aa (d_ rfl (ak rfl p6) rfl) rfl)) t8) rfl)) eF
   .refine aq (dA (β1:=C) ?_ (bo (aY ⟨O,b,_,_,_,rfl,o,B⟩)))
    rw[show(Ov:Bool)=decide (w=1) by rw[q0];rfl];exact h8 (d_ rfl rfl eq_int)
  .rw[OC (by simpa using q0)]
   refine bo (aq (gz (c:=decide (w=1)) (β1:=A) (h8 (d_ rfl rfl eq_int)) ?_));by_cases q1:w=1
   .rw[OE (by simpa using q1)]
    obtain⟨v,C,p6,v0,v1,O⟩:=bB N (lot:=3) (by decide) (by decide);refine put (0,WQ n v) [] ⟨by show(0:Int)<=0;omega,by show 0<=WQ n v;omega,by show WQ n v<=40;omega⟩ (by show 0<=n;omega) (by show n<=WQ n v;omega) (β5:=C) ?_ λb o B=>aY ⟨O,b,_,_,_,rfl,o,B⟩;exact ae (aa rfl (aa (ae (aa rfl (aa (ak rfl p6) rfl)) CJ) rfl)) eF
   .rw[OC (by simpa using q1)]
    exact bo (aY ⟨N,b,_,_,_,rfl,o,B⟩)
 .rintro δ β2 ⟨s3,s4,J,b,Y,Z,T,rfl,o,B⟩
  exact aq (aT rfl ⟨b,rfl,o,B,J⟩)
theorem oz:∀{xs:List Int},(∀x∈xs,0<=x)->∃l:List Nat,xs=nI l
 |[],_=>⟨[],rfl⟩
 |x::xs,h=>by
  obtain⟨l,e⟩:=oz λy b=>h y (Ot _ b);have:=h x Oz;exact⟨x.toNat::l,by rw[e];show _=((x.toNat:Nat):Int)::_;rw[Int.toNat_of_nonneg this]⟩
abbrev gdS(r c t:Nat)(ba:LI)(b d e:Option Sl):Ds:=[on (.sh .bag),on (.sh (.int (r:Int))),on (.sh (.int (c:Int))),on (.sh (.int (t:Int))),on (.grd (gI ba)),b,d,e]
theorem mI{r c t:Nat}(ok:β.ok)(r0:1<=r)(r1:r<=4)(c1:1<=c)(c6:c<=6)(F:t<=40):∃(ba:LI) (j:Bg),(jO K a).1 [.bag,.int (r:Int),.int (c:Int),.int (t:Int)] β=on (.ok (f0 ba),j)/\(YA r c ba/\tot ba=(t:Int))/\j.ok:=by
 suffices h:∃g j,(jO K a).1 [.bag,.int (r:Int),.int (c:Int),.int (t:Int)] β=on (g,j)/\(∃(ba:LI),g= .ok (f0 ba)/\(YA r c ba/\tot ba=(t:Int))/\j.ok) by
  obtain⟨g,j,e,ba,rfl,H,I⟩:=h;exact⟨ba,j,e,H,I⟩
 unfold jO
 dsimp only
 refine pV ?_;refine GP (ba:=(OB r).map λ_=>O0 c (D.int 0)) (β1:=β) (rf (OB r) (λi=>D.int (0+(i:Int))) _ (bz (ds:=aZ 0 r) rfl (E_ (by omega) (by omega))) (λx _=>⟨_,rfl,NI (x:= .int 0) (c:=c) rfl rfl (by omega)⟩) (bp (by rw[OZ];omega))) ?_ ?_
 .rw[Sf]
  intro x k;obtain⟨_,_,rfl⟩:=OF.mp k;rw[<-RJ (f:=D.int)];exact iQ _
 have J:(OB r).map (λ_=>O0 c (D.int 0))=gI (O0 r (O0 c 0)):=by
  show _=PR _ _;rw[RJ,List.map_const',RJ,OZ]
 rw[J];refine bu (ds:=aZ 0 t) (β1:=β) (bz rfl (E_ (by omega) (by omega))) (λi δ β=>β.ok/\∃ba p q y,δ=gdS r c t ba p q y/\j_ r c ba/\(∀row∈ba,∀x∈row,0<=x)/\tot ba=(i:Int)) ⟨ok,O0 r (O0 c 0),Om,Om,Om,rfl,⟨by simp,λrow h=>?_⟩,λrow h x k=>?_,?_⟩ ?_ ?_
 .rw[(QW.mp h).2];simp
 .rw[(QW.mp h).2]at k
  rw[(QW.mp k).2];exact Xv _
 .unfold tot
  rw[RJ];have z:∀n:Nat,(O0 n (0:Int)).sum=0:=λn=>by
   induction n with
   |zero=>rfl
   |succ n ih=>rw[Qv,O6,ih];rfl
  rw[z,z];rfl
 .rintro i d δ j hd ⟨m,ba,p,q,y,rfl,sh,nn,F⟩
  obtain⟨v,β1,L,O,Q,A⟩:=bB m (lot:=(r:Int)) (by omega) (by omega);obtain⟨u,β2,N,R,T,B⟩:=bB A (lot:=(c:Int)) (by omega) (by omega);obtain⟨v,rfl⟩:∃n:Nat,v=(n:Int):=⟨v.toNat,by omega⟩;obtain⟨u,rfl⟩:∃n:Nat,u=(n:Int):=⟨u.toNat,by omega⟩;obtain⟨row,b,o⟩:=sh.at (i:=v) (by omega);obtain⟨x,k⟩:=IB (l:=row) (i:=u) (by omega);refine⟨_,rfl,aB (ak rfl L) (aB (ak rfl N) (aq (GO (d:= .int (x+1)) (β1:=β2) (β2:=β2) (β3:=β2) (ba:=gI ba) (ds:=row.map D.int) (ka:=v) (kb:=u) (ja:=v) (jb:=u) (d_ (d_ (d_ rfl rfl (rS (row:=row.map D.int) ?_)) rfl (bT (d:= .int x) ?_)) rfl rfl) rfl rfl rfl ?_ ?_ ?_ rfl (aY ⟨B,ba.set v (row.set u (x+1)),on (.sh d),on (.sh (.int (v:Int))),on (.sh (.int (u:Int))),?_,sh.set b,Lk nn b ?_,?_⟩))))⟩
  .rw[Ox,b];rfl
  .rw[Ox,k];rfl
  .rw[Ol,sh.1];exact lA (by omega) (by omega)
  .rw[Ox,b];rfl
  .rw[Ol,o];exact lA (by omega) (by omega)
  .show[_,_,_,_,on (Sl.grd ((gI ba).set v ((row.map D.int).set u (.int (x+1))))),_,_,_]=_
   rw[show(gI ba).set v ((row.map D.int).set u (.int (x+1)))=gI (ba.set v (row.set u (x+1))) by show _=PR _ _;rw[Tz,Tz]]
  .have:=nn row (OT b) x (OT k)
   omega
  .have:=IR (v:=x+1) b k
   omega
 .rintro δ j ⟨m,ba,p,q,y,rfl,sh,nn,C⟩
  rw[tz]at C;exact aq (aT rfl ⟨ba,rfl,⟨⟨sh,nn,by omega,r0,r1,c1,c6⟩,C⟩,m⟩)
def Sml(r c:Nat)(ba:LI):Prop:=YA r c ba/\tot ba<=7
theorem BH(ok:β.ok):∃(ba:LI) (r c:Nat) (b:Bg),(iO K a).1 [.bag] β=on (.ok (f0 ba),b)/\Sml r c ba/\b.ok:=by
 suffices h:∃g b,(iO K a).1 [.bag] β=on (g,b)/\(∃(ba:LI) (r c:Nat),g= .ok (f0 ba)/\Sml r c ba/\b.ok) by
  obtain⟨g,b,e,ba,r,c,rfl,u,v⟩:=h;exact⟨ba,r,c,b,e,u,v⟩
 unfold iO
 dsimp only
 refine pV ?_;have p:∀(k n:Nat),jf (.int (k:Int)) (.int (n:Int))=on (.int ((k+n:Nat):Int)):=λk n=>by show on (D.int _)=_;rw[UL]
 obtain⟨y,β1,A,C,a1,j⟩:=bB ok (lot:=8) (by decide) (by decide);refine aB (ak rfl A) ?_;refine gz (β1:=β1) (h8 (d_ rfl rfl eq_int)) ?_;by_cases q1:y=0
 .rw[OE (OO q1)]
  obtain⟨t,β2,l,b0,b1,d⟩:=bB j (lot:=5) (by decide) (by decide);obtain⟨t,rfl⟩:∃n:Nat,t=(n:Int):=⟨t.toNat,by omega⟩;obtain⟨ba,β3,e,g,f⟩:=mI (K:=K) (a:=a) (r:=4) (c:=6) (t:=t) d (by decide) (by decide) (by decide) (by decide) (by omega);exact aT (ak (aa rfl (aa rfl (aa rfl (aa (ak rfl l) rfl)))) e) ⟨ba,4,6,rfl,⟨g.1,by omega⟩,f⟩
 rw[OC (by simp[q1])];refine bo ?_;refine gz (β1:=β1) (h8 (d_ rfl rfl eq_int)) ?_;by_cases q2:y=1
 .rw[OE (OO q2)]
  obtain⟨c,β2,l,b0,b1,d⟩:=bB j (lot:=6) (by decide) (by decide);obtain⟨t,β3,m,c0,c1,f⟩:=bB d (lot:=8) (by decide) (by decide);obtain⟨c,rfl⟩:∃n:Nat,c=(n:Int):=⟨c.toNat,by omega⟩;obtain⟨t,rfl⟩:∃n:Nat,t=(n:Int):=⟨t.toNat,by omega⟩;obtain⟨ba,o,e,g,i⟩:=mI (K:=K) (a:=a) (r:=1) (c:=1+c) (t:=t) f (by decide) (by decide) (by omega) (by omega) (by omega);exact aT (ak (aa rfl (aa rfl (aa (d_ rfl (ak rfl l) (p 1 c)) (aa (ak rfl m) rfl)))) e) ⟨ba,1,1+c,rfl,⟨g.1,by omega⟩,i⟩
 rw[OC (by simp[q2])];refine bo ?_;refine gz (β1:=β1) (h8 (d_ rfl rfl eq_int)) ?_;by_cases q3:y=2
 .rw[OE (OO q3)]
  obtain⟨c,β2,l,b0,b1,d⟩:=bB j (lot:=4) (by decide) (by decide);obtain⟨t,β3,m,c0,c1,f⟩:=bB d (lot:=8) (by decide) (by decide);obtain⟨c,rfl⟩:∃n:Nat,c=(n:Int):=⟨c.toNat,by omega⟩;obtain⟨t,rfl⟩:∃n:Nat,t=(n:Int):=⟨t.toNat,by omega⟩;obtain⟨ba,o,e,g,i⟩:=mI (K:=K) (a:=a) (r:=1+c) (c:=1) (t:=t) f (by omega) (by omega) (by decide) (by decide) (by omega);exact aT (ak (aa rfl (aa (d_ rfl (ak rfl l) (p 1 c)) (aa rfl (aa (ak rfl m) rfl)))) e) ⟨ba,1+c,1,rfl,⟨g.1,by omega⟩,i⟩
 rw[OC (by simp[q3])];refine bo ?_;obtain⟨r,β2,l,b0,b1,d⟩:=bB j (lot:=2) (by decide) (by decide);obtain⟨c,β3,m,c0,c1,f⟩:=bB d (lot:=3) (by decide) (by decide);obtain⟨t,o,B,F,d1,i⟩:=bB f (lot:=8) (by decide) (by decide);obtain⟨r,rfl⟩:∃n:Nat,r=(n:Int):=⟨r.toNat,by omega⟩;obtain⟨c,rfl⟩:∃n:Nat,c=(n:Int):=⟨c.toNat,by omega⟩;obtain⟨t,rfl⟩:∃n:Nat,t=(n:Int):=⟨t.toNat,by omega⟩;obtain⟨ba,β5,e,g,q⟩:=mI (K:=K) (a:=a) (r:=2+r) (c:=2+c) (t:=t) i (by omega) (by omega) (by omega) (by omega) (by omega);refine aB (d_ rfl (ak rfl l) (p 2 r)) (aB (d_ rfl (ak rfl m) (p 2 c)) ?_);exact aq (aT (ak (aa rfl (aa rfl (aa rfl (aa (ak rfl B) rfl)))) e) ⟨ba,2+r,2+c,rfl,⟨g.1,by omega⟩,q⟩)
theorem Z7:∀x<9,(x+1)*1<=500/\1<63:=by decide
theorem Z6:∀x<9,∀y<9-x,(x+1)*((y+1)*1)<=500/\(x+1)*1<63:=by decide
theorem Z5:∀x<9,∀y<9-x,∀z<9-x-y,(x+1)*((y+1)*((z+1)*1))<=500/\(x+1)*((y+1)*1)<63:=by decide
theorem Z4:∀x<9,∀y<9-x,∀z<9-x-y,∀w<9-x-y-z,(x+1)*((y+1)*((z+1)*((w+1)*1)))<=500/\(x+1)*((y+1)*((z+1)*1))<63:=by decide
theorem few:∀{rs:List Nat},1<=rs.length->rs.length<=4->rs.sum<=8->y_ rs/\pr (rs.dropLast.map (·+1))<63
 |[x],_,l,h=>by
  have q:=Z7 x (by simp at h;omega);exact⟨⟨by show 1<=1;decide,l,by omega,q.1⟩,q.2⟩
 |[x,y],_,l,h=>by
  have q:=Z6 x (by simp at h;omega) y (by simp at h;omega);exact⟨⟨by show 1<=2;decide,l,by omega,q.1⟩,q.2⟩
 |[x,y,z],_,l,h=>by
  have q:=Z5 x (by simp at h;omega) y (by simp at h;omega) z (by simp at h;omega);exact⟨⟨by show 1<=3;decide,l,by omega,q.1⟩,q.2⟩
 |[x,y,z,w],_,l,h=>by
  have q:=Z4 x (by simp at h;omega) y (by simp at h;omega) z (by simp at h;omega) w (by simp at h;omega);exact⟨⟨by show 1<=4;decide,l,by omega,q.1⟩,q.2⟩
 |[],h,_,_=>by simp at h
 |_::_::_::_::_::_,_,h,_=>by simp at h
theorem toB{r c:Nat}{b:LP}(h:t7 r c b):∃B,b=gc B/\u_ r c B:=by
 have e:b=gc (b.map λrow=>row.map λp=>(p.1.toNat,p.2.toNat)):=by
  unfold gc;rw[OA];refine(UU b).symm.trans (O5 λrow g=>?_);show row=PR _ (PR _ row);rw[OA];refine(UU row).symm.trans (O5 λp i=>?_);obtain⟨a1,a2,a3⟩:=h.ok row g p i;exact RW (show p.1=((p.1.toNat:Nat):Int) by omega) (show p.2=((p.2.toNat:Nat):Int) by omega)
 refine⟨_,e,h.shp.map,λrow g p i=>?_⟩;obtain⟨d,j,rfl⟩:=OF.mp g;obtain⟨f,k,rfl⟩:=OF.mp i;obtain⟨a1,a2,a3⟩:=h.ok d j f k;show f.1.toNat<=f.2.toNat/\f.2.toNat<=40;omega
theorem Ku{r c:Nat}{ba:LI}{b:LP}(s:Sml r c ba)(k:t7 r c b)(kp:Kp ba b):∃B rs cs,b=gc B/\B_ ba B rs cs/\rs.length=r/\cs.length=c/\rs.sum<=8:=by
 obtain⟨t,l⟩:=s;obtain⟨B,rfl,ok⟩:=toB k;obtain⟨rs,e⟩:=oz (xs:=ba.map Qt) λx f=>by
  obtain⟨row,g,rfl⟩:=OF.mp f;exact kI (t.nn row g)
 obtain⟨cs,i⟩:=oz (xs:=(tp c ba).map Qt) λx f=>by
  obtain⟨row,g,rfl⟩:=OF.mp f;exact kI (GW t.nn row g)
 have m:rs.length=r:=by rw[<-t.shp.1,<-Ol (as:=ba) Qt,e,Ol]
 have n:cs.length=c:=by rw[<-(qa (d:=(0:Int)) (c:=c) t.shp.1).1,<-Ol (as:=t_ 0 c ba) Qt];exact(Py Ua i).symm▸(Ol _).symm
 have j:rs.sum<=8:=by
  have h:(ba.map Qt).sum<=7:=l;rw[e,gl]at h;omega
 have o:rs.sum=cs.sum:=by
  have h:tot (tp c ba)=tot ba:=x8 t.shp.2;unfold tot at h;rw[i,e,gl,gl]at h;omega
 have r0:=t.r0;have r1:=t.r1;have c0:=t.c0;have c1:=t.c1;obtain⟨q1,q2⟩:=few (rs:=rs) (by omega) (by omega) j;subst m n;exact⟨B,rs,cs,rfl,⟨⟨q1,q2,o,c0,c1⟩,t.shp,e,i,ok,kp⟩,rfl,rfl,j⟩
theorem JF{ba:LI}{B:List (List (Nat×Nat))}{rs cs:List Nat}(h:B_ ba B rs cs):(qe K a).1 [f0 ba,k_ B] β=on (.ok (Lm a B rs cs),β):=by
 obtain⟨e,g,_,_⟩:=h.nr;have c6:=h.c6;have b:=oU (K:=K) (a:=a) (β:=β) (ba:=ba) (by rw[h.shp.1];omega);have c:=kC (K:=K) (a:=a) (β:=β) h.shp e (by omega) (by omega);rw[h.rw1]at b;rw[h.cl1]at c;have f:=zZ (K:=K) (a:=a) (β:=β) (ba:=gP (gc B)) (by rw[Ol,(iZ h.bok.1).1];omega);unfold qe
 dsimp only
 refine aO (aq (aT (d:=Lm a B rs cs) (β1:=β) ?_ ⟨rfl,rfl⟩));unfold zU;rw[M.bind_ok (aa (ak rfl b) (aa (ak rfl c) rfl)),M.bind_ok (aa (ak rfl f) rfl)];exact(M.bind_ok (Ll h)).trans rfl
theorem eqI(i j:Int):RF (.int i) (.int j)=decide (i=j):=by unfold RF;exact Bool.beq_eq_decide_eq i j
theorem rc{α:Type} [DecidableEq α]{f:α->WZ}(b:∀x y,RF (f x) (f y)=decide (x=y)):∀xs ys:List α,SZ (xs.map f) (ys.map f)=decide (xs=ys)
 |[],[]=>by simp[SZ]
 |[],y::ys=>by simp[SZ]
 |x::xs,[]=>by simp[SZ]
 |x::xs,y::ys=>by
  rw[OJ,OJ,SZ,b,rc b xs ys];by_cases h:x=y<;>by_cases q:xs=ys<;>simp[h,q]
theorem nh{α:Type}{f:α->D}{g:α->WZ}(h:∀x,vr (f x)=on (g x)):∀l:List α,toPs (l.map f)=on (l.map g)
 |[]=>by simp[toPs]
 |x::l=>by
  rw[OJ,toPs,h x,nh h l];rfl
theorem M9{i:Nat}{b:Bool}{h:G}{δ:Ds}{Q:sA->Bg->Prop}(k:Gw h (δ.set i (on (.odc b [] []))) β Q):Gw (aN (LN i b) h) δ β Q:=dz rfl k
theorem Ka{i:Nat}{c e:FD}{h:G}{δ:Ds}{Q:sA->Bg->Prop}{d kd:D}{b:Bool}{ks:List et}{vs:List D}{k:et}{β1 β2:Bg}(f:e (jn δ) β=on (.ok d,β1))(g:c (jn δ) β1=on (.ok kd,β2))(j:δ.getD i Om=on (.odc b ks vs))(l:fK b kd=on k)(hn:noL d=Oq)(m:ks.length<OV)(n:Gw h (δ.set i (on (.odc b (K_ ks k) (YM ks vs k d)))) β2 Q):Gw (aN (sd i c e) h) δ β Q:=
 dz (by unfold sd;simp only[f,g,j,l,hn,OO m,Uh,PN]) n
def Sn(W:Wy)(rs:List Nat)(k:Nat)(P:List Nat->List Nat->Prop)(ks:List et):Prop:=ks.Nodup/\(∀y∈ks,∃u∈g_ W rs (k+1),y=(0,nI u))/\∀r v,P r v->(0,nI (less r v))∈ks
theorem Sn.mono{k:Nat}{P b:List Nat->List Nat->Prop}{ks:List et}(h:Sn W rs k P ks)(q:∀r v,b r v->P r v):Sn W rs k b ks:=⟨h.1,h.2.1,λr v z=>h.2.2 r v (q r v z)⟩
theorem Sn.add{k:Nat}{P f:List Nat->List Nat->Prop}{ks:List et}{r v:List Nat}(h:Sn W rs k P ks)(i:r∈g_ W rs k)(j:v∈W k r)(q:∀b c,f b c->P b c\/(b=r/\c=v)):Sn W rs k f (K_ ks (0,nI (less r v))):=by
 obtain⟨g,l,m⟩:=h;have hm:∀y,y∈K_ ks (0,nI (less r v))↔y∈ks\/y=(0,nI (less r v)):=λy=>by
  unfold K_;split
  .rename_i z
   exact⟨.inl,λw=>w.elim id λe=>e▸z⟩
  .simp
 refine⟨?_,λy d=>?_,λb c z=>(hm _).mpr ?_⟩
 .unfold K_
  split
  .exact g
  .rename_i z
   exact Ub.mpr ⟨g,SK _ _,λx n y d e=>z (by rw[<-O9.mp d,<-e];exact n)⟩
 .rcases(hm y).mp d with z|z
  .exact l y z
  .exact⟨less r v,fX.mpr ⟨r,i,v,j,rfl⟩,z⟩
 .rcases q b c z with z|⟨rfl,rfl⟩
  .exact .inl (m _ _ z)
  .exact .inr rfl
theorem Sn.len{k:Nat}{P:List Nat->List Nat->Prop}{ks:List et}(h:Sn W rs k P ks)(b:pq K a rs cs W bd)(e:k<cs.length):ks.length<=62:=by
 have:=L2.Pu.nd_len h.1 (m:=(g_ W rs (k+1)).map λu=>((0:Int),nI u)) λy c=>by
  obtain⟨u,d,rfl⟩:=h.2.1 y c;exact OF.mpr ⟨u,d,rfl⟩
 rw[Ol]at this;exact OS this (o9 b (by omega))
theorem Sn.srt{k:Nat}{P:List Nat->List Nat->Prop}{ks:List et}{vs:List D}(h:Sn W rs k P ks)(b:pq K a rs cs W bd)(g:k<cs.length)(q:∀r∈g_ W rs k,∀v∈W k r,P r v):sN [.dct Ov ks vs]=on (lb W rs (k+1)):=by
 have:=h.len b g;show(if ks.length<64 then fq (ks.map λk=>lk k.2)else Om)=_;rw[OE (by omega)];refine yi (vE b.ok b.sm b.nr.1 b.wd g) λd=>⟨λz=>?_,λz=>?_⟩
 .obtain⟨y,c,rfl⟩:=OF.mp z
  obtain⟨r,e,v,f,rfl⟩:=fY.mp c;exact OF.mpr ⟨_,h.2.2 r v (q r e v f),rfl⟩
 .obtain⟨y,c,rfl⟩:=OF.mp z
  obtain⟨u,i,rfl⟩:=h.2.1 y c;obtain⟨r,e,v,f,rfl⟩:=fX.mp i;exact OF.mpr ⟨_,fY.mpr ⟨r,e,v,f,rfl⟩,rfl⟩
abbrev ZL(rs cs:List Nat)(B:List (List (Nat×Nat)))(l:List D)(b c d e f:Option Sl):Ds:=[on (.sh (nL rs)),on (.sh (nL cs)),on (.sh (k_ B)),on (.own l),b,c,d,e,f]
theorem zk{B:List (List (Nat×Nat))}(h:pq K a rs cs (wB B cs) (k_ B))(hB:u_ rs.length cs.length B):(kW K a).1 [nL rs,nL cs,k_ B] β=on (.ok (.lst ((OB (cs.length+1)).map (lb (wB B cs) rs))),β):=by
 have c6:=h.c6;have H:=h.nr.2.1;unfold kW
 dsimp only
 refine aO ?_;refine lZ (ds:=[lb (wB B cs) rs 0]) (β1:=β) (aa (ae (aa (ae rfl rfl) rfl) j3) rfl) (show 1<=OV by decide) ?_;refine bu (ds:=cj 0 ((nI cs).map D.int)) (β1:=β) (bz rfl rfl) (λk δ e=>β=e/\∃q t u g b,δ=ZL rs cs B ((OB (k+1)).map (lb (wB B cs) rs)) q t u g b) ⟨rfl,Om,Om,Om,Om,Om,rfl⟩ ?_ ?_
 .rintro k d δ _ hd ⟨rfl,q,t,u,g,b,rfl⟩
  obtain⟨x,I,rfl⟩:=mR hd;obtain⟨n,hn,rfl⟩:=mz I;have m:=(OI.mp hn).1;have J:cs.getD k 0=n:=by rw[Op,hn];rfl
  obtain⟨cl,L⟩:=hB.col m;refine⟨_,rfl,M9 ?_⟩;refine bu (ds:=(g_ (wB B cs) rs k).map tN) (β1:=β) ?_ (λi δ e=>β=e/\∃ks vs g b,δ=ZL rs cs B ((OB (k+1)).map (lb (wB B cs) rs)) (on (.sh (.int (k:Int)))) (on (.sh (.int (n:Int)))) (on (.odc Ov ks vs)) g b/\Sn (wB B cs) rs k (λr v=>r∈(g_ (wB B cs) rs k).take i/\v∈wB B cs k r) ks) ⟨rfl,[],[],g,b,rfl,Wa,(λy N=>by cases N),λr v z=>by simp at z⟩ ?_ ?_
  .show M.ofO ((ko (.lst ((OB (k+1)).map (lb (wB B cs) rs))) (.int (k:Int))).bind cY) β=_
   rw[bT (d:=lb (wB B cs) rs k) (by rw[Ox,Pz (by omega)];rfl)];rfl
  .rintro i d δ _ hd ⟨rfl,ks,vs,g,b,rfl,f⟩
   obtain⟨r,A,rfl⟩:=bx hd;have o:=OT A;obtain⟨C,O,Q⟩:=h.at (by omega) o;refine⟨_,rfl,aq (bu (ds:=(wB B cs k r).map nL) (β1:=β) (cI (ak (aa rfl (aa rfl (aa (qw hB H m rfl rfl) rfl))) (ql (c:=n) rfl C (by rw[cl,O]) L)) (by unfold wB;rw[J];rfl)) (λj δ e=>β=e/\∃ks vs b,δ=ZL rs cs B ((OB (k+1)).map (lb (wB B cs) rs)) (on (.sh (.int (k:Int)))) (on (.sh (.int (n:Int)))) (on (.odc Ov ks vs)) (on (.sh (tN r))) b/\Sn (wB B cs) rs k (λl v=>(l∈(g_ (wB B cs) rs k).take i/\v∈wB B cs k l)\/(l=r/\v∈(wB B cs k r).take j)) ks) ⟨rfl,ks,vs,b,rfl,f.mono λr v z=>z.elim id λz=>by simp at z⟩ ?_ ?_)⟩
   .rintro j d δ _ hd ⟨rfl,ks,vs,b,rfl,f⟩
    obtain⟨v,F,rfl⟩:=bx hd;have p:=OT F;have R:=f.len h m;refine⟨_,rfl,aq (Ka (d:= .bl Oq) (kd:=dK Ov (0,nI (less r v))) (β1:=β) (β2:=β) rfl (ae (aa (ak rfl (uc rfl (cR ((h.ok k r).subset p)) C.2.1)) rfl) (sI _)) rfl (mE λ_=>rfl) rfl (O3 (show _<100 by omega) (by decide)) (aY ⟨rfl,_,_,_,rfl,f.add o p λl T z=>?_⟩))⟩;rcases z with z|⟨z1,z2⟩
    .exact .inl (.inl z)
    .rw[d8 F]at z2
     rcases Qd.mp z2 with z2|z2
     .exact .inl (.inr ⟨z1,z2⟩)
     .exact .inr ⟨z1,O9.mp z2⟩
   .rintro δ _ ⟨rfl,ks,vs,b,rfl,f⟩
    rw[Ol,Ql]at f;refine aY ⟨rfl,ks,vs,_,_,rfl,f.mono λl v z=>?_⟩;obtain⟨z1,z2⟩:=z;rw[d8 A]at z1;rcases Qd.mp z1 with z1|z1
    .exact .inl ⟨z1,z2⟩
    .cases O9.mp z1
     exact .inr ⟨rfl,z2⟩
  .rintro δ _ ⟨rfl,ks,vs,g,b,rfl,f⟩
   rw[Ol,Ql]at f;refine wo (aq (jH (cs:=(OB (k+1)).map (lb (wB B cs) rs)) (d:=lb (wB B cs) rs (k+1)) rfl (aa (ae rfl (f.srt h m λr o v p=>⟨o,p⟩)) rfl) (O3 (show _<1000 by rw[Ol,OZ];omega) (by decide)) (aY ⟨rfl,on (.sh (.int (k:Int))),on (.sh (.int (n:Int))),on (.sh (.dct Ov ks vs)),g,b,?_⟩)));rw[Rt (n:=k+1),Pg];rfl
 .rintro δ _ ⟨rfl,q,t,u,g,b,rfl⟩
  rw[iW,Ol,Ol];exact aq (aT rfl ⟨rfl,rfl⟩)
theorem jC:∀l:List Nat,RY (l.map λ(n:Nat)=> .int (n:Int))=Oq/\Ti (l.map λ(n:Nat)=> .int (n:Int))=0
 |[]=>⟨rfl,rfl⟩
 |n::l=>by
  obtain⟨b,c⟩:=jC l;exact⟨by rw[OJ,RY,b];rfl,by rw[OJ,Ti,c];rfl⟩
theorem LT(u v:List Nat):SZ (u.map λ(n:Nat)=> .int (n:Int)) (v.map λ(n:Nat)=> .int (n:Int))=decide (u=v):=rc (λx y=>(eqI _ _).trans (decide_eq_decide.mpr (by omega))) u v
theorem GX(u:List Nat):toPs ((nI u).map D.int)=on (u.map λ(n:Nat)=> .int (n:Int)):=by
 rw[OA];exact nh (λn=>rfl) u
theorem vR{f:List Nat->D}{g:List Nat->WZ}(h:∀x,vr (f x)=on (g x))(b:∀x y,RF (g x) (g y)=decide (x=y))(c:∀x,(g x).canLay0=Oq)(hd:∀x,(g x).depth<=9)(x:List Nat)(l:List (List Nat)):lC (f x) (.lst (l.map f))=on (.bl (decide (x∈l))):=by
 have ha:RY (l.map g)=Oq:=by
  induction l with
  |nil=>rfl
  |cons y l ih=>rw[OJ,RY,c,ih];rfl
 have hn:((l.map g).any λy=>RF y (g x))=decide (x∈l):=by
  rw[WL,Tl,VA,decide_eq_true_iff];exact⟨λ⟨y,d,e⟩=>by rw[<-PU ((b y x).symm.trans e)];exact d,λi=>⟨x,i,(b x x).trans (OO rfl)⟩⟩
 unfold lC;simp only[h,nh h,ha,c,OO (hd x),Uh,PN,hn]
theorem N2(x:List Nat)(l:List (List Nat)):lC (tN x) (.lst (l.map tN))=on (.bl (decide (x∈l))):=vR (g:=λu=> .tuple (u.map λ(n:Nat)=> .int (n:Int))) (λu=>by show(toPs _).map _=_;rw[GX];rfl) (λu v=>by rw[RF,LT]) (λu=>(jC u).1) (λu=>by show Ti _+1<=9;rw[(jC u).2];decide) x l
theorem N3(x:List Nat)(l:List (List Nat)):lC (nL x) (.lst (l.map nL))=on (.bl (decide (x∈l))):=vR (g:=λu=> .list (u.map λ(n:Nat)=> .int (n:Int))) (λu=>by show(toPs _).map _=_;rw[GX];rfl) (λu v=>by rw[RF,LT]) (λu=>(jC u).1) (λu=>by show Ti _+1<=9;rw[(jC u).2];decide) x l
theorem rH(n:Nat){i:Int}:cu K a (n+1) [.int i,.int i] β=on (.ok (.bl Oq),β):=by
 show fP 2 (f7 K a (cu K a n)) _ _=_;refine aO ?_;unfold f7;refine dA (β1:=β) (lY (x:= .bl Ov) (ae rfl rfl) rfl) (bo ?_);refine dA (β1:=β) (h8 (d_ rfl rfl rfl)) (bo ?_);refine dA (β1:=β) (oj (h8 (d_ (ae rfl rfl) (ae rfl rfl) rfl)) (h8 (d_ (ae rfl rfl) (ae rfl rfl) rfl))) (bo ?_);exact aq (aT (uW (ae rfl rfl) (d_ rfl rfl (by rw[eq_int,OO rfl]))) ⟨rfl,rfl⟩)
theorem NL(xs:List D):L4 Oq (.bl Ov) (.lst (xs.map λ_=> .bl Oq))=on (.bl Oq):=by
 have h:(xs.map λ_=>D.bl Oq).all eE=Oq/\(xs.map λ_=>D.bl Oq).any (λy=>Z_ y (.bl Ov))=Ov:=by
  induction xs with
  |nil=>exact⟨rfl,rfl⟩
  |cons x xs ih=>exact⟨by rw[OJ,Uk,ih.1];rfl,by rw[OJ,Tc,ih.2];rfl⟩
 unfold L4 W_;simp only[cY,Rc,eE,S8,h.1,h.2,PN,UQ]
theorem wI(n:Nat){d:D}{xs:List D}(hd:d= .lst xs\/d= .tup xs)(b:xs.length<=1000)(h:∀x∈xs,cu K a (n+1) [x,x] β=on (.ok (.bl Oq),β)):cu K a (n+2) [d,d] β=on (.ok (.bl Oq),β):=by
 have z:db xs xs=xs.map λx=> .tup [x,x]:=by simpa using sw (f:=id) (g:=id) xs
 show fP 2 (f7 K a (cu K a (n+1))) _ _=_;refine aO ?_;unfold f7;rcases hd with rfl|rfl
 all_goals
  refine M8 (β1:=β) (lY (x:= .bl Oq) (ae rfl rfl) rfl) (ji ?_);refine dA (β1:=β) (oj (h8 (d_ (ae rfl rfl) (ae rfl rfl) rfl)) (h8 (d_ (ae rfl rfl) (ae rfl rfl) rfl))) (bo (ji ?_));refine dA (β1:=β) (h8 (d_ (ae rfl rfl) (ae rfl rfl) (ne_int.trans (by simp)))) (bo ?_);exact aT (β1:=β) (d_ (z:= .bl Oq) rfl (bh xs (λx=>D.tup [x,x]) (λ_=> .bl Oq) ((kD rfl rfl rfl rfl).trans (by rw[z])) (λx c=>⟨[on x,on x],rfl,ak rfl (h x c)⟩) (bp b)) (NL xs)) ⟨rfl,rfl⟩
theorem Nu{x y:Int}:cu K a 5 [.tup [.int x,.int y],.tup [.int x,.int y]] β=on (.ok (.bl Oq),β):=wI 3 (.inr rfl) (by show 2<=1000;decide) λz hz=>by
 rcases ON.mp hz with rfl|hz
 .exact rH 3
 .cases O9.mp hz
  exact rH 3
theorem HD{l:List (List Nat)}(e:l.length<=500)(c:∀v∈l,v.length<=4):cu K a 5 [.lst (l.map tN),.lst (l.map tN)] β=on (.ok (.bl Oq),β):=wI 3 (.inl rfl) (by rw[Ol];omega) λz b=>by
 obtain⟨v,d,rfl⟩:=OF.mp b;have:=c v d;exact wI 2 (.inr rfl) (by rw[Ol,Ol];omega) λz b=>by
  obtain⟨i,_,rfl⟩:=OF.mp b;exact rH 2
variable{n:Nat}{vs:List (List Nat)}
abbrev csC(vs:List (List Nat)):List Nat:=vs.map Qt
abbrev Y_(n:Nat)(vs:List (List Nat)):LI:=tp n (vs.map nI)
theorem HQ(v:List Nat)(j:Nat):(nI v).getD j 0=((v.getD j 0:Nat):Int):=by
 rw[Op,Op,Ox];cases v[j]?<;>rfl
theorem BN(c:∀v∈vs,v.length=n):(Y_ n vs).map Qt=nI (x0 n vs):=by
 have e:x0 n vs=(OB n).map λj=>(x0 n vs).getD j 0:=QG (by rw[mo c,Ol,OZ]) λi d f=>by
  rw[Rh,RH,dN d]
 rw[e];unfold Y_ tp t_;show PR _ (PR _ _)=PR _ (PR _ _);rw[OA,OA];refine O5 λj b=>?_;have b:=OY.mp b;show((vs.map nI).map λrow=>row.getD j 0).sum=(((x0 n vs).getD j 0:Nat):Int);rw[yx c b,<-gl,OA];show _=(PR _ (PR _ _)).sum;rw[OA];exact Py Qt (O5 λv _=>HQ v j)
theorem NN(vs:List (List Nat)):(vs.map nI).map Qt=nI (csC vs):=by
 show _=PR _ (PR _ _);rw[OA,OA];exact O5 λv _=>gl v
theorem KI{i:Nat}(b:i<n):(Y_ n vs)[i]?=on (nI (vs.map λv=>v.getD i 0)):=by
 rw[Kh b];congr 1;show _=PR _ (PR _ _);rw[OA,OA];exact O5 λv _=>HQ v i
abbrev cD(vs:List (List Nat)):D:= .lst (vs.map nL)
theorem J7{vs:List (List Nat)}(hs:∀v∈vs,v.sum<=40)(d:vs.length<=6)(i:Nat):pr ((vs.take i).map mu)<2^1000:=dX (m:=160*6) (OS (HL (m:=160) λx b=>by
 obtain⟨v,c,rfl⟩:=OF.mp b;exact HS (hs v (UV c))) (Tk (by decide) (by rw[Ol,Qi];omega))) (by decide)
theorem xU{vs:List (List Nat)}(hs:∀v∈vs,v.sum<=40)(hn:∀v∈vs,v.length<=4)(f:vs.length<=6):(jM K a).1 [cD vs] β=on (.ok (.int ((wt vs:Nat):Int)),β):=by
 unfold jM
 dsimp only
 refine aO ?_;refine aB (d:= .int 1) (β1:=β) rfl ?_;refine bu (ds:=vs.map nL) (β1:=β) rfl (λi δ b=>β=b/\∃c,δ=[on (.sh (cD vs)),on (.sh (.int ((pr ((vs.take i).map mu):Nat):Int))),c]) ⟨rfl,Om,rfl⟩ ?_ ?_
 .rintro i d δ _ hd ⟨rfl,c,rfl⟩
  obtain⟨v,e,rfl⟩:=bx hd;have hm:=OT e;refine⟨_,rfl,aq (aB (d_ rfl (ak rfl (CO (hs v hm) (hn v hm))) (qi (J7 hs f i) (dX (sE (hs v hm)) (by decide)))) (aY ⟨rfl,on (.sh (nL v)),?_⟩))⟩;rw[gX e,sD];rfl
 .rintro δ _ ⟨rfl,c,rfl⟩
  rw[Ol,Ql];exact aq (aT rfl ⟨rfl,rfl⟩)
theorem yY:∀{ps:List (Nat×Nat)} {v:List Nat},(∀(i:Nat) (p:Nat×Nat) (x:Nat),ps[i]?=on p->v[i]?=on x->p.1<=x/\x<=p.2)->F0 ps v=Oq
 |[],_,_=>by unfold F0;rfl
 |_::_,[],_=>by unfold F0;rfl
 |p::ps,x::v,h=>by
  have:=h 0 p x rfl rfl;show(decide (p.1<=x)&&decide (x<=p.2)&&F0 ps v)=Oq;rw[yY λi p x b c=>h (i+1) p x b c,OO this.1,OO this.2];rfl
theorem uZ:∀{xs:LI},(∀row∈xs,∀x∈row,0<=x)->∃l:List (List Nat),xs=l.map nI
 |[],_=>⟨[],rfl⟩
 |x::xs,h=>by
  obtain⟨l,e⟩:=uZ λy b=>h y (Ot _ b);obtain⟨m,c⟩:=oz (h x Oz);exact⟨m::l,by rw[e,c];rfl⟩
theorem B_.pos{ba:LI}{B:List (List (Nat×Nat))}{rs cs:List Nat}(h:B_ ba B rs cs)(nn:∀row∈ba,∀x∈row,0<=x):0<oD (wB B cs) cs.length 0 rs:=by
 obtain⟨vs,e⟩:=uZ (GW (c:=cs.length) nn);have sh:=qa (d:=(0:Int)) (c:=cs.length) h.shp.1;have t:vs.length=cs.length:=by rw[<-Ol (f:=nI),<-e];exact sh.1
 have k:∀v∈vs,v.length=rs.length:=λv g=>by
  rw[<-Ol (f:=λ(i:Nat)=>(i:Int))];refine sh.2 (nI v) ?_;show nI v∈tp cs.length ba;rw[e];exact OF.mpr ⟨v,g,rfl⟩
 have l:ba=Y_ rs.length vs:=by rw[<-Ni h.shp,e]
 have es:rs=x0 rs.length vs:=gm (by rw[<-BN k,<-l,h.rw1]);have u:cs=csC vs:=gm (by rw[<-NN,<-e,h.cl1]);refine xT (vs:=vs) ?_ t;rw[es];refine GM k λi r v g le=>?_;rw[QN];have A:=(OI.mp g).1;refine SE.mpr ⟨?_,yY λj p x m o=>?_⟩
 .have q:cs.getD i 0=v.sum:=by rw[u,Op,Ox,g];rfl
  rw[q];exact jY le
 .unfold kq at m
  obtain⟨row,b,rfl⟩:=bx m;have C:=h.bok.1.2 row (OT b);have y:j<rs.length:=by rw[<-k v (OT g)];exact(OI.mp o).1
  have a1:y2 ba j i=on (x:Int):=lS (by rw[l];exact KI y) (by rw[Ox,Ox,g];show on ((v.getD j 0:Nat):Int)=_;rw[Op,o];rfl);have a2:y2 (gc B) j i=on (((row.getD i (0,0)).1:Int),((row.getD i (0,0)).2:Int)):=lS (row:=row.map λp=>((p.1:Int),(p.2:Int))) (by rw[Ox,b];rfl) (by rw[Ox,dN (by omega),Os (by omega)];rfl);have:=h.kp j i _ _ a1 a2;simp only at this;omega
theorem IA(B:List (List (Nat×Nat))):k_ B= .lst (B.map λrow=>D.lst (row.map pN)):=by
 show D.lst (PR _ (PR _ (PR _ B)))=_;rw[OA,OA];exact Py D.lst (O5 λrow _=>Py D.lst (by show PR pD (PR _ row)=_;rw[OA];rfl))
theorem Na(B:List (List (Nat×Nat)))(cs:List Nat)(k:Nat):∀i r,wB (B.map (·.drop k)) (cs.drop k) i r=wB B cs (k+i) r:=λi r=>by
 unfold wB kq;rw[OA,Op,TR,<-Op];exact Py (λl=>vB l r _) (O5 λrow _=>by show(row.drop k).getD i _=_;rw[Op,TR,<-Op])
theorem u_.drop{r c:Nat}{B:List (List (Nat×Nat))}(h:u_ r c B)(k:Nat):u_ r (c-k) (B.map (·.drop k)):=⟨⟨by rw[Ol,h.1.1],λrow d=>by
 obtain⟨b,e,rfl⟩:=OF.mp d;rw[Si,h.1.2 b e]⟩,λrow d p f=>by
 obtain⟨b,e,rfl⟩:=OF.mp d;exact h.2 b e p (List.mem_of_mem_drop f)⟩
theorem J0{r:List Nat}{δ:Dn}{n:Nat}(g:1<=r.length)(h:r.length<=4)(e:δ.getD n Om=on (tN r)):∃u,f2 jf (DN (ah n) Om (on (f1 wT (fC (.int 1))))) (aP fG (ag (f2 jf (f2 ko (ah n) (f1 wT (fC (.int 1)))) (fC (.int 1))) aF)) δ β=on (.ok (tN u),β):=by
 have b:r[r.length-1]?=on (r.getD (r.length-1) 0):=by rw[Op,Os (by omega)];rfl
 have c:((nI r).map D.int).length=r.length:=by rw[Ol,Ol]
 have d:ko (tN r) (.int (-1))=on (.int ((r.getD (r.length-1) 0:Nat):Int)):=by
  show ot _ _=_;unfold ot qk;rw[c,OC (by decide),OE (by omega),show((-1:Int)+(r.length:Int)).toNat=r.length-1 by omega,Rc,Ox,Ox,b];rfl
 have f:BI (tN r) Om (on (-1))=on (tN r.dropLast):=by
  show(if _ then Om else on (D.tup (iz _ Om (on (-1)))))=_;rw[OC (λz=>by have:=z.2;unfold HT.sIx at this;simp at this;omega),DT (by omega),<-Yh,<-Yh]
 refine⟨r.dropLast++[r.getD (r.length-1) 0+1],d_ (x:=tN r.dropLast) (β1:=β) ?_ (ae (aa (d_ (d_ (oi e) rfl d) rfl rfl) rfl) rfl) (MY (by rw[List.length_dropLast];omega))⟩;unfold DN kh;simp only[M.bind,ah,e,M.ret,M.ofO,f1,fC,wT,uP,f]
abbrev V_(a:Ad)(g:D)(B:List (List (Nat×Nat)))(rs cs:List Nat)(s:Int)(k:Nat)(u:List Nat)(b c d e f:Option Sl):Ds:=[Om,on (.sh .bag),on (.sh g),on (.sh (k_ B)),on (.sh (nL rs)),on (.sh (nL cs)),on (.sh (ld a (wB B cs) (k_ B) rs cs)),on (.sh (.lst ((OB (cs.length+1)).map (lb (wB B cs) rs)))),on (.sh (.int s)),on (.sh (lb (wB B cs) rs k)),on (.sh (tN u)),b,c,d,e,f]
theorem CW(β:Bg)(ok:β.ok):∃H,(oV K a).1 [Om,on (.sh .bag),Om,Om,Om,Om,Om,Om,Om,Om,Om,Om,Om,Om,Om,Om] β=on (.rt (.bl Oq),H):=by
 suffices h:Gw (oV K a).1 [Om,on (.sh .bag),Om,Om,Om,Om,Om,Om,Om,Om,Om,Om,Om,Om,Om,Om] β (λo _=>o= .rt (.bl Oq)) by
  obtain⟨o,H,e,rfl⟩:=h;exact⟨H,e⟩
 obtain⟨g,r,c,β1,e1,Z,ok1⟩:=BH (K:=K) (a:=a) ok;obtain⟨l,β2,e2,bl,kl,ok2⟩:=w9 (K:=K) (a:=a) Z.1 ok1;obtain⟨B,rs,cs,rfl,nt,lr,lc,s8⟩:=Ku Z bl kl;have tp0:=nt.pos Z.1.nn;have hW:=rE B cs;have I:pq K a rs cs (wB B cs) (k_ B):=nt.nt;have c6:=nt.c6;have r1:=nt.nr.1;have r4:=nt.nr.2.1;have x1:=oU (K:=K) (a:=a) (β:=β2) (ba:=g) (by rw[nt.shp.1];omega);have x2:=kC (K:=K) (a:=a) (β:=β2) nt.shp r1 (by omega) (by omega);rw[nt.rw1]at x1;rw[nt.cl1]at x2;unfold oV
 dsimp only
 refine aB (ak rfl e1) (aB (ak rfl e2) (aB (ak rfl x1) (aB (ak rfl x2) (aB (ak rfl (JF nt)) (aB (ak rfl (zk I nt.bok)) ?_)))));generalize f0 g=gd;have U:e8 [.lst ((OB (cs.length+1)).map (lb (wB B cs) rs))]=on (.int ((cs.length+1:Nat):Int)):=cE (by rw[Ol,OZ]);have O:∀k,k<=cs.length->ko (.lst ((OB (cs.length+1)).map (lb (wB B cs) rs))) (.int (k:Int))=on (lb (wB B cs) rs k):=λk t=>bT (by rw[Ox,Pz (by omega)];rfl);obtain⟨p,β3,pp,p0,p1,ok3⟩:=bB ok2 (lot:=((cs.length+1:Nat):Int)+2) (by omega) (by omega);refine aB (d:= .int (p-1)) (d_ (ak (aa rfl (aa (d_ (ae rfl U) rfl rfl) rfl)) pp) rfl rfl) ?_;generalize p-1=s;obtain⟨b,ek,A⟩:∃b:Nat,WQ 0 (RP s (((cs.length+1:Nat):Int)-1))=(b:Int)/\b<=cs.length:=⟨(WQ 0 (RP s (((cs.length+1:Nat):Int)-1))).toNat,by omega,by omega⟩;refine aB (d:=lb (wB B cs) rs b) (β1:=β3) (d_ rfl (ae (aa rfl (aa (ae (aa rfl (aa (d_ (ae rfl U) rfl rfl) rfl)) t8) rfl)) (CJ.trans (by rw[ek]))) (O b A)) ?_;obtain⟨r0,hr0,_⟩:=HU tp0 b A;have l0:=UD hr0;have l62:=o9 I A;obtain⟨i,β4,pi,i0,i1,ok4⟩:=bB ok3 (lot:=((g_ (wB B cs) rs b).length:Int)) (by omega) (by omega);obtain⟨i,rfl⟩:∃n:Nat,i=(n:Int):=⟨i.toNat,by omega⟩;have hi:i<(g_ (wB B cs) rs b).length:=by omega
 refine aB (d:=tN (g_ (wB B cs) rs b)[i]) (β1:=β4) (d_ rfl (ak (aa rfl (aa (ae rfl (cE (by rw[Ol]))) rfl)) pi) (bT (by rw[Ox,Os hi];rfl))) ?_;obtain⟨q1,q4,_⟩:=(I.at A (Pr hi)).1;generalize (g_ (wB B cs) rs b)[i]=r at q1 q4;obtain⟨w,β5,X,w0,w1,ok5⟩:=bB ok4 (lot:=5) (by decide) (by decide);refine GN (λδ β=>β5=β/\∃u,δ=V_ a gd B rs cs s b u Om Om Om Om Om) (aq (gz (β1:=β5) (h8 (d_ (ak rfl X) rfl eq_int)) ?_)) ?_
 .by_cases q:w=0
  .rw[OE (OO q)]
   obtain⟨u,eu⟩:=J0 (β:=β5) (δ:=vw (V_ a gd B rs cs s b r Om Om Om Om Om)) (n:=10) q1 q4 rfl;exact aB eu (hZ ⟨rfl,u,rfl⟩)
  .rw[OC (λz=>q (PU z))]
   exact bo (hZ ⟨rfl,r,rfl⟩)
 rintro δ _ ⟨rfl,u,rfl⟩;refine lZ (ds:=[]) (β1:=β5) rfl (PX _) (aB (d:= .tup [.int 0,.int 0]) (β1:=β5) (ae rfl eF) ?_);refine GN (λδ β=>β5=β/\∃(x y:Int) (l:List (List Nat)) (C F f:Option Sl),δ=V_ a gd B rs cs s b u (on (.own (l.map tN))) (on (.sh (.tup [.int x,.int y]))) C F f/\(A_ (wB B cs) rs cs s u).getD (.tup [.int 0,.int 0])= .tup [.int x,.int y]/\(∀{β:Bg},(c8 K a).1 [ld a (wB B cs) (k_ B) rs cs,.int s,tN u] β=on (.ok (l.map tN),β))/\l.length<=500/\∀v∈l,v.length<=4) (aq ?_) ?_
 .have J:(∀k,k<=cs.length->s=(k:Int)->u∉g_ (wB B cs) rs k)->∃(x y:Int) (l:List (List Nat)) (C F f:Option Sl),V_ a gd B rs cs s b u (on (.own [])) (on (.sh (.tup [.int 0,.int 0]))) Om Om Om=V_ a gd B rs cs s b u (on (.own (l.map tN))) (on (.sh (.tup [.int x,.int y]))) C F f/\(A_ (wB B cs) rs cs s u).getD (.tup [.int 0,.int 0])= .tup [.int x,.int y]/\(∀{β:Bg},(c8 K a).1 [ld a (wB B cs) (k_ B) rs cs,.int s,tN u] β=on (.ok (l.map tN),β))/\l.length<=500/\∀v∈l,v.length<=4:=λz=>by
   have z:=Lr z;exact⟨0,0,[],Om,Om,Om,rfl,by rw[z];rfl,BF z,PX _,λv m=>by cases m⟩
  have ge:∀{δ:Dn},δ.getD 8 Om=on (.int s)->fB (f2 Z2 (ah 8) (fC (.int 0))) δ β5=on (.ok (decide (0<=s)),β5):=λe=>h8 (d_ (oi e) rfl ge_int);by_cases Y:0<=s
  .obtain⟨k,rfl⟩:∃k:Nat,s=(k:Int):=⟨s.toNat,by omega⟩
   by_cases Q:k<=cs.length
   .refine gz (β1:=β5) (sC ((ge rfl).trans (by rw[OO Y])) (sC (h8 (d_ rfl (ae rfl U) (lt_int.trans (by rw[OO (by omega)])))) (h8 (d_ rfl (d_ rfl rfl (O k Q)) (N2 u _))))) ?_
    by_cases L:u∈g_ (wB B cs) rs k
    .rw[OE (OO L)]
     obtain⟨N,n2,n3⟩:=I.at Q L;obtain⟨le,us⟩:=ir hW nt.sm k Q u L;have u8:u.sum<=8:=OS le.sum s8;have hB':u_ u.length (cs.drop k).length (B.map (·.drop k)):=by
      rw[n2,Si];exact nt.bok.drop k
     have dl:=Si (l:=cs) (i:=k);have eP:(lst (wB (B.map (·.drop k)) (cs.drop k)) u (cs.drop k).length).map (·.1)=lQ (wB B cs) (cs.length-k) k u:=by rw[NP,yI (Na B cs k),dl];rfl
     have R:(lQ (wB B cs) (cs.length-k) k u).length<=40320:=by
      rw[<-eP,Ol];exact OS (vI (rE _ _) us (OG _)) (Lo u8)
     have li:=w8 (K:=K) (a:=a) (β:=β5) N us (by omega) u8 hB';rw[show(lst (wB (B.map (·.drop k)) (cs.drop k)) u (cs.drop k).length).map (λq=>D.lst (q.1.map nL))=((lst (wB (B.map (·.drop k)) (cs.drop k)) u (cs.drop k).length).map (·.1)).map cD by rw[OA];rfl,eP]at li;have X:=λvs (h:vs∈lQ (wB B cs) (cs.length-k) k u)=>yJ hW h;have pl:∀vs∈lQ (wB B cs) (cs.length-k) k u,vs.length=cs.length-k:=λvs h=>(yH h).2;have eT:=qf (W:=wB B cs) (cs.length-k) k u;have eD:=vm (W:=wB B cs) (cs.length-k) k u;have eH:k<cs.length->(wB B cs k u).filter (λv=>decide (v∈(lQ (wB B cs) (cs.length-k) k u).map (·.getD 0 [])))=sT (wB B cs) cs k u:=λz=>by rw[show cs.length-k=cs.length-(k+1)+1 by omega];exact Np
     have wl:=wn (k:=k) I N;have hl:=show A_ (wB B cs) rs cs k u=_ from lh Q L;have st:=λ{β:Bg}=>BE (β:=β) I Q L;generalize lQ (wB B cs) (cs.length-k) k u=P at*;refine ji (aB (d:=k_ (B.map (·.drop k))) (β1:=β5) ?_ (ji (aB (d:= .lst (P.map cD)) (β1:=β5) (ak (aa rfl (aa (x:=nL (cs.drop k)) ((iE rfl rfl).trans ?_) (aa rfl rfl))) li) (ji (J8 (d:= .tup [.int ((oD (wB B cs) (cs.length-k) k u:Nat):Int),.int ((F3 (wB B cs) (cs.length-k) k u:Nat):Int)]) (β1:=β5) (ae (aa (ae rfl (cE (by rw[Ol,eT]))) (aa (ae (aa (bh P cD (λvs=> .int ((wt vs:Nat):Int)) rfl (λvs m=>⟨[on (cD vs)],rfl,ak rfl (xU (λv h=>?_) (λv h=>?_) ?_)⟩) (OS R (by decide))) rfl) ?_) rfl)) eF) ?_)))))
     .rw[IA,OA]
      exact bh B (λrow=>D.lst (row.map pN)) (λrow=>D.lst ((row.drop k).map pN)) (cI (x:=k_ B) rfl (by rw[IA];rfl)) (λrow _=>⟨[on (.lst (row.map pN)),on (.int (k:Int))],rfl,(iE rfl rfl).trans (by rw[kj,Rz])⟩) (bp (by rw[nt.bok.1.1];omega))
     .rw[kj,<-Rz,<-Rz]
     .have:=(X vs m v h).sum
      omega
     .rw[(X vs m v h).len];exact N.2.1
     .rw[pl vs m];omega
     .have:fm [.lst (PR D.int (PR (λi:Nat=>(i:Int)) (PR wt P)))]=_:=ju (P.map wt)
      rw[OA,OA]at this;rw[<-eD];exact this
     .refine gz (β1:=β5) (h8 (d_ rfl (ae rfl (qm cs)) lt_int)) ?_
      have du:Zg (wB B cs) cs k u=if k<cs.length then sT (wB B cs) cs k u else[]:=rfl;by_cases t:k<cs.length
      .rw[OE (OO (by omega))]
       rw[OE t]at du;obtain⟨cl,cb⟩:=nt.bok.col t;refine bu (ds:=(wB B cs k u).map nL) (β1:=β5) (cI (ak (aa rfl (aa (x:= .int ((cs.getD k 0:Nat):Int)) (d_ rfl rfl (bT (by rw[Ox,Ox,dN t,Os t];rfl))) (aa (qw nt.bok r4 t rfl rfl) rfl))) (ql rfl N (by rw[cl,n2]) cb)) rfl) (λi δ β=>β5=β/\∃f,δ=V_ a gd B rs cs (k:Int) b u (on (.own ((((wB B cs k u).take i).filter (λv=>decide (v∈P.map (·.getD 0 [])))).map tN))) (on (.sh (.tup [.int ((oD (wB B cs) (cs.length-k) k u:Nat):Int),.int ((F3 (wB B cs) (cs.length-k) k u:Nat):Int)]))) (on (.sh (k_ (B.map (·.drop k))))) (on (.sh (.lst (P.map cD)))) f) ⟨rfl,Om,rfl⟩ ?_ ?_
       .rintro i d δ _ hd ⟨rfl,f,rfl⟩
        obtain⟨v,m,rfl⟩:=bx hd;have hh:ci 1 [] (di (ah 14)) (i4 0) (λ_=>M.ret Oq) (ln (f2 ko (ah 0) (fC (.int 0)))) (jn (V_ a gd B rs cs (k:Int) b u (on (.own ((((wB B cs k u).take i).filter (λv=>decide (v∈P.map (·.getD 0 [])))).map tN))) (on (.sh (.tup [.int ((oD (wB B cs) (cs.length-k) k u:Nat):Int),.int ((F3 (wB B cs) (cs.length-k) k u:Nat):Int)]))) (on (.sh (k_ (B.map (·.drop k))))) (on (.sh (.lst (P.map cD)))) (on (.sh (nL v))))) β5=on (.ok (.lst ((P.map (·.getD 0 [])).map nL)),β5):=by
         rw[OA];exact bh P cD (λvs=>nL (vs.getD 0 [])) rfl (λvs m=>⟨[on (cD vs)],rfl,d_ rfl rfl (bT (k:=0) (by have:=pl vs m;rw[Ox,Op,Os (by omega)];rfl))⟩) (OS R (by decide))
        refine⟨_,rfl,aq (gz (β1:=β5) (h8 (d_ rfl hh (N3 v _))) ?_)⟩;by_cases z:v∈P.map (·.getD 0 [])
        .rw[OE (OO z)]
         refine jH (d:=tN v) rfl (aa (ae rfl (sI v)) rfl) (Qo (show _<=500 by rw[Ol];exact OS (WU _ _) (by rw[Qi];omega)) (by decide)) (aY ⟨rfl,on (.sh (nL v)),?_⟩);rw[d8 m,XT,S5,OE (OO z),List.filter_nil,Pg];rfl
        .rw[OC (λy=>z (PU y))]
         refine bo (aY ⟨rfl,on (.sh (nL v)),?_⟩);rw[d8 m,XT,S5,OC (λy=>z (PU y)),List.filter_nil,Pi];rfl
       .rintro δ _ ⟨rfl,f,rfl⟩
        rw[Ol,Ql,eH t,<-du];refine hZ ⟨rfl,_,_,Zg (wB B cs) cs k u,_,_,_,rfl,by rw[hl];rfl,st,?_,λv m=>?_⟩
        .rw[du];exact No I N
        .rw[du]at m
         rw[(cR ((hW k u).subset (SE.mp m).1)).len];exact N.2.1
      .rw[OC (λz=>t (by have:=PU z;omega))]
       rw[OC t]at du;exact bo (hZ ⟨rfl,_,_,[],_,_,_,rfl,by rw[hl];rfl,du▸st,PX _,λv m=>by cases m⟩)
    .rw[OC (λz=>L (PU z))]
     exact bo (hZ ⟨rfl,J λj _ e=>by cases(show k=j by omega);exact L⟩)
   .exact dA (β1:=β5) (sC ((ge rfl).trans (by rw[OO Y])) (xS (h8 (d_ rfl (ae rfl U) (lt_int.trans (by rw[Pp (by omega)])))))) (bo (hZ ⟨rfl,J λj hj e=>O4 hj (by omega)⟩))
  .exact dA (β1:=β5) (xS ((ge rfl).trans (by rw[Pp Y]))) (bo (hZ ⟨rfl,J λj hj e=>O4 Y (by omega)⟩))
 rintro δ _ ⟨rfl,x,y,l,C,F,f,rfl,hc,T,ll,R⟩;refine dA (β1:=β5) (oo (c:=Oq) (lY (ak (aa (hX rfl (aa rfl (aa rfl rfl)) (pS.trans (by rw[hc]))) (aa rfl rfl)) Nu) rfl)) (bo ?_);refine J9 (hX rfl (aa rfl (aa rfl rfl)) T) (dA (β1:=β5) (oo (c:=Oq) (lY (ak rfl (HD ll R)) rfl)) (bo (jH (d:=tN u) rfl rfl (Qo (show _<=500 by rw[Ol];exact ll) (by decide)) ?_)));exact aq (aT (uW (ak (aa (M5 (hX rfl (aa rfl (aa rfl rfl)) T)) (aa rfl rfl)) (HD ll R)) (ak (aa (d_ (hX rfl (aa rfl (aa (ae rfl (sI rs)) rfl)) (pS.trans (by rw[show A_ (wB B cs) rs cs 0 rs=_ from lh (k:=0) (PX _) (O9.mpr rfl)];rfl))) rfl uj) (aa (hX rfl rfl IU) rfl)) (rH 4))) rfl)
noncomputable abbrev E(P:Wl)(n:String)(t:Nat)(v:Oy):Q2:=⟨PyData.keyHash P (Qq n),.str (Qq n) t,v⟩
noncomputable abbrev FN(x q:Pn)(s:Qg)(c d b e:Oy)(f:Option Ou)(cd ct:Oy):O8:=SL x q (g9 s) (bZ s) (af s) c d b e f cd ct
noncomputable abbrev fO(f:O8):Pa:=⟨.type "function",Om,.func f,#[]⟩
noncomputable abbrev tO(l:List Oy):Pa:=⟨.type "tuple",Om,.seq l.toArray 0,#[]⟩
noncomputable abbrev cO(l:List Oy):Pa:=⟨.type "code",Om,.fields l.toArray,#[]⟩
noncomputable abbrev eB(P:Wl)(n:String)(t:Nat):Q2:=E P n t (.builtin n)
noncomputable abbrev eT(P:Wl)(n:String)(t:Nat):Q2:=E P n t (.type n)
noncomputable abbrev eR(P:Wl)(n:String)(t r:Nat):Q2:=E P n t (.ref r)
noncomputable abbrev nO(l:List Oy):Pa:=⟨.none,Om,.fields l.toArray,#[]⟩
noncomputable abbrev fB(x q:Pn)(s:Qg):Pa:=⟨.none,Om,.func ⟨x,q,g9 s,.stmts (bZ s),af s,0,[],.none,.none,.none,.none,Om,.none,.none,0⟩,#[]⟩
noncomputable abbrev cC(n q:Pn)(t l a po c fl r:Nat)(b:Bool)(d e:Nat)(x y z w:Oy)(u f v:Nat):Pa:=cO [.str n t,.str q (t+1),.str "/claim/cut.py" (t+2),.int l 0,.int a 0,.int po 0,.int c 0,.int fl 0,.ref r,.bool b,.int d 0,.ref e,x,y,z,w,.int u 0,.int f 0,.str "/claim/cut.py" v]
noncomputable abbrev cF(n:Pn)(t l a b r c u:Nat):Pa:=cC n n t l a 0 b 3 r Oq c (r+1) .none .none .none (.ref (r+2)) u l (u+1)
noncomputable abbrev cG(n:Pn)(t l a b r c u:Nat):Pa:=cC n n t l a 0 b 3 r Oq c (r+1) .none (.ref (r+2)) (.ref (r+3)) (.ref (r+4)) u l (u+1)
noncomputable abbrev fM(m:Pn)(t:Nat)(x:Pn)(i c:Nat):Pa:=fO (FN x x (dk i) .none .none .none (.str m t) Om (.ref c) .none)
abbrev eTt:List Oy:=[(.ref 38),(.type "ValueError"),(.type "Exception"),(.type "BaseException"),(.type "object")]
noncomputable abbrev YI(x:Pn)(a d b t u:Nat):Pa:=⟨(.type "type"),Om,(.cls ⟨x,[(.ref 38)],(.ref a)::eTt,d,x,Oq,[],[],Ov,Om,Ov⟩),#[(on (.ref b)),Om,(on (.str x t)),(on (.str x u)),(on (.builtin "ValueError.__new__")),(on (.bool Oq))]⟩
noncomputable abbrev X_(n:Nat):Pa:=⟨(.type "builtin_function_or_method"),Om,(.fields #[(.builtin "object.__init_subclass__"),(.ref n)]),#[]⟩
noncomputable abbrev lq:Oy:= .str "edgetally.errors" 194
noncomputable abbrev rx:Oy:= .str "edgetally.net" 464
noncomputable abbrev Y3:Oy:= .str "__main__" 164
noncomputable abbrev fL(x q:Pn)(i c:Nat):Pa:=fO (FN x q (dk i) .none .none .none (.str "law_edgetally_k18_counts_and_steps" 633) Om (.ref c) .none)
noncomputable def trL:List Nat->List Oy
 |a::b::c::l=> .int a 0:: .int b 0:: .ref c::trL l
 |_=>[]
noncomputable abbrev nT(l:List Nat):Pa:=nO (trL l)
noncomputable def stL:Nat->List Pn->List Oy
 |_,[]=>[]
 |t,x::l=> .str x t::stL (t+1) l
noncomputable abbrev tS(t:Nat)(l:List Pn):Pa:=tO (stL t l)
noncomputable def fD(o:Pa):O8:=match o.data with
 | .func f=>f
 |_=>FN "" "" (dk 0) .none .none .none .none Om .none .none
end
section
variable(P:Wl)
def b0:Pa:=⟨(.type "dict"),Om,(.dict #[(E P "__name__" 1 (.str "builtins" 160)),(E P "__doc__" 2 (.builtin "builtins.__doc__:str#opaque")),(E P "__package__" 3 (.builtin "builtins.__package__:str#opaque")),(E P "__loader__" 4 (.builtin "builtins.__loader__:shared#opaque")),(E P "__spec__" 5 (.builtin "builtins.__spec__#opaque")),(eB P "__build_class__" 6),(eB P "__import__" 7),(eB P "abs" 8),(eB P "all" 9),(eB P "any" 10),(eB P "ascii" 11),(eB P "bin" 12),(eB P "breakpoint" 13),(eB P "callable" 14),(eB P "chr" 15),(eB P "compile" 16),(eB P "delattr" 17),(eB P "dir" 18),(eB P "divmod" 19),(eB P "eval" 20),(eB P "exec" 21),(eB P "format" 22),(eB P "getattr" 23),(eB P "globals" 24),(eB P "hasattr" 25),(eB P "hash" 26),(eB P "hex" 27),(eB P "id" 28),(eB P "input" 29),(eB P "isinstance" 30),(eB P "issubclass" 31),(eB P "iter" 32),(eB P "aiter" 33),(eB P "len" 34),(eB P "locals" 35),(eB P "max" 36),(eB P "min" 37),(eB P "next" 38),(eB P "anext" 39),(eB P "oct" 40),(eB P "ord" 41),(eB P "pow" 42),(eB P "print" 43),(eB P "repr" 44),(eB P "round" 45),(eB P "setattr" 46),(eB P "sorted" 47),(eB P "sum" 48),(eB P "vars" 49),(E P "None" 50 .none),(E P "Ellipsis" 51 .ellipsis),(E P "NotImplemented" 52 .notImplemented),(E P "False" 53 (.bool Ov)),(E P "True" 54 (.bool Oq)),(eT P "bool" 55),(eT P "memoryview" 56),(eT P "bytearray" 57),(eT P "bytes" 58),(eT P "classmethod" 59),(eT P "complex" 60),(eT P "dict" 61),(eT P "enumerate" 62),(eT P "filter" 63),(eT P "float" 64),(eT P "frozenset" 65),(eT P "property" 66),(eT P "int" 67),(eT P "list" 68),(eT P "map" 69),(eT P "object" 70),(eT P "range" 71),(eT P "reversed" 72),(eT P "set" 73),(eT P "slice" 74),(eT P "staticmethod" 75),(eT P "str" 76),(eT P "super" 77),(eT P "tuple" 78),(eT P "type" 79),(eT P "zip" 80),(E P "__debug__" 81 (.bool Oq)),(eT P "BaseException" 82),(eT P "BaseExceptionGroup" 83),(eT P "Exception" 84),(eT P "GeneratorExit" 85),(eT P "KeyboardInterrupt" 86),(eT P "SystemExit" 87),(eT P "ArithmeticError" 88),(eT P "AssertionError" 89),(eT P "AttributeError" 90),(eT P "BufferError" 91),(eT P "EOFError" 92),(eT P "ImportError" 93),(eT P "LookupError" 94),(eT P "MemoryError" 95),(eT P "NameError" 96),(eT P "OSError" 97),(eT P "ReferenceError" 98),(eT P "RuntimeError" 99),(eT P "StopAsyncIteration" 100),(eT P "StopIteration" 101),(eT P "SyntaxError" 102),(eT P "SystemError" 103),(eT P "TypeError" 104),(eT P "ValueError" 105),(eT P "Warning" 106),(eT P "FloatingPointError" 107),(eT P "OverflowError" 108),(eT P "ZeroDivisionError" 109),(eT P "BytesWarning" 110),(eT P "DeprecationWarning" 111),(eT P "EncodingWarning" 112),(eT P "FutureWarning" 113),(eT P "ImportWarning" 114),(eT P "PendingDeprecationWarning" 115),(eT P "ResourceWarning" 116),(eT P "RuntimeWarning" 117),(eT P "SyntaxWarning" 118),(eT P "UnicodeWarning" 119),(eT P "UserWarning" 120),(eT P "BlockingIOError" 121),(eT P "ChildProcessError" 122),(eT P "ConnectionError" 123),(eT P "FileExistsError" 124),(eT P "FileNotFoundError" 125),(eT P "InterruptedError" 126),(eT P "IsADirectoryError" 127),(eT P "NotADirectoryError" 128),(eT P "PermissionError" 129),(eT P "ProcessLookupError" 130),(eT P "TimeoutError" 131),(eT P "IndentationError" 132),(eT P "_IncompleteInputError" 133),(eT P "IndexError" 134),(eT P "KeyError" 135),(eT P "ModuleNotFoundError" 136),(eT P "NotImplementedError" 137),(eT P "PythonFinalizationError" 138),(eT P "RecursionError" 139),(eT P "UnboundLocalError" 140),(eT P "UnicodeError" 141),(eT P "BrokenPipeError" 142),(eT P "ConnectionAbortedError" 143),(eT P "ConnectionRefusedError" 144),(eT P "ConnectionResetError" 145),(eT P "TabError" 146),(eT P "UnicodeDecodeError" 147),(eT P "UnicodeEncodeError" 148),(eT P "UnicodeTranslateError" 149),(eT P "ExceptionGroup" 150),(E P "EnvironmentError" 151 (.type "OSError")),(E P "IOError" 152 (.type "OSError")),(eB P "open" 153),(E P "quit" 154 (.builtin "builtins.quit#opaque")),(E P "exit" 155 (.builtin "builtins.exit#opaque")),(E P "copyright" 156 (.builtin "builtins.copyright#opaque")),(E P "credits" 157 (.builtin "builtins.credits#opaque")),(E P "license" 158 (.builtin "builtins.license#opaque")),(E P "help" 159 (.builtin "builtins.help#opaque"))] 159),#[]⟩
def b1:Pa:=⟨(.type "dict"),Om,(.dict #[(eR P "builtins" 162 4),(eR P "__main__" 163 5)] 2),#[]⟩
noncomputable def b2:Pa:=⟨.none,Om,(.dict #[] 0),#[]⟩
def mL:List Q2:=[(E P "__name__" 165 (.str "law_edgetally_k18_counts_and_steps" 633)),(E P "__doc__" 166 .none),(E P "__package__" 167 .none),(E P "__loader__" 168 (.builtin "__main__.__loader__#opaque")),(E P "__spec__" 169 .none),(eR P "__annotations__" 170 6),(eR P "__builtins__" 171 4),(E P "__file__" 173 (.str "/claim/cut.py" 172)),(E P "__cached__" 174 .none),(eR P "_wall" 193 21),(eR P "EdgeError" 223 38),(eR P "BadSums" 248 59),(eR P "BadBounds" 273 79),(eR P "TooWide" 298 98),(eR P "Barred" 325 117),(eR P "BadNumber" 350 137),(E P "MOST" 354 (.int 40 353)),(E P "MOST_ROWS" 356 (.int 4 355)),(E P "MOST_COLUMNS" 358 (.int 6 357)),(eR P "FREE" 360 140),(eR P "free" 367 146),(eR P "check_sums" 373 151),(eR P "check_pair" 382 158),(eR P "settled_bounds" 388 163),(eR P "factorial" 399 170),(eR P "ways" 408 177),(eR P "fillings" 414 182),(eR P "need_of" 422 187),(eR P "room_inside" 428 192),(eR P "room_beside" 434 197),(eR P "room_of" 440 202),(eR P "narrowest" 446 207),(eR P "choices" 452 212),(eR P "check_fit" 463 219),(E P "WIDE" 467 (.int 500 466)),(eR P "check_wide" 476 226),(eR P "settled_for_net" 486 233),(eR P "column_fillings" 492 238),(eR P "rests_behind" 498 243),(eR P "nodes_by_level" 504 248),(eR P "node_counts" 518 255),(eR P "counted_nodes" 524 260),(eR P "Net" 632 344),(eR P "_law_bag" 640 353),(eR P "_law_pull" 651 360),(eR P "_law_same" 657 365),(eR P "_law_grid" 663 370),(eR P "_law_small" 673 377),(eR P "_law_turned" 679 382),(eR P "_law_rowsums" 685 387),(eR P "_law_columnsums" 691 392),(eR P "_law_free" 697 397),(eR P "_law_bounds" 711 404),(eR P "_law_copied" 717 409),(eR P "_law_fit" 723 414),(eR P "_law_less" 729 419),(eR P "_law_listing" 735 424),(eR P "_law_factorial" 744 431),(eR P "_law_ways" 753 438),(eR P "_law_weight" 762 445),(eR P "_law_net" 770 452),(eR P "_law_nodes" 776 457),(eR P "law" 782 462)]
noncomputable def b3:Pa:=⟨(.type "dict"),Om,(.dict (mL P).toArray 63),#[]⟩
noncomputable def b4:Pa:=⟨(.type "module"),(on 0),.plain,#[]⟩
noncomputable def b5:Pa:=⟨(.type "module"),(on 3),.plain,#[]⟩
noncomputable def b6:Pa:=⟨(.type "dict"),Om,(.dict #[] 0),#[]⟩
def b7:Pa:=tO []
def b8:Pa:=nO []
def b9:Pa:=cC "<module>" "<module>" 176 1 0 0 0 0 7 Ov 175 8 .none .none .none .none 179 1 180
def b10:Pa:=⟨(.type "frame"),Om,.plain,#[(on (.ref 9)),(on (.ref 3)),(on (.ref 3)),Om,(on Y3),Om,(on (.ref 0))]⟩
def b12:Pa:=nT [1,0,20,5,0,27,10,0,47,14,0,67,18,0,87,23,0,106,29,0,125,38,0,145,40,0,150,51,0,157,55,0,162,65,0,169,70,0,176,78,0,181,88,0,186,90,0,191,93,0,196,95,0,201,97,0,206,99,0,211,104,0,218,111,0,225,117,0,232,122,0,237,124,0,242,126,0,247,134,0,254,142,0,259,152,0,266,194,0,352,196,0,359,206,0,364,218,0,369,225,0,376,236,0,381,238,0,386,240,0,391,242,0,396,244,0,403,256,0,408,258,0,413,267,0,418,269,0,423,278,0,430,283,0,437,288,0,444,293,0,451,295,0,456,304,0,461]
def b13:Pa:=cC "<module>" "<module>" 182 1 0 0 0 0 11 Ov 181 12 .none .none .none .none 185 1 186
def b14:Pa:=⟨(.type "frame"),Om,.plain,#[(on (.ref 13)),(on (.ref 3)),(on (.ref 3)),Om,(on Y3),Om,(on (.ref 0))]⟩
def b17:Pa:=tS 190 ["k"]
def b19:Pa:=fB "_wall" "_wall" (dk 0)
def b20:Pa:=cG "_wall" 187 1 1 0 15 181 191
def b21:Pa:=fM "__main__" 164 "_wall" 0 20
def b22:Pa:=tO [(.type "ValueError")]
noncomputable def Yy:Pa:=⟨(.type "builtin_function_or_method"),Om,(.fields #[(.builtin "type.__prepare__"),(.type "type")]),#[]⟩
def b24:Pa:=⟨(.type "dict"),Om,(.dict #[(E P "__module__" 203 lq),(E P "__qualname__" 205 (.str "EdgeError" 204)),(E P "__firstlineno__" 207 (.int 5 206)),(eR P "__init__" 216 35),(eR P "__static_attributes__" 218 36)] 5),#[]⟩
def b26:Pa:=nT [7,4,34]
def b27:Pa:=cC "EdgeError" "EdgeError" 198 5 0 0 0 0 25 Ov 181 26 .none .none .none .none 201 5 202
def b28:Pa:=⟨(.type "frame"),Om,.plain,#[(on (.ref 27)),(on (.ref 3)),(on (.ref 24)),Om,(on lq),Om,(on (.ref 0))]⟩
def b31:Pa:=tS 211 ["self","word","why"]
def b33:Pa:=fB "__init__" "EdgeError.__init__" (aA (dk 2) 0)
def b34:Pa:=cC "__init__" "EdgeError.__init__" 208 7 3 0 0 3 29 Oq 181 30 .none (.ref 31) (.ref 32) (.ref 33) 214 7 215
def b35:Pa:=fO (FN "__init__" "EdgeError.__init__" (aA (dk 2) 0) .none .none .none lq Om (.ref 34) .none)
def b36:Pa:=tS 217 ["word"]
def b37:Pa:=⟨(.type "dict"),Om,(.dict #[(E P "__module__" 203 lq),(E P "__firstlineno__" 207 (.int 5 206)),(eR P "__init__" 216 35),(eR P "__static_attributes__" 218 36),(eR P "__weakref__" 220 39),(E P "__doc__" 221 .none)] 3),#[]⟩
noncomputable def b38:Pa:=⟨(.type "type"),Om,(.cls ⟨"EdgeError",[(.type "ValueError")],[(.ref 38),(.type "ValueError"),(.type "Exception"),(.type "BaseException"),(.type "object")],37,"EdgeError",Oq,[],[(.ref 59),(.ref 79),(.ref 98),(.ref 117),(.ref 137)],Ov,Om,Ov⟩),#[(on (.ref 22)),Om,(on (.str "EdgeError" 196)),(on (.str "EdgeError" 204)),(on (.builtin "ValueError.__new__")),(on (.bool Oq))]⟩
noncomputable def b39:Pa:=⟨(.type "getset_descriptor"),Om,(.fields #[(.str "__weakref__" 219),(.ref 38),(.builtin "ExceptionGroup.__weakref__"),.none]),#[]⟩
noncomputable def b40:Pa:=⟨(.type "super"),Om,(.fields #[(.ref 38),(.ref 38),(.ref 38)]),#[]⟩
def b41:Pa:=X_ 38
def YT:Pa:=tO [(.ref 38)]
def b44:Pa:=⟨(.type "dict"),Om,(.dict #[(E P "__module__" 231 lq),(E P "__qualname__" 233 (.str "BadSums" 232)),(E P "__firstlineno__" 235 (.int 10 234)),(eR P "__init__" 244 56),(eR P "__static_attributes__" 245 57)] 5),#[]⟩
def b46:Pa:=nT [12,4,55]
def b47:Pa:=cC "BadSums" "BadSums" 226 10 0 0 0 0 45 Ov 181 46 .none .none .none .none 229 10 230
def b48:Pa:=⟨(.type "frame"),Om,.plain,#[(on (.ref 47)),(on (.ref 3)),(on (.ref 44)),Om,(on lq),Om,(on (.ref 0))]⟩
def b49:Pa:=tS 236 ["these sums are no table's"]
def b52:Pa:=tS 240 ["self","why"]
def b54:Pa:=fB "__init__" "BadSums.__init__" (aA (dk 3) 0)
def b55:Pa:=cC "__init__" "BadSums.__init__" 237 12 2 0 0 3 50 Oq 181 51 .none (.ref 52) (.ref 53) (.ref 54) 242 12 243
def b56:Pa:=fO (FN "__init__" "BadSums.__init__" (aA (dk 3) 0) (.ref 49) .none .none lq Om (.ref 55) .none)
def b58:Pa:=⟨(.type "dict"),Om,(.dict #[(E P "__module__" 231 lq),(E P "__firstlineno__" 235 (.int 10 234)),(eR P "__init__" 244 56),(eR P "__static_attributes__" 245 57),(E P "__doc__" 246 .none)] 2),#[]⟩
def b59:Pa:=YI "BadSums" 59 58 42 224 232
noncomputable def b60:Pa:=⟨(.type "super"),Om,(.fields #[(.ref 59),(.ref 59),(.ref 59)]),#[]⟩
def b61:Pa:=X_ 59
def b64:Pa:=⟨(.type "dict"),Om,(.dict #[(E P "__module__" 256 lq),(E P "__qualname__" 258 (.str "BadBounds" 257)),(E P "__firstlineno__" 260 (.int 14 259)),(eR P "__init__" 269 76),(eR P "__static_attributes__" 270 77)] 5),#[]⟩
def b66:Pa:=nT [16,4,75]
def b67:Pa:=cC "BadBounds" "BadBounds" 251 14 0 0 0 0 65 Ov 181 66 .none .none .none .none 254 14 255
def b68:Pa:=⟨(.type "frame"),Om,.plain,#[(on (.ref 67)),(on (.ref 3)),(on (.ref 64)),Om,(on lq),Om,(on (.ref 0))]⟩
def b69:Pa:=tS 261 ["these bounds are no table's"]
def b72:Pa:=tS 265 ["self","why"]
def b74:Pa:=fB "__init__" "BadBounds.__init__" (aA (dk 4) 0)
def b75:Pa:=cC "__init__" "BadBounds.__init__" 262 16 2 0 0 3 70 Oq 181 71 .none (.ref 72) (.ref 73) (.ref 74) 267 16 268
def b76:Pa:=fO (FN "__init__" "BadBounds.__init__" (aA (dk 4) 0) (.ref 69) .none .none lq Om (.ref 75) .none)
def b78:Pa:=⟨(.type "dict"),Om,(.dict #[(E P "__module__" 256 lq),(E P "__firstlineno__" 260 (.int 14 259)),(eR P "__init__" 269 76),(eR P "__static_attributes__" 270 77),(E P "__doc__" 271 .none)] 2),#[]⟩
def b79:Pa:=YI "BadBounds" 79 78 62 249 257
noncomputable def b80:Pa:=⟨(.type "super"),Om,(.fields #[(.ref 79),(.ref 79),(.ref 79)]),#[]⟩
def b81:Pa:=X_ 79
def b84:Pa:=⟨(.type "dict"),Om,(.dict #[(E P "__module__" 281 lq),(E P "__qualname__" 283 (.str "TooWide" 282)),(E P "__firstlineno__" 285 (.int 18 284)),(eR P "__init__" 293 95),(eR P "__static_attributes__" 295 96)] 5),#[]⟩
def b86:Pa:=nT [20,4,94]
def b87:Pa:=cC "TooWide" "TooWide" 276 18 0 0 0 0 85 Ov 181 86 .none .none .none .none 279 18 280
def b88:Pa:=⟨(.type "frame"),Om,.plain,#[(on (.ref 87)),(on (.ref 3)),(on (.ref 84)),Om,(on lq),Om,(on (.ref 0))]⟩
def b91:Pa:=tS 289 ["self","wide"]
def b93:Pa:=fB "__init__" "TooWide.__init__" (aA (dk 5) 0)
def b94:Pa:=cC "__init__" "TooWide.__init__" 286 20 2 0 0 3 89 Oq 181 90 .none (.ref 91) (.ref 92) (.ref 93) 291 20 292
def b95:Pa:=fO (FN "__init__" "TooWide.__init__" (aA (dk 5) 0) .none .none .none lq Om (.ref 94) .none)
def b96:Pa:=tS 294 ["wide"]
def b97:Pa:=⟨(.type "dict"),Om,(.dict #[(E P "__module__" 281 lq),(E P "__firstlineno__" 285 (.int 18 284)),(eR P "__init__" 293 95),(eR P "__static_attributes__" 295 96),(E P "__doc__" 296 .none)] 2),#[]⟩
def b98:Pa:=YI "TooWide" 98 97 82 274 282
noncomputable def b99:Pa:=⟨(.type "super"),Om,(.fields #[(.ref 98),(.ref 98),(.ref 98)]),#[]⟩
def b100:Pa:=X_ 98
def b103:Pa:=⟨(.type "dict"),Om,(.dict #[(E P "__module__" 306 lq),(E P "__qualname__" 308 (.str "Barred" 307)),(E P "__firstlineno__" 310 (.int 23 309)),(eR P "__init__" 319 114),(eR P "__static_attributes__" 322 115)] 5),#[]⟩
def b105:Pa:=nT [25,4,113]
def b106:Pa:=cC "Barred" "Barred" 301 23 0 0 0 0 104 Ov 181 105 .none .none .none .none 304 23 305
def b107:Pa:=⟨(.type "frame"),Om,.plain,#[(on (.ref 106)),(on (.ref 3)),(on (.ref 103)),Om,(on lq),Om,(on (.ref 0))]⟩
def b110:Pa:=tS 314 ["self","over","into"]
def b112:Pa:=fB "__init__" "Barred.__init__" (aA (dk 6) 0)
def b113:Pa:=cC "__init__" "Barred.__init__" 311 25 3 0 0 3 108 Oq 181 109 .none (.ref 110) (.ref 111) (.ref 112) 317 25 318
def b114:Pa:=fO (FN "__init__" "Barred.__init__" (aA (dk 6) 0) .none .none .none lq Om (.ref 113) .none)
def b115:Pa:=tS 320 ["into","over"]
def b116:Pa:=⟨(.type "dict"),Om,(.dict #[(E P "__module__" 306 lq),(E P "__firstlineno__" 310 (.int 23 309)),(eR P "__init__" 319 114),(eR P "__static_attributes__" 322 115),(E P "__doc__" 323 .none)] 2),#[]⟩
def b117:Pa:=YI "Barred" 117 116 101 299 307
noncomputable def b118:Pa:=⟨(.type "super"),Om,(.fields #[(.ref 117),(.ref 117),(.ref 117)]),#[]⟩
def b119:Pa:=X_ 117
def b122:Pa:=⟨(.type "dict"),Om,(.dict #[(E P "__module__" 333 lq),(E P "__qualname__" 335 (.str "BadNumber" 334)),(E P "__firstlineno__" 337 (.int 29 336)),(eR P "__init__" 346 134),(eR P "__static_attributes__" 347 135)] 5),#[]⟩
def b124:Pa:=nT [31,4,133]
def b125:Pa:=cC "BadNumber" "BadNumber" 328 29 0 0 0 0 123 Ov 181 124 .none .none .none .none 331 29 332
def b126:Pa:=⟨(.type "frame"),Om,.plain,#[(on (.ref 125)),(on (.ref 3)),(on (.ref 122)),Om,(on lq),Om,(on (.ref 0))]⟩
def b127:Pa:=tS 338 ["this number is out of its bounds"]
def b130:Pa:=tS 342 ["self","why"]
def b132:Pa:=fB "__init__" "BadNumber.__init__" (aA (dk 7) 0)
def b133:Pa:=cC "__init__" "BadNumber.__init__" 339 31 2 0 0 3 128 Oq 181 129 .none (.ref 130) (.ref 131) (.ref 132) 344 31 345
def b134:Pa:=fO (FN "__init__" "BadNumber.__init__" (aA (dk 7) 0) (.ref 127) .none .none lq Om (.ref 133) .none)
def b136:Pa:=⟨(.type "dict"),Om,(.dict #[(E P "__module__" 333 lq),(E P "__firstlineno__" 337 (.int 29 336)),(eR P "__init__" 346 134),(eR P "__static_attributes__" 347 135),(E P "__doc__" 348 .none)] 2),#[]⟩
def b137:Pa:=YI "BadNumber" 137 136 120 326 334
noncomputable def b138:Pa:=⟨(.type "super"),Om,(.fields #[(.ref 137),(.ref 137),(.ref 137)]),#[]⟩
def b139:Pa:=X_ 137
def MV:Pa:=tO [(.int 0 359),(.int 40 353)]
def MU:Pa:=⟨(.type "dict"),Om,(.dict #[(eR P "pair" 361 140)] 1),#[]⟩
def b144:Pa:=fB "free" "free" (dk 13)
def MT:Pa:=cF "free" 362 38 2 1 142 181 365
def GA:Pa:=fO (FN "free" "free" (dk 13) .none (.ref 141) .none (.str "edgetally.bounds" 351) Om (.ref 145) .none)
def b149:Pa:=fB "check_sums" "check_sums" (dk 14)
def MS:Pa:=cF "check_sums" 368 40 2 0 147 181 371
def FZ:Pa:=fM "edgetally.bounds" 351 "check_sums" 14 150
def b154:Pa:=tS 377 ["pair","low","high"]
def b156:Pa:=fB "check_pair" "check_pair" (dk 15)
def MR:Pa:=cG "check_pair" 374 51 1 0 152 181 380
def FY:Pa:=fM "edgetally.bounds" 351 "check_pair" 15 157
def b161:Pa:=fB "settled_bounds" "settled_bounds" (dk 16)
def MQ:Pa:=cF "settled_bounds" 383 55 3 0 159 181 386
def FX:Pa:=fM "edgetally.bounds" 351 "settled_bounds" 16 162
def b166:Pa:=tS 394 ["number","product","factor"]
def b168:Pa:=fB "factorial" "factorial" (dk 18)
def MP:Pa:=cG "factorial" 391 65 1 0 164 181 397
def FW:Pa:=fM "edgetally.counts" 389 "factorial" 18 169
def b173:Pa:=tS 403 ["parts","part","told"]
def b175:Pa:=fB "ways" "ways" (dk 19)
def MO:Pa:=cG "ways" 400 70 1 0 171 181 406
def FV:Pa:=fM "edgetally.counts" 389 "ways" 19 176
def b180:Pa:=fB "fillings" "fillings" (dk 20)
def MN:Pa:=cF "fillings" 409 78 3 0 178 181 412
def FU:Pa:=fM "edgetally.counts" 389 "fillings" 20 181
def b185:Pa:=fB "need_of" "need_of" (dk 22)
def MM:Pa:=cF "need_of" 417 88 2 0 183 181 420
def FT:Pa:=fM "edgetally.fits" 415 "need_of" 22 186
def b190:Pa:=fB "room_inside" "room_inside" (dk 23)
def ML:Pa:=cF "room_inside" 423 90 4 0 188 181 426
def FS:Pa:=fM "edgetally.fits" 415 "room_inside" 23 191
def b195:Pa:=fB "room_beside" "room_beside" (dk 24)
def MK:Pa:=cF "room_beside" 429 93 3 0 193 181 432
def FR:Pa:=fM "edgetally.fits" 415 "room_beside" 24 196
def b200:Pa:=fB "room_of" "room_of" (dk 25)
def MJ:Pa:=cF "room_of" 435 95 4 0 198 181 438
def FQ:Pa:=fM "edgetally.fits" 415 "room_of" 25 201
def b205:Pa:=fB "narrowest" "narrowest" (dk 26)
def MI:Pa:=cF "narrowest" 441 97 3 0 203 181 444
def FP:Pa:=fM "edgetally.fits" 415 "narrowest" 26 206
def b210:Pa:=fB "choices" "choices" (dk 27)
def MH:Pa:=cF "choices" 447 99 1 0 208 181 450
def FO:Pa:=fM "edgetally.fits" 415 "choices" 27 211
def b215:Pa:=tS 456 ["rowsums","columnsums","bounds","over","into"]
def b217:Pa:=fB "check_fit" "check_fit" (dk 28)
def MG:Pa:=cG "check_fit" 453 104 3 0 213 181 461
def FM:Pa:=fM "edgetally.fits" 415 "check_fit" 28 218
def b222:Pa:=tS 471 ["rowsums","wide","many"]
def b224:Pa:=fB "check_wide" "check_wide" (dk 31)
def MF:Pa:=cG "check_wide" 468 111 1 0 220 181 474
def FK:Pa:=fM "edgetally.net" 464 "check_wide" 31 225
def b229:Pa:=tS 480 ["rowsums","columnsums","bounds","settled"]
def b231:Pa:=fB "settled_for_net" "settled_for_net" (dk 32)
def ME:Pa:=cG "settled_for_net" 477 117 3 0 227 181 484
def FJ:Pa:=fM "edgetally.net" 464 "settled_for_net" 32 232
def b236:Pa:=fB "column_fillings" "column_fillings" (dk 33)
def MD:Pa:=cF "column_fillings" 487 122 4 0 234 181 490
def FI:Pa:=fM "edgetally.net" 464 "column_fillings" 33 237
def b241:Pa:=fB "rests_behind" "rests_behind" (dk 34)
def MC:Pa:=cF "rests_behind" 493 124 2 0 239 181 496
def FH:Pa:=fM "edgetally.net" 464 "rests_behind" 34 242
def b246:Pa:=fB "nodes_by_level" "nodes_by_level" (dk 35)
def MB:Pa:=cF "nodes_by_level" 499 126 3 0 244 181 502
def FG:Pa:=fM "edgetally.net" 464 "nodes_by_level" 35 247
def b251:Pa:=tS 508 ["rests","filled","behind","tables","dealings","counts","tables_behind","dealings_behind"]
def b253:Pa:=fB "node_counts" "node_counts" (dk 36)
def MA:Pa:=cG "node_counts" 505 134 3 0 249 181 516
def FF:Pa:=fM "edgetally.net" 464 "node_counts" 36 254
def b258:Pa:=fB "counted_nodes" "counted_nodes" (dk 37)
def Mz:Pa:=cF "counted_nodes" 519 142 3 0 256 181 522
def FE:Pa:=fM "edgetally.net" 464 "counted_nodes" 37 259
def b263:Pa:=⟨(.type "dict"),Om,(.dict #[(E P "__module__" 532 rx),(E P "__qualname__" 534 (.str "Net" 533)),(E P "__firstlineno__" 536 (.int 152 535)),(eR P "__init__" 548 275),(eR P "__eq__" 556 282),(eR P "__len__" 563 289),(eR P "rowsums" 570 296),(eR P "columnsums" 577 303),(eR P "bounds" 583 308),(eR P "counts_at" 592 315),(eR P "tables" 599 322),(eR P "dealings" 606 329),(eR P "steps" 612 334),(eR P "paper" 619 341),(eR P "__static_attributes__" 624 342)] 15),#[]⟩
def b265:Pa:=nT [154,4,274,162,4,281,165,4,288,168,4,295,171,4,302,174,4,307,177,4,314,180,4,321,183,4,328,186,4,333,191,4,340]
def b266:Pa:=cC "Net" "Net" 527 152 0 0 0 0 264 Ov 181 265 .none .none .none .none 530 152 531
def b267:Pa:=⟨(.type "frame"),Om,.plain,#[(on (.ref 266)),(on (.ref 3)),(on (.ref 263)),Om,(on rx),Om,(on (.ref 0))]⟩
def Mx:Pa:=⟨(.type "dict"),Om,(.dict #[(E P "bounds" 537 .none)] 1),#[]⟩
def b271:Pa:=tS 541 ["self","rowsums","columnsums","bounds","settled"]
def b273:Pa:=fB "__init__" "Net.__init__" (aA (dk 38) 0)
def Mw:Pa:=cC "__init__" "Net.__init__" 538 154 3 0 1 3 269 Oq 181 270 .none (.ref 271) (.ref 272) (.ref 273) 546 154 547
def FC:Pa:=fO (FN "__init__" "Net.__init__" (aA (dk 38) 0) .none (.ref 268) .none rx Om (.ref 274) .none)
def b278:Pa:=tS 552 ["self","other"]
def b280:Pa:=fB "__eq__" "Net.__eq__" (aA (dk 38) 1)
def b281:Pa:=cC "__eq__" "Net.__eq__" 549 162 2 0 0 3 276 Oq 181 277 .none (.ref 278) (.ref 279) (.ref 280) 554 162 555
def b282:Pa:=fO (FN "__eq__" "Net.__eq__" (aA (dk 38) 1) .none .none .none rx Om (.ref 281) .none)
def b285:Pa:=tS 560 ["self"]
def b287:Pa:=fB "__len__" "Net.__len__" (aA (dk 38) 2)
def b288:Pa:=cC "__len__" "Net.__len__" 557 165 1 0 0 3 283 Oq 181 284 .none (.ref 285) (.ref 286) (.ref 287) 561 165 562
def b289:Pa:=fO (FN "__len__" "Net.__len__" (aA (dk 38) 2) .none .none .none rx Om (.ref 288) .none)
def b292:Pa:=tS 567 ["self"]
def b294:Pa:=fB "rowsums" "Net.rowsums" (aA (dk 38) 3)
def b295:Pa:=cC "rowsums" "Net.rowsums" 564 168 1 0 0 3 290 Oq 181 291 .none (.ref 292) (.ref 293) (.ref 294) 568 168 569
def b296:Pa:=fO (FN "rowsums" "Net.rowsums" (aA (dk 38) 3) .none .none .none rx Om (.ref 295) .none)
def b299:Pa:=tS 574 ["self"]
def b301:Pa:=fB "columnsums" "Net.columnsums" (aA (dk 38) 4)
def b302:Pa:=cC "columnsums" "Net.columnsums" 571 171 1 0 0 3 297 Oq 181 298 .none (.ref 299) (.ref 300) (.ref 301) 575 171 576
def b303:Pa:=fO (FN "columnsums" "Net.columnsums" (aA (dk 38) 4) .none .none .none rx Om (.ref 302) .none)
def b306:Pa:=fB "bounds" "Net.bounds" (aA (dk 38) 5)
def b307:Pa:=cC "bounds" "Net.bounds" 578 174 1 0 0 3 304 Oq 181 305 .none .none .none (.ref 306) 581 174 582
def b308:Pa:=fO (FN "bounds" "Net.bounds" (aA (dk 38) 5) .none .none .none rx Om (.ref 307) .none)
def b311:Pa:=tS 587 ["self","level","rests"]
def b313:Pa:=fB "counts_at" "Net.counts_at" (aA (dk 38) 6)
def Mv:Pa:=cC "counts_at" "Net.counts_at" 584 177 3 0 0 3 309 Oq 181 310 .none (.ref 311) (.ref 312) (.ref 313) 590 177 591
def FA:Pa:=fO (FN "counts_at" "Net.counts_at" (aA (dk 38) 6) .none .none .none rx Om (.ref 314) .none)
def b318:Pa:=tS 596 ["self"]
def b320:Pa:=fB "tables" "Net.tables" (aA (dk 38) 7)
def Mu:Pa:=cC "tables" "Net.tables" 593 180 1 0 0 3 316 Oq 181 317 .none (.ref 318) (.ref 319) (.ref 320) 597 180 598
def EZ:Pa:=fO (FN "tables" "Net.tables" (aA (dk 38) 7) .none .none .none rx Om (.ref 321) .none)
def b325:Pa:=tS 603 ["self"]
def b327:Pa:=fB "dealings" "Net.dealings" (aA (dk 38) 8)
def b328:Pa:=cC "dealings" "Net.dealings" 600 183 1 0 0 3 323 Oq 181 324 .none (.ref 325) (.ref 326) (.ref 327) 604 183 605
def b329:Pa:=fO (FN "dealings" "Net.dealings" (aA (dk 38) 8) .none .none .none rx Om (.ref 328) .none)
def b332:Pa:=fB "steps" "Net.steps" (aA (dk 38) 9)
def Mt:Pa:=cC "steps" "Net.steps" 607 186 3 0 0 3 330 Oq 181 331 .none .none .none (.ref 332) 610 186 611
def EY:Pa:=fO (FN "steps" "Net.steps" (aA (dk 38) 9) .none .none .none rx Om (.ref 333) .none)
def b337:Pa:=tS 616 ["self"]
def b339:Pa:=fB "paper" "Net.paper" (aA (dk 38) 10)
def b340:Pa:=cC "paper" "Net.paper" 613 191 1 0 0 3 335 Oq 181 336 .none (.ref 337) (.ref 338) (.ref 339) 617 191 618
def b341:Pa:=fO (FN "paper" "Net.paper" (aA (dk 38) 10) .none .none .none rx Om (.ref 340) .none)
def b342:Pa:=tS 620 ["column_list","counted","pairs","row_list"]
def Ms:Pa:=⟨(.type "dict"),Om,(.dict #[(E P "__module__" 532 rx),(E P "__firstlineno__" 536 (.int 152 535)),(eR P "__init__" 548 275),(eR P "__eq__" 556 282),(eR P "__len__" 563 289),(eR P "rowsums" 570 296),(eR P "columnsums" 577 303),(eR P "bounds" 583 308),(eR P "counts_at" 592 315),(eR P "tables" 599 322),(eR P "dealings" 606 329),(eR P "steps" 612 334),(eR P "paper" 619 341),(eR P "__static_attributes__" 624 342),(eR P "__dict__" 626 345),(eR P "__weakref__" 628 346),(E P "__doc__" 629 .none),(E P "__hash__" 630 .none)] 5),#[]⟩
noncomputable def Mr:Pa:=⟨(.type "type"),Om,(.cls ⟨"Net",[(.type "object")],[(.ref 344),(.type "object")],343,"Net",Oq,[],[],Ov,Om,Ov⟩),#[Om,Om,(on (.str "Net" 525)),(on (.str "Net" 533)),(on (.builtin "object.__new__")),(on (.bool Oq))]⟩
noncomputable def b345:Pa:=⟨(.type "getset_descriptor"),Om,(.fields #[(.str "__dict__" 625),(.ref 344),(.builtin "function.__dict__"),(.builtin "function.__dict__#set")]),#[]⟩
noncomputable def b346:Pa:=⟨(.type "getset_descriptor"),Om,(.fields #[(.str "__weakref__" 627),(.ref 344),(.builtin "ExceptionGroup.__weakref__"),.none]),#[]⟩
noncomputable def b347:Pa:=⟨(.type "super"),Om,(.fields #[(.ref 344),(.ref 344),(.ref 344)]),#[]⟩
def b348:Pa:=X_ 344
def b351:Pa:=fB "_law_bag" "_law_bag" (dk 40)
def Mq:Pa:=cF "_law_bag" 635 194 1 0 349 181 638
def EX:Pa:=fL "_law_bag" "_law_bag" 40 352
def b356:Pa:=tS 644 ["_law_bag_here","_law_lot","_law_cells","_law_at","_law_cell"]
def b358:Pa:=fB "_law_pull" "_law_pull" (dk 41)
def Mp:Pa:=cG "_law_pull" 641 196 2 0 354 181 649
def EW:Pa:=fL "_law_pull" "_law_pull" 41 359
def b363:Pa:=fB "_law_same" "_law_same" (dk 42)
def Mo:Pa:=cF "_law_same" 652 206 2 0 361 181 655
def EV:Pa:=fL "_law_same" "_law_same" 42 364
def b368:Pa:=fB "_law_grid" "_law_grid" (dk 43)
def Mn:Pa:=cF "_law_grid" 658 218 4 0 366 181 661
def EU:Pa:=fL "_law_grid" "_law_grid" 43 369
def b373:Pa:=tS 667 ["_law_bag_here","_law_way","_law_block","_law_columns"]
def b375:Pa:=fB "_law_small" "_law_small" (dk 44)
def Ml:Pa:=cG "_law_small" 664 225 1 0 371 181 671
def ET:Pa:=fL "_law_small" "_law_small" 44 376
def b380:Pa:=fB "_law_turned" "_law_turned" (dk 45)
def Mj:Pa:=cF "_law_turned" 674 236 1 0 378 181 677
def ES:Pa:=fL "_law_turned" "_law_turned" 45 381
def b385:Pa:=fB "_law_rowsums" "_law_rowsums" (dk 46)
def Mi:Pa:=cF "_law_rowsums" 680 238 1 0 383 181 683
def ER:Pa:=fL "_law_rowsums" "_law_rowsums" 46 386
def b390:Pa:=fB "_law_columnsums" "_law_columnsums" (dk 47)
def Mh:Pa:=cF "_law_columnsums" 686 240 1 0 388 181 689
def EQ:Pa:=fL "_law_columnsums" "_law_columnsums" 47 391
def b395:Pa:=fB "_law_free" "_law_free" (dk 48)
def Mg:Pa:=cF "_law_free" 692 242 2 0 393 181 695
def EO:Pa:=fL "_law_free" "_law_free" 48 396
def b400:Pa:=tS 701 ["_law_bag_here","_law_grid_here","_law_told","_law_at","_law_row","_law_to","_law_count","_law_way"]
def b402:Pa:=fB "_law_bounds" "_law_bounds" (dk 49)
def Mf:Pa:=cG "_law_bounds" 698 244 2 0 398 181 709
def EN:Pa:=fL "_law_bounds" "_law_bounds" 49 403
def b407:Pa:=fB "_law_copied" "_law_copied" (dk 50)
def Me:Pa:=cF "_law_copied" 712 256 1 0 405 181 715
def EM:Pa:=fL "_law_copied" "_law_copied" 50 408
def b412:Pa:=fB "_law_fit" "_law_fit" (dk 51)
def Md:Pa:=cF "_law_fit" 718 258 3 0 410 181 721
def EL:Pa:=fL "_law_fit" "_law_fit" 51 413
def b417:Pa:=fB "_law_less" "_law_less" (dk 52)
def Mc:Pa:=cF "_law_less" 724 267 2 0 415 181 727
def EK:Pa:=fL "_law_less" "_law_less" 52 418
def b422:Pa:=fB "_law_listing" "_law_listing" (dk 53)
def Mb:Pa:=cF "_law_listing" 730 269 3 0 420 181 733
def EJ:Pa:=fL "_law_listing" "_law_listing" 53 423
def b427:Pa:=tS 739 ["_law_lot","_law_found","_law_k"]
def b429:Pa:=fB "_law_factorial" "_law_factorial" (dk 54)
def Ma:Pa:=cG "_law_factorial" 736 278 1 0 425 181 742
def EI:Pa:=fL "_law_factorial" "_law_factorial" 54 430
def b434:Pa:=tS 748 ["_law_parts","_law_under","_law_part"]
def b436:Pa:=fB "_law_ways" "_law_ways" (dk 55)
def L9:Pa:=cG "_law_ways" 745 283 1 0 432 181 751
def EH:Pa:=fL "_law_ways" "_law_ways" 55 437
def b441:Pa:=tS 757 ["_law_columns","_law_found","_law_column"]
def b443:Pa:=fB "_law_weight" "_law_weight" (dk 56)
def L8:Pa:=cG "_law_weight" 754 288 1 0 439 181 760
def EG:Pa:=fL "_law_weight" "_law_weight" 56 444
def b448:Pa:=tS 766 ["_law_grid_here","_law_limits"]
def b450:Pa:=fB "_law_net" "_law_net" (dk 57)
def L7:Pa:=cG "_law_net" 763 293 2 0 446 181 768
def EF:Pa:=fL "_law_net" "_law_net" 57 451
def b455:Pa:=fB "_law_nodes" "_law_nodes" (dk 58)
def L6:Pa:=cF "_law_nodes" 771 295 3 0 453 181 774
def EE:Pa:=fL "_law_nodes" "_law_nodes" 58 456
def b460:Pa:=fB "law" "law" (dk 59)
def L5:Pa:=cF "law" 777 304 1 0 458 181 780
def ED:Pa:=fL "law" "law" 59 461
def Z1:Pa:=⟨(.type "dict"),Om,(.dict (((mL P).take 9).set 0 (E P "__name__" 165 Y3)).toArray 9),#[]⟩
def Oa:Pa:=nO []
def Z0:Pa:=⟨(.type "dict"),Om,(.dict (((mL P).take 9).set 0 (E P "__name__" 165 Y3)).toArray 9),#[]⟩
def N1:Pa:=nT [1,0,20,5,0,27,10,0,47,14,0,67,18,0,87]
def ZV:Pa:=⟨(.type "dict"),Om,(.dict (((mL P).take 14).set 0 (E P "__name__" 165 lq)).toArray 14),#[]⟩
noncomputable def N0:Pa:=⟨(.type "type"),Om,(.cls ⟨"EdgeError",[(.type "ValueError")],[(.ref 38),(.type "ValueError"),(.type "Exception"),(.type "BaseException"),(.type "object")],37,"EdgeError",Oq,[],[(.ref 59),(.ref 79),(.ref 98)],Ov,Om,Ov⟩),#[(on (.ref 22)),Om,(on (.str "EdgeError" 196)),(on (.str "EdgeError" 204)),(on (.builtin "ValueError.__new__")),(on (.bool Oq))]⟩
def NZ:Pa:=nT [1,0,20,5,0,27,10,0,47,14,0,67,18,0,87,23,0,106,29,0,125,38,0,145,40,0,150,51,0,157,55,0,162,65,0,169,70,0,176,78,0,181,88,0,186,90,0,191,93,0,196,95,0,201,97,0,206,99,0,211,104,0,218]
def ZU:Pa:=⟨(.type "dict"),Om,(.dict (((mL P).take 35).set 0 (E P "__name__" 165 rx)).toArray 35),#[]⟩
def NY:Pa:=nT [1,0,20,5,0,27,10,0,47,14,0,67,18,0,87,23,0,106,29,0,125,38,0,145,40,0,150,51,0,157,55,0,162,65,0,169,70,0,176,78,0,181,88,0,186,90,0,191,93,0,196,95,0,201,97,0,206,99,0,211,104,0,218,111,0,225,117,0,232,122,0,237,124,0,242,126,0,247,134,0,254,142,0,259,152,0,266,194,0,352,196,0,359,206,0,364,218,0,369,225,0,376,236,0,381,238,0,386,240,0,391]
noncomputable def ZT:Pa:=⟨(.type "dict"),Om,(.dict ((mL P).take 51).toArray 51),#[]⟩
def kL:List Pa:=[b0 P,b1 P,b2,b3 P,b4,b5,b6,b7,b8,b9,b10,b7,b12,b13,b14,b7,b8,b17,b7,b19,b20,b21,b22,Yy,b24 P,b7,b26,b27,b28,b7,b8,b31,b7,b33,b34,b35,b36,b37 P,b38,b39,b40,b41,YT,Yy,b44 P,b7,b46,b47,b48,b49,b7,b8,b52,b7,b54,b55,b56,b7,b58 P,b59,b60,b61,YT,Yy,b64 P,b7,b66,b67,b68,b69,b7,b8,b72,b7,b74,b75,b76,b7,b78 P,b79,b80,b81,YT,Yy,b84 P,b7,b86,b87,b88,b7,b8,b91,b7,b93,b94,b95,b96,b97 P,b98,b99,b100,YT,Yy,b103 P,b7,b105,b106,b107,b7,b8,b110,b7,b112,b113,b114,b115,b116 P,b117,b118,b119,YT,Yy,b122 P,b7,b124,b125,b126,b127,b7,b8,b130,b7,b132,b133,b134,b7,b136 P,b137,b138,b139,MV,MU P,b7,b8,b144,MT,GA,b7,b8,b149,MS,FZ,b7,b8,b154,b7,b156,MR,FY,b7,b8,b161,MQ,FX,b7,b8,b166,b7,b168,MP,FW,b7,b8,b173,b7,b175,MO,FV,b7,b8,b180,MN,FU,b7,b8,b185,MM,FT,b7,b8,b190,ML,FS,b7,b8,b195,MK,FR,b7,b8,b200,MJ,FQ,b7,b8,b205,MI,FP,b7,b8,b210,MH,FO,b7,b8,b215,b7,b217,MG,FM,b7,b8,b222,b7,b224,MF,FK,b7,b8,b229,b7,b231,ME,FJ,b7,b8,b236,MD,FI,b7,b8,b241,MC,FH,b7,b8,b246,MB,FG,b7,b8,b251,b7,b253,MA,FF,b7,b8,b258,Mz,FE,b7,Yy,b263 P,b7,b265,b266,b267,Mx P,b7,b8,b271,b7,b273,Mw,FC,b7,b8,b278,b7,b280,b281,b282,b7,b8,b285,b7,b287,b288,b289,b7,b8,b292,b7,b294,b295,b296,b7,b8,b299,b7,b301,b302,b303,b7,b8,b306,b307,b308,b7,b8,b311,b7,b313,Mv,FA,b7,b8,b318,b7,b320,Mu,EZ,b7,b8,b325,b7,b327,b328,b329,b7,b8,b332,Mt,EY,b7,b8,b337,b7,b339,b340,b341,b342,Ms P,Mr,b345,b346,b347,b348,b7,b8,b351,Mq,EX,b7,b8,b356,b7,b358,Mp,EW,b7,b8,b363,Mo,EV,b7,b8,b368,Mn,EU,b7,b8,b373,b7,b375,Ml,ET,b7,b8,b380,Mj,ES,b7,b8,b385,Mi,ER,b7,b8,b390,Mh,EQ,b7,b8,b395,Mg,EO,b7,b8,b400,b7,b402,Mf,EN,b7,b8,b407,Me,EM,b7,b8,b412,Md,EL,b7,b8,b417,Mc,EK,b7,b8,b422,Mb,EJ,b7,b8,b427,b7,b429,Ma,EI,b7,b8,b434,b7,b436,L9,EH,b7,b8,b441,b7,b443,L8,EG,b7,b8,b448,b7,b450,L7,EF,b7,b8,b455,L6,EE,b7,b8,b460,L5,ED]
def Yu:P5:=⟨⟨((kL P).take 11).set 3 (Z1 P)⟩,{}⟩
def Zd:P5:=⟨⟨(((kL P).take 15).set 3 (Z0 P)).set 12 (Oa)⟩,{}⟩
def k1H:P5:=⟨⟨((((kL P).take 101).set 3 (ZV P)).set 12 (N1)).set 38 (N0)⟩,{}⟩
def k2H:P5:=⟨⟨(((kL P).take 220).set 3 (ZU P)).set 12 (NZ)⟩,{}⟩
def k3H:P5:=⟨⟨(((kL P).take 393).set 3 (ZT P)).set 12 (NY)⟩,{}⟩
noncomputable def YQ:P5:=⟨⟨kL P⟩,{}⟩
end
def KH:Wl->OX:=λP=>
[(2,b2),(3,b3 P),(34,b34),(35,b35),(37,b37 P),(38,b38),(140,MV),(141,MU P),(145,MT),(146,GA),(150,MS),(151,FZ),(157,MR),(158,FY),(162,MQ),(163,FX),(169,MP),(170,FW),(176,MO),(177,FV),(181,MN),(182,FU),(186,MM),(187,FT),(191,ML),(192,FS),(196,MK),(197,FR),(201,MJ),(202,FQ),(206,MI),(207,FP),(211,MH),(212,FO),(218,MG),(219,FM),(225,MF),(226,FK),(232,ME),(233,FJ),(237,MD),(238,FI),(242,MC),(243,FH),(247,MB),(248,FG),(254,MA),(255,FF),(259,Mz),(260,FE),(268,Mx P),(274,Mw),(275,FC),(314,Mv),(315,FA),(321,Mu),(322,EZ),(333,Mt),(334,EY),(343,Ms P),(344,Mr),(352,Mq),(353,EX),(359,Mp),(360,EW),(364,Mo),(365,EV),(369,Mn),(370,EU),(376,Ml),(377,ET),(381,Mj),(382,ES),(386,Mi),(387,ER),(391,Mh),(392,EQ),(396,Mg),(397,EO),(403,Mf),(404,EN),(408,Me),(409,EM),(413,Md),(414,EL),(418,Mc),(419,EK),(423,Mb),(424,EJ),(430,Ma),(431,EI),(437,L9),(438,EH),(444,L8),(445,EG),(451,L7),(452,EF),(456,L6),(457,EE),(461,L5),(462,ED)]
noncomputable def aH:List Ou:=[2,3,34,35,37,38,140,141,145,146,150,151,157,158,162,163,169,170,176,177,181,182,186,187,191,192,196,197,201,202,206,207,211,212,218,219,225,226,232,233,237,238,242,243,247,248,254,255,259,260,268,274,275,314,315,321,322,333,334,343,344,352,353,359,360,364,365,369,370,376,377,381,382,386,387,391,392,396,397,403,404,408,409,413,414,418,419,423,424,430,431,437,438,444,445,451,452,456,457,461,462]
theorem eH:∀P,aH=(KH P).map (·.1):=λ_=>by kernel_rfl
noncomputable def qH:Pf:={PySem.Challenge.pw_edgetally_k18_counts_and_steps with main:={PySem.Challenge.pw_edgetally_k18_counts_and_steps.main with body:=[dk 0,dk 2,dk 3,dk 4,dk 5,dk 6,dk 7,dk 9,dk 10,dk 11,dk 12,dk 14,dk 15,dk 16,dk 18,dk 19,dk 20,dk 22,dk 23,dk 24,dk 25,dk 26,dk 27,dk 28,dk 30,dk 31,dk 32,dk 33,dk 34,dk 35,dk 36,dk 37,dk 38,dk 40,dk 41,dk 42,dk 43,dk 44,dk 45,dk 46,dk 47,dk 48,dk 49,dk 50,dk 51,dk 52,dk 53,dk 54,dk 55,dk 56,dk 57,dk 58,dk 59]}}
noncomputable abbrev lvH:List (Pn×PySem.W.WData):=[("FREE",PySem.W.WData.tuple [We 0,We 40])]
noncomputable abbrev loH:List Pn:=["BadSums","BadBounds","BadNumber","FREE","free","Net"]
abbrev hkH:=PySem.W.kHook KH aH eH
def xtH(s:OD):Bool:=PySem.W.xlAt qH lvH s&&PySem.W.recOk (PySem.W.RowW.records (QZ (Rk Pl))) s
noncomputable abbrev pH:Pf:=Wm (QZ (Rk Pl))
noncomputable def PC:List Qg:=PySem.W.behindTheImports pH
noncomputable def Yv:VN:={scope:=pH.main.scope,locals:=mainNs,globals:=mainNs,cells:=[],code:=(.ref 13),frame:=(on 14)}
def cH:Code:= .body PC Yv
noncomputable abbrev R_:List Frame:=[PySem.W.topFrame ⟨0,0,0,0⟩]
theorem opH(w:Po):(PySem.W.fencedOpening QR pH w 6696).map (λs=>(s.heap,s.gens,s.drawn,s.toks))=on (Yu w.params,#[],{},181):=by kernel_rfl
theorem szH(w:Po):((Yu w.params).isNs QY&&(#[]:Array GenState).size==0,(Yu w.params).objs.size,(Yu w.params).nsMap QY "__annotations__")=(Oq,11,(on (.ref 6))):=by kernel_rfl
theorem r1H(w:Po)(os:UW):PySem.W.topGo QR pH w 11 (on (.ref 6)) 12 ⟨Yu w.params,#[],{},181,os⟩ (X1 pH)=on (⟨Zd w.params,#[],{},187,os⟩,⟨denote QR (.body PC Yv),cH,⟨0,0,0,0⟩,R_⟩):=by kernel_rfl
theorem r2H(w:Po)(os:UW):Tt QR pH w 11 (on (.ref 6)) 1 1 ⟨Zd w.params,#[],{},187,os⟩ (PySem.W.blockOf PC Yv cH ⟨0,0,0,0⟩ R_)=on (.next,⟨Zd w.params,#[],{},187,os⟩,cH,⟨0,0,0,0⟩):=by kernel_rfl
theorem c1H(w:Po)(os:UW):Tt QR pH w 11 (on (.ref 6)) 1 995 ⟨Zd w.params,#[],{},187,os⟩ (Uf (PC.take 6) Yv cH ⟨0,0,0,0⟩ R_)=on (.next,⟨k1H w.params,#[],{},299,os⟩,cH,⟨18,0,22,24⟩):=by kernel_rfl
theorem c2H(w:Po)(os:UW):Tt QR pH w 11 (on (.ref 6)) 1 972 ⟨k1H w.params,#[],{},299,os⟩ (Uf ((PC.drop 6).take 25) Yv cH ⟨18,0,22,24⟩ R_)=on (.next,⟨k2H w.params,#[],{},468,os⟩,cH,⟨110,0,110,4⟩):=by kernel_rfl
theorem c3H(w:Po)(os:UW):Tt QR pH w 11 (on (.ref 6)) 1 980 ⟨k2H w.params,#[],{},468,os⟩ (Uf (((PC.drop 6).drop 25).take 17) Yv cH ⟨110,0,110,4⟩ R_)=on (.next,⟨k3H w.params,#[],{},692,os⟩,cH,⟨240,0,241,76⟩):=by kernel_rfl
theorem c4H(w:Po)(os:UW):Tt QR pH w 11 (on (.ref 6)) 1 342 ⟨k3H w.params,#[],{},692,os⟩ (Uf ((((PC.drop 6).drop 25).drop 17).take 12) Yv cH ⟨240,0,241,76⟩ R_)=on (.next,⟨YQ w.params,#[],{},783,os⟩,cH,⟨304,0,333,170⟩):=by kernel_rfl
theorem e0H:((((PC.drop 6).drop 25).drop 17).drop 12)=[]:=by kernel_rfl
theorem r9H(w:Po)(os:UW):Yk QR pH w 11 (on (.ref 6)) 2 ⟨YQ w.params,#[],{},783,os⟩ ⟨PySem.W.doneF .next,cH,⟨304,0,333,170⟩,R_⟩=on ⟨YQ w.params,#[],{},783,os⟩:=by kernel_rfl
theorem rnH(w:Po)(os:UW):Yk QR pH w 11 (on (.ref 6)) (12+(1+(995+(972+(980+(342+2)))))) ⟨Yu w.params,#[],{},181,os⟩ (X1 pH)=on ⟨YQ w.params,#[],{},783,os⟩:=PySem.W.go_top (r1H w os) (PySem.W.piece_block (r2H w os) (j9 6 (c1H w os) (j9 25 (c2H w os) (j9 17 (c3H w os) (j9 12 (c4H w os) (DJ e0H (r9H w os)))))))
theorem hlH:PySem.W.LeftO pH qH loH xtH (PySem.W.Hook.obs hkH) (PySem.W.Hook.val hkH) 6696:=PySem.W.LeftO.of_pieces (H₀:=Yu) (H₁:=YQ) opH szH rnH (by decide +kernel) λw=>by kernel_rfl
theorem wsH:PySem.W.OpenLaw.wellSaid Pl=Oq:=by decide +kernel
theorem okH:(PySem.W.chainsOk qH&&PySem.W.opensWell (Wm (QZ (Rk Pl)))&&(PySem.W.frees (QZ (Rk Pl))&&(PySem.W.RowW.within (QZ (Rk Pl))).isEmpty))=Oq:=by decide +kernel
abbrev adH:Ad:={Aa:=38,Ab:=35,Ac:=fD b35,Ae:=344,Af:=146,Ag:=fD GA,Ah:=151,Ai:=fD FZ,Aj:=158,Ak:=fD FY,Al:=163,Am:=fD FX,An:=170,Ao:=fD FW,Aq:=177,Ar:=fD FV,As:=182,At:=fD FU,Au:=187,Av:=fD FT,Aw:=192,Ax:=fD FS,Ay:=197,Az:=fD FR,A0:=202,A1:=fD FQ,A2:=207,A3:=fD FP,A4:=212,A5:=fD FO,A6:=219,A7:=fD FM,A8:=226,A9:=fD FK,Ba:=233,Bb:=fD FJ,Bc:=238,Bd:=fD FI,Be:=243,Bf:=fD FH,Bh:=248,Bi:=fD FG,Bj:=255,Bk:=fD FF,Bl:=260,Bm:=fD FE,Bn:=353,Bo:=fD EX,Bp:=360,Bq:=fD EW,Br:=365,Bs:=fD EV,Bt:=370,Bu:=fD EU,Bv:=377,Bw:=fD ET,Bx:=382,By:=fD ES,Bz:=387,B0:=fD ER,B4:=392,B5:=fD EQ,B7:=397,B8:=fD EO,Ca:=404,Cb:=fD EN,Cc:=409,Cd:=fD EM,Cf:=414,Cg:=fD EL,Ch:=419,Ci:=fD EK,Cj:=424,Ck:=fD EJ,Cl:=431,Cm:=fD EI,Cn:=438,Co:=fD EH,Cp:=445,Cq:=fD EG,Cr:=452,Cs:=fD EF,Ct:=457,Cu:=fD EE,Cv:=275,Cw:=fD FC,Cy:=334,Cz:=fD EY,C0:=315,C2:=fD FA,C3:=322,C4:=fD EZ,C5:=462,C6:=fD ED}
section
variable{P:Wl}{h:P5}{mg:Pn->Option Oy}
theorem fH{x q:Pn}{s:Qg}{f:Ou}{a b d e cd ct:Oy}{g:Option Ou}(l:(KH P).lookup f=on (fO (FN x q s a b d e g cd ct)):=by kernel_rfl)(c:Ts (KH P) cd q=Oq:=by kernel_rfl)(k:Us (KH P) (.ref f)=Oq:=by kernel_rfl):d4 (KH P) x q s f (FN x q s a b d e g cd ct):=JR l c k
theorem mO(X:(KH P).In h)(G:h.Ns QY mg){n:Pn}{v:Oy}(e:PySem.W.nsIn (KH P) QY n=on (on v):=by kernel_rfl):mg n=on v:=mg_of X G e
theorem mN(X:(KH P).In h)(G:h.Ns QY mg){n:Pn}(e:PySem.W.nsIn (KH P) QY n=on Om:=by kernel_rfl):mg n=Om:=PySem.W.mg_none_of X G e
theorem nH(X:(KH P).In h)(G:h.Ns QY mg):wh (KH P) mg adH where
 C7:=mN X G
 C8:=mN X G
 C9:=mN X G
 Da:=mN X G
 Db:=mN X G
 Dc:=mN X G
 Dd:=mN X G
 Df:=mN X G
 Dg:=mN X G
 Dh:=mN X G
 Di:=mN X G
 Dj:=mN X G
 Dl:=mN X G
 Dm:=mN X G
 Do:=mN X G
 Dp:=mN X G
 Dq:=mN X G
 Dr:=mN X G
 Dt:=pQ (u:=(.int 40 353)) (mO X G) l3
 Du:=pQ (u:=(.int 6 357)) (mO X G) l3
 Dv:=pQ (u:=(.int 4 355)) (mO X G) l3
 Dw:=pQ (u:=(.int 500 466)) (mO X G) l3
 Dx:=fH
 Dy:=mO X G
 Dz:=LY (us:=[(.ref 140)]) 2 rfl (λs us a b=>by obtain⟨c,d,rfl⟩:=ZR b;exact PySem.W.kp_binds a λS=>by kernel_rfl) (JW (IK (p:=140) (q1:=(.type "tuple")) (q2:=Om) (q3:=#[(.int 0 359),(.int 40 353)]) (q4:=0) (q5:=#[]) (by kernel_rfl) rfl (by decide) (by repeat (first|exact trivial|refine⟨rfl,?_⟩))) LW)
 D0:=fH
 D3:=mO X G
 D4:= .all (M_ λ_ _=>rfl)
 D5:=fH
 D6:=mO X G
 D7:= .all (si λ_=>rfl)
 D8:=fH
 D9:=mO X G
 Ea:= .all (r_ λ_ _ _=>rfl)
 Eb:=fH
 Ec:=mO X G
 Ed:= .all (si λ_=>rfl)
 Ee:=fH
 Ef:=mO X G
 Eg:= .all (si λ_=>rfl)
 Eh:=fH
 Ei:=mO X G
 Ej:= .all (r_ λ_ _ _=>rfl)
 Ek:=fH
 El:=mO X G
 Em:= .all (M_ λ_ _=>rfl)
 En:=fH
 Eo:=mO X G
 Ep:= .all (Zh λ_ _ _ _=>rfl)
 Er:=fH
 Es:=mO X G
 Et:= .all (r_ λ_ _ _=>rfl)
 Eu:=fH
 Ev:=mO X G
 Ew:= .all (Zh λ_ _ _ _=>rfl)
 Ex:=fH
 Ey:=mO X G
 Ez:= .all (r_ λ_ _ _=>rfl)
 E2:=fH
 E3:=mO X G
 E4:= .all (si λ_=>rfl)
 E5:=fH
 E6:=mO X G
 E7:= .all (r_ λ_ _ _=>rfl)
 E8:=fH
 E9:=mO X G
 Fa:= .all (si λ_=>rfl)
 Fb:=fH
 Fc:=mO X G
 Fd:= .all (r_ λ_ _ _=>rfl)
 Fe:=fH
 Ff:=mO X G
 Fg:= .all (Zh λ_ _ _ _=>rfl)
 Fh:=fH
 Fi:=mO X G
 Fj:= .all (M_ λ_ _=>rfl)
 Fk:=fH
 Fl:=mO X G
 Fm:= .all (r_ λ_ _ _=>rfl)
 Fn:=fH
 Fo:=mO X G
 Fp:= .all (r_ λ_ _ _=>rfl)
 Fq:=fH
 Fs:=mO X G
 Ft:= .all (r_ λ_ _ _=>rfl)
 Fu:=fH
 Fv:=mO X G
 Fw:= .all (si λ_=>rfl)
 Fy:=fH
 Fz:=mO X G
 F4:= .all (M_ λ_ _=>rfl)
 F5:=fH
 F6:=mO X G
 F7:= .all (M_ λ_ _=>rfl)
 F8:=fH
 F9:=mO X G
 Ga:= .all (Zh λ_ _ _ _=>rfl)
 Gb:=fH
 Gc:=mO X G
 Gd:= .all (si λ_=>rfl)
 Ge:=fH
 Gf:=mO X G
 Gg:= .all (si λ_=>rfl)
 Gh:=fH
 Gi:=mO X G
 Gj:= .all (si λ_=>rfl)
 Gk:=fH
 Gm:=mO X G
 Gn:= .all (si λ_=>rfl)
 Go:=fH
 Gp:=mO X G
 Gq:= .all (M_ λ_ _=>rfl)
 Gr:=fH
 Gs:=mO X G
 Gu:= .all (M_ λ_ _=>rfl)
 Gv:=fH
 Gx:=mO X G
 Gy:= .all (si λ_=>rfl)
 Gz:=fH
 G0:=mO X G
 G1:= .all (r_ λ_ _ _=>rfl)
 G2:=fH
 G3:=mO X G
 G4:= .all (M_ λ_ _=>rfl)
 G5:=fH
 G6:=mO X G
 G7:= .all (r_ λ_ _ _=>rfl)
 G8:=fH
 G9:=mO X G
 Ha:= .all (si λ_=>rfl)
 Hb:=fH
 Hc:=mO X G
 Hd:= .all (si λ_=>rfl)
 He:=fH
 Hf:=mO X G
 Hg:= .all (si λ_=>rfl)
 Hh:=fH
 Hi:=mO X G
 Hj:= .all (M_ λ_ _=>rfl)
 Hk:=fH
 Hl:=mO X G
 Hm:= .all (r_ λ_ _ _=>rfl)
 Hn:=fH
 Ho:=⟨by kernel_rfl,by kernel_rfl,by kernel_rfl,by kernel_rfl⟩
 Hq:=NX (sv:=[.kw 0]) (.kw .nil) rfl (by decide) λs us g a e f=>by obtain⟨c,d,i,rfl⟩:=ZQ e;obtain⟨j,rfl⟩:=ZS f;exact .of_eq rfl
 Hr:=fH
 Ht:=⟨by kernel_rfl,by kernel_rfl,by kernel_rfl⟩
 Hu:= .all (r_ λ_ _ _=>rfl)
 Hv:=fH
 Hw:=⟨by kernel_rfl,by kernel_rfl,by kernel_rfl⟩
 Hx:= .all (r_ λ_ _ _=>rfl)
 Hy:=fH
 Hz:=⟨by kernel_rfl,by kernel_rfl,by kernel_rfl⟩
 Ia:= .all (si λ_=>rfl)
 Ib:=⟨by kernel_rfl,by kernel_rfl,by kernel_rfl,by kernel_rfl⟩
 Id:=mO X G
 Ie:=show SX (KH P) _ _=_ by kernel_rfl
 Ig:=show SX (KH P) _ _=_ by kernel_rfl
 Ih:=show SX (KH P) _ _=_ by kernel_rfl
 Ii:=show SX (KH P) _ _=_ by kernel_rfl
 Ij:=fH
 Ik:= .all (r_ λ_ _ _=>rfl)
 Il:=mO X G
 Im:=⟨by kernel_rfl,by kernel_rfl,by kernel_rfl,by kernel_rfl⟩
theorem wlkH:PySem.W.WalkO qH loH (PySem.W.XL qH lvH) (PySem.W.Hook.says hkH) (QZ (Rk Pl)) (Option.get (PySem.W.defOf qH "law") rfl).1 [] (λf vs=>XF f vs):=
 L2.walk_of (n:=63) (k:=9) (x:="_law_script") (CX:=λw=>hE _ w) (sp:=λw=>GZ (KH w.params)) rfl (by decide) rfl ⟨rfl,by decide,by decide,rfl⟩ (λw h Y=>PySem.W.kIn_of Y) (λw mg i h c G b=>by
  have e:=b.symm.trans (mg_of c G (v:= .ref 462) (by kernel_rfl));cases e;exact⟨FN "law" "law" (dk 59) .none .none .none (.str "law_edgetally_k18_counts_and_steps" 633) Om (.ref 461) .none,λs v=> .of_eq rfl,λbase _ _=>Li _ _ _ (a:=adH) (fH (by kernel_rfl) (by kernel_rfl) (by kernel_rfl)) (nH c G) λβ ok=>CW (K:=KH w.params) (a:=adH)  β ok⟩) (λ_ _ a ns d _ g=>⟨a,ns,rfl,g,d,λ_=>rfl⟩) λ_ _ _ _ _ h=>by obtain⟨x,C,j,_,fl⟩:=h;obtain⟨_,_,z⟩:=fl.wish;all_goals exact z
end
end Law
open PySem PySem.W PyProof.Rows
set_option maxHeartbeats 0 in
theorem PySem.Challenge.cw_edgetally_k18_counts_and_steps_holds : PySem.Challenge.rw_edgetally_k18_counts_and_steps.Holds := by
 w_on
 refine holds_law Law.wsH λsaid=>?_;refine holds_open (q:=Law.qH) (loose:=Law.loH) (Xt:=Law.xtH) (XP:=XL Law.qH Law.lvH) (Yf:=Hook.obs Law.hkH) (Ya:=Hook.val Law.hkH) (YP:=Hook.says Law.hkH) (N:=6696) Law.hlH (Hook.of Law.hkH) (Hook.keeps Law.hkH) (λs e=>xl_of s (Xh.mp e).1) XL.keeps (by rfl) (by rfl) (by rfl) (λs e=>recFacts_of (Xh.mp e).2) (by rfl) said Law.okH ⟨rfl,rfl,rfl,rfl,rfl,by decide +kernel⟩ ?hw ?hc
 case hw=>w_witness2
 exact Law.wlkH
