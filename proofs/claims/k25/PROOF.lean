import PyProof.Rows.All
import Wide.All
import OpenK.AllK
import Wide.FinOn
import Lean
import PyProof.EqAt
import PyProof.EqKinds
import PyProof.TupleCall
import PyProof.NsDelKeeps
import PyProof.ListRange
import PyProof.ExcArgsOwn
import PySem.Challenge.RW_edgetally_k25_numbers_refused
set_option Elab.async false
set_option linter.all false
set_option genSizeOf false
set_option compiler.extract_closed false
set_option bootstrap.genMatcherCode false
set_option maxHeartbeats 8000000
set_option maxRecDepth 100000
noncomputable section
open And renaming intro->U6
open Array renaming length_toList->ND,getElem?_eq_some_iff->NL,getD->Px,getElem?_eq_none->PY,getElem?_toList->Qb,forIn_toList->QE,getElem_toList->Q5,getElem?_eq_getElem->RG,getElem?_extract->UX,getElem?_push->VE,append_assoc->VP,size_extract->VQ,toList_push->We
open Bool renaming true->MH,false->ML,false_ne_true->MT,false_eq_true->Na,and_eq_true->No,not_true->Pd,true_and->Py,false_and->QU,and_self->Q6,eq_iff_iff->Sx,and_eq_true_iff->SM,not_false->SN,not_eq_true'->Tv,or_true->Tw,or_eq_true->T8,eq_false_iff->WE
open Classical renaming byContradiction->OD
open Except renaming ok->Oq
open False renaming elim->OS
open ForInStep renaming yield->R1
open Function renaming comp->RC
open Int renaming toNat_natCast->Oh,zero_add->Qu,natAbs_natCast->QL,emod_nonneg->Rj,emod_lt_of_pos->RJ,natCast_add->SG,fdiv_eq_ediv_of_nonneg->UD,le_refl->VW
open List renaming length_map->MD,getElem?_eq_getElem->MI,mem_cons_of_mem->MJ,getElem?_map->MM,getD_eq_getElem?_getD->MN,mem_cons_self->MP,getElem?_eq_some_iff->MR,map_map->MV,range->MX,map_cons->MZ,mem_of_getElem?->M2,mem_cons->M4,length_cons->M5,mem_map->M8,length_append->Nb,replicate->Nd,size_toArray->Nf,mem_range->Ni,sum_cons->Nn,mem_singleton->Nq,length_range->Nr,map_congr_left->Nu,nodup_cons->Nz,getElem_mem->NB,mem_append_right->NF,map_append->NH,append_nil->NJ,mem_append->NP,drop_eq_getElem_cons->NR,length_set->NT,map->NZ,sum->N0,append_assoc->N4,length_singleton->N7,mem_or_eq_of_mem_set->Oc,mem_filter->Of,getElem?_range->On,not_mem_nil->Op,filterMap_cons->Ov,replicate_succ->Ox,length_replicate->Oz,flatMap_cons->OA,getElem?_set->OB,all_eq_true->OR,drop_eq_nil_of_le->OT,getElem?_append_right->OU,ext_getElem->OX,mem_replicate->OY,zip_cons_cons->OZ,mem_append_left->O4,getElem?_replicate->O7,map_nil->Pb,mem_flatMap->Pf,map_replicate->Pg,pairwise_iff_getElem->Pl,nil_append->Pp,flatten_cons->Pt,map_set->Pw,getElem_map->PN,length_take->PP,map_flatMap->PQ,take_length->PR,contains_cons->PZ,getElem_range->P0,take_of_length_le->P3,find?_cons->P8,forIn_cons->P9,range_succ->Qa,take_append_drop->Qd,forIn_nil->Ql,cons_append->Qq,exists_cons_of_length_eq_add_one->Qr,lookup_cons->Qs,getElem?_append_left->Qv,pairwise_cons->QJ,flatMap_eq_nil_iff->QN,length_eq_zero_iff->QO,take_add_one->QV,getElem?_eq_none->Q2,drop_length->Q3,filter_cons->Q4,map_drop->Q8,lookup->Rb,length_zip->Rh,filter_sublist->Rk,flatMap_append->Rl,zipWith->Ru,mem_filterMap->RE,getElem?_eq_none_iff->RP,pairwise_map->RW,reverse_cons->RX,any_cons->R3,length_drop->Sf,pairwise_singleton->Sg,length_eq_one_iff->Ss,getElem?_toArray->SI,getElem?_append->SQ,length->SR,getElem_of_mem->S4,length_zipWith->S5,all_cons->S8,map_take->S9,map_inj_right->Tg,any_eq_false->TD,nodup_append->TF,zip_nil_left->TH,flatMap_map->TU,nodup_range->TV,map_id->T1,length_nil->Ub,of_mem_zip->Uc,sum_append->Ud,getElem?_zip_eq_some->UF,getElem?_take_of_lt->US,getElem?_cons_succ->UZ,getElem?_set_self->Vb,range_succ_eq_map->Vc,getElem?_zipWith->Vg,getElem?_of_mem->VH,getElem?_set_ne->VI,getElem_reverse->VJ,length_reverse->VX,foldl->Wg,getElem?_drop->Wh,ext_getElem?->WH
open List.Pairwise renaming nil->Sy
open List.Perm renaming of_eq->Ti
open List.Sublist renaming refl->UE
open List.cons renaming injEq->Qp,inj->SH
open Max renaming max->VO
open Min renaming min->Rx
open Nat renaming le_refl->MW,le_trans->Ng,lt_of_lt_of_le->Nm,ne_of_lt->NM,lt_irrefl->NU,zero_le->N2,zero_add->Oo,not_lt_zero->OM,lt_of_le_of_lt->ON,ne_of_gt->Pe,le_add_right->PU,mul_comm->P6,lt_trichotomy->Qj,mul_left_comm->QW,mul_assoc->Rc,le_succ->Re,pow_le_pow_right->Rf,min_le_left->Rm,lt_trans->Ry,sub_self->Rz,lt_succ_of_lt->R4,add_sub_cancel_left->Sk,lt_succ_self->Sm,le_of_lt->Sz,lt_or_ge->SA,add_le_add_right->SU,le_of_lt_succ->TL,log2_lt->Uf,div_le_self->Uj,strongRecOn->Uk,add_le_add->UG,mod_lt->UH,le_mul_of_pos_right->Vd,div_div_eq_div_mul->Vh,le_of_eq->Vi,min_self->Vj,zero_mul->Vk,add_mul->VY,div_lt_of_lt_mul->VZ,mul_le_mul_right->V0,pow_lt_pow_right->V1,add_le_add_left->Wl,le_min->WI,lt_or_eq_of_le->WJ
open Option renaming some->My,none->ME,map_some->OI,bind_some->PD,map_eq_some_iff->Sh,isSome_iff_exists->Uy,bind_eq_some_iff->UI,getD_none->Wm,getD_some->Wn
open Option.some renaming inj->Np,injEq->UT
open Or renaming inl->OC,inr->O6
open Prod renaming ext->QD,ext_iff->Rv
open Pure renaming pure->OW
open PyProof.Rows renaming callWith_type1->Ot,seqObj->Qo,envOfC->QR,AllBare->RU,listUpdate_at->SD,callWith_builtin1->SS,subscriptTail_builtinR->SY,IntsAre->Va,joinParts_cons->Vx,subscriptTail->Wb
open PySem renaming wpAny_bind->MC,wpAny_pure->MF,Addr->MK,Value->MO,Shared->MQ,starEach->MY,wpAny->M0,sizeLine->M1,model->Nj,FuncData->Nk,Program->Ny,Str->NA,World->NC,treeTable->NG,wpAny_mono->NI,foldedSetIterable->NO,wpAny_call_entry->NQ,Heap->NS,SetTable->NV,eval->NW,Around->NX,Stmt->N3,wpAny_truthy_bool->N8,Obj->Oa,compareOp->Od,wpAny_field->Oe,wpAny_newObj_type->Oj,mem_of_lookup->Ol,wpAny_holding->Om,wpAny_setField_rec->Ou,Comprehension->OE,cellsFrom->OG,keywordEach->OJ,wpAny_setState_of->OK,backTo->OO,wpAny_seqItems->OP,wpAny_standAt->OQ,mainGlobals->O0,sizeLine_eq->O1,wpAny_loadPart_at->Pc,OsState->Pi,wpAny_isInstance->Pk,wpAny_setField->Ps,wpAny_specialOf->PF,backToKw->PL,binaryOp->PM,wpAny_comprehension_free->PX,codeAny->P4,IsPair->P5,wpAny_typeNameOfWhole_itemiter->P7,bootBuiltins->Qh,standAt->Qi,wpAny_passesOwn->Qk,rawInt->Qn,NameKind->Qw,evalEach->Qy,sliceBounds->Qz,wpAny_of_eq->QA,wpAny_rule->QB,codeAny_mono->QH,holding->QI,wpAny_typeNameOf_itemiter->QK,attributeBase->QS,wpAny_attempt->QT,wpAny_Call_Name_kw->QY,DictEntry->QZ,swapsWith->Q1,firstArgMember->Q9,pyNext->Ra,Pos->Ri,Within->Rp,wpAny_askSetting->Rt,behindInMarks->Rw,codeAny_call_builtin->RA,assign->RM,letOwnedTupleGo->RN,wpAny_execs_nil->RO,wpAny_isSubtype_exc->RT,getMethod->R5,IsItemIter->R6,Fin->R9,cLine->Sa,isInstance->Sb,isSubtype_type->Sc,wpAny_call->Se,IsZip->Sn,wpAny_pyIter_list->Sv,wpAny_pyIter_slot->Sw,call->SC,wpAny_onRaise->SE,setFlight->SK,wpAny_forIn_list->SL,assignEach->SV,intKind->SX,wpAny_isOneOf_itemiter->SZ,wpAny_pyIter_rangeiter->S3,builtinLookup_eq_fast->Tc,isSubtype_tuple_tuple->Td,pyIter->Tl,wpAny_fieldsOf->Tp,wpAny_letGo->Tq,wpAny_newTuple->Ts,wpAny_updateSeq_pair->Tt,BindsTo->Tu,Keyword->TC,wpAny_setEntries_of->TR,Model->TW,Env->TZ,Paired->T3,sysModules->T4,wpAny_pyIter_tuple->T6,wpAny_tupleItemsOf->T7,callWith->Um,callerA->Uo,ofAClassStatement->Ur,searchCouldBeSeen->Ut,wpAny_assign_Name->Uu,wpAny_dictEntries->Uv,plainObj_wpAny_Assign_Attribute->UB,Params->UJ,checkBuiltinCall->UM,noFill_tuple_add->UN,pickOrder->UO,Draws->UP,IsRangeIter->UR,again->UV,atKey->UW,codeAny_builtin->U2,codeAny_of_tree->U3,typeLookup_type->U4,wpAny_dictEpoch->U5,PyData->Vl,builtinsNs->Vo,call_meets->Vq,compPost->Vs,entryFor_alias->Vt,intItems->Vv,isSubtype_stop->Vw,newFunctionEnv->Vy,setField->VB,wpAny_loadPart->VD,call->V6,evalPart_none->V8,seq_tuple_add->V9,strLen_append->Wa,wpAny_getItem_list_slice->Wc,wpAny_handled->Wd,PassesOwn->Wo,list_append->Wu,bindC->Ww,bindL->Wx,eqIsQuiet->Wz,field->WA,lastMarks->WB,noteFrame->WC,slicePick->WD,newExc->WN,seqIndex_neg->WO,typeOf->WP,wpAny_Call_method_late->WQ,wpAny_pyNext_range_end->WR
open PySem.Around renaming under->Te,under_plainId->U7
open PySem.BindsTo renaming of_defaults->U8
open PySem.Builtin.BaseException renaming bexcPut->VR
open PySem.Builtin.Dict renaming showsAll->TY
open PySem.Builtin.Dict_items renaming ownsTuple->QC,ownedTupleFields->RH,ownedTupleIsFree->RI,pairFromOwner->R0
open PySem.Builtin.Int renaming intBits->Uw
open PySem.Builtin.List renaming listTooLong->Rg,listExtendWith->S7,listSameRef->Tx
open PySem.Builtin.Range renaming rangeFitsLong->Ob,rangeSize->Tz
open PySem.Builtin.SmallTypes renaming nextOf->OL,ownedTupleIsFree->OV,ownedTupleHandOut->RB,refuseKeywords->RV
open PySem.Builtin.Tuple renaming tupleHashOf->Q7
open PySem.Calls renaming callWith_builtin->Sj,Name_function_global->Uh,evalArgs_plain->Ve,Constant_str->VS,spliced_cons->VT,spliced_nil->Wf
open PySem.Challenge renaming rw_edgetally_k25_numbers_refused->NE
open PySem.Code renaming quiet_builtin->Tf,isFrame->U9
open PySem.Draws renaming list->VU
open PySem.F renaming slot_dict_itemiterator_next->OH,slot_list_append->Pq,type_list_append->Pr,plainAttrs_list->Pz,excBase_ValueError->Qg,slot_tuple_iterator_next->Qt,args_tuple_add_2->RK,entry_tuple_add->RY,slot_tuple_add->R8,slot_zip_next->SO,args_dict_itemiterator_next_1->T9,entry_dict_itemiterator_next->Ui,slot_dict_itemiterator_iter->Ux,plainAttrs_dict->Uz,args_tuple_iterator_next_1->UC,entry_tuple_iterator_next->UQ,slot_dict_get->UU,slot_dict_items_iter->VV,args_list_append_2->WF
open PySem.Heap renaming get?_push_of_some->MG,get?_push_size->M7,lt_size->Nl,SameBut->Nx,size_push->Og,get?_update_self->Oy,get?_update_other->Pa,get?_update_ne->PH,ExtBut->T0,get?_none_of_le->VF,get?_push_ne->WG
open PySem.Heap.IsSliceOf renaming new->Ua
open PySem.Heap.Ns1 renaming of_empty->Vf
open PySem.Heap.SameBut renaming update->Os
open PySem.IntMulOk renaming of_bits->VG
open PySem.IsTupleKey renaming typeIs->UY
open PySem.Manifest renaming find?->Wj
open PySem.NameKind renaming free->Pn,cell->Ue
open PySem.Obj renaming data_mapFields->Oi,mapSeq->OF,isFreed_of_fields->Qf,mapFields->R7,putSet->SB,cls_mapFields->TM
open PySem.P renaming add_list->V3
open PySem.PyData renaming shownAll->Pj,depth->Po,depthAll->Qx,eqv->Q0,eqvAll->RQ,tuple->Si,showableAll->S6,hasDictAll->Th,int->VL,canLayAll0->V2,showable->WK
open PySem.SeqAt renaming shaped->Rq
open PySem.SetTable renaming fits->Ug,fresh->Wv
open PySem.Str renaming ofString->N9,empty->Qe
open PySem.Value renaming ref->M6,none->NK,int->Qm,type->QG,bool->Ta,isInt_shape->Tj,isInt->Vn,str->WM
open PySem.W renaming Frag->M9,piecesOf->NY,segRun->N5,findIn->O8,Looks->O9,fnOf->QP,codeIn->Ro,emptyDict->Rr,hideAll_none->RZ,keepIn->Sd,kia_one->Su,hideAll->SW,hideAll_get->Tk,instObj->TK,methodCall_KW->TX,looks_findIn->Uq,kitx_tuple->Vm,callWith_K->Vp,cellsFrom_some->Vr,exmOne->Vu,of_hideAll->VA,topFrame->VC,boot_heap->VM,plainOver->VN,boot_o_3->V4,handedIn->V5,bind_fn->Wp,findCls->Wq,makesIn->Wr,takesIn->Ws,topStub->Wt,topRun->WL
open PySem.W.Looks renaming ld->SJ,here->Ul
open PySem.W.OpenLaw renaming row->Ph
open PySem.W.OpenRow renaming toRowW->O3
open PySem.W.RowW renaming prog->UK
open PySem.W.WData renaming int->UA
open PySem.Within renaming cons->UL
open PySem.pickOrder renaming go->Us
open True renaming intro->RF
open PySem PySem.Spec PyProof PyProof.Rows
abbrev a0Y:=List (Int×Int)
abbrev a0X:=List Bool
abbrev a0V:=Int->Int->Prop
abbrev a0T:=Nat->Nat
abbrev a0S:=Option Bool
abbrev a0R:=List N3
abbrev a0P:=List OE
abbrev a0N:=List Oa
abbrev a0M:=Nat->Int
abbrev a0L:=List (NA×Qw)
abbrev a0K:=Int->Int->Int
abbrev a0J:=Array MO
abbrev a0I:=Option Nat
abbrev a0C:=List TZ
abbrev a0B:=Option MK
abbrev a0A:=Array Nat
abbrev a0y:=Array (Int×MO)
abbrev a0x:=Array a0I
abbrev a0u:=Option Int
abbrev a0s:=Option (MK×MK)
abbrev a0n:=List MK
abbrev a0m:=List (NA×MK)
abbrev a0l:=List (Nat×Nat)
abbrev a0j:=NA->Option MO
abbrev a0h:=List NA
abbrev a0g:=List a0l
abbrev a0f:=List MO
abbrev a0e:=MO->MQ->Prop
abbrev a0c:=List Int
abbrev a0t:=List (a0c×MK)
abbrev a0b:=List (MK×Oa)
abbrev a0a:=List Nat
abbrev a0p:=List a0a
abbrev MS:=@if_neg
abbrev MU:=@if_pos
abbrev M3:=@decide_eq_true
abbrev Nh:=@absurd
abbrev Nv:=@decide_eq_true_eq
abbrev Nw:=@decide_eq_false
abbrev NN:=@if_true
abbrev N1:=@if_false
abbrev N6:=@congrArg
abbrev O5:=@of_decide_eq_true
abbrev PV:=@beq_iff_eq
abbrev Qc:=@bne_self_eq_false
abbrev QX:=@or_false
abbrev TN:=@beq_self_eq_true
abbrev U1:=@beq_eq_false_iff_ne
abbrev Vz:=@of_decide_eq_false
abbrev V7:=@decide_false
open PySem.W (Frag instObj methodObj hideAll hideAll_get of_hideAll hideAll_none lookIn plainGet hasDictIn findIn plainGet_of isFn takerIn looks_clsIn emptyDict looks_findIn keepIn specialIn mroIn kitOne kia_one kitx_list callWith_K methodCall_KW cellsFrom_some mg_of clsIn exmOne)
abbrev LI:=List a0c
abbrev LP:=List a0Y
--CHANGE:your row's module here,as the last of these a_
namespace L2
inductive V where
 |non|bl (b:Bool)|int (i:Int)|str (x:NA)|ref (a:MK)|ty (n:String)
 deriving DecidableEq
abbrev a0i:=List V
abbrev a0D:=List (NA×V)
def aN:V->MO->Prop
 | .non,u=>u=NK
 | .bl b,u=>u=Ta b
 | .int i,u=>∃t,u=Qm i t
 | .str x,u=>∃t,u=WM x t
 | .ref a,u=>u=M6 a
 | .ty n,u=>u=QG n
abbrev ar:a0i->a0f->Prop:=T3 aN
theorem ar.length{xs:a0i}{us:a0f}(r:ar xs us):xs.length=us.length:=Paired.length r
theorem ar.get:∀{D:a0i} {E:a0f} {i:Nat} {x:V},ar D E->D[i]?=My x->∃u,E[i]?=My u/\aN x u
 |_,_,_,_,.nil,e=>by simp at e
 |_,_,0,_,.cons r _,e=>by simp at e;subst e;exact⟨_,rfl,r⟩
 |_,_,i+1,x,.cons _ t,e=>by
  obtain⟨u,a,b⟩:=ar.get (i:=i) (x:=x) t (by simpa using e);exact⟨u,by simpa using a,b⟩
theorem ar.set(r:aN x u):∀{xs:a0i} {D:a0f} (i:Nat),ar xs D->ar (xs.set i x) (D.set i u)
 |_,_,_,.nil=> .nil
 |_,_,0,.cons _ t=> .cons r t
 |_,_,i+1,.cons q t=> .cons q (ar.set r i t)
theorem ar.append:∀{xs D:a0i} {E a:a0f},ar xs E->ar D a->ar (xs++D) (E++a)
 |_,_,_,_,.nil,s=>s
 |_,_,_,_,.cons r t,s=> .cons r (ar.append t s)
theorem ar.take:∀{xs:a0i} {D:a0f} (n:Nat),ar xs D->ar (xs.take n) (D.take n)
 |_,_,0,_=> .nil
 |_,_,_+1,.nil=> .nil
 |_,_,n+1,.cons r t=> .cons r (ar.take n t)
theorem ar.drop:∀{D:a0i} {E:a0f} (n:Nat),ar D E->ar (D.drop n) (E.drop n)
 |_,_,0,r=>r
 |_,_,_+1,.nil=> .nil
 |_,_,n+1,.cons _ t=>ar.drop n t
def iK:Option V->Option MO->Prop
 |some v,My u=>aN v u
 |none,ME=>True
 |_,_=>False
inductive HO where
 |lst (xs:a0i)
 |tup (xs:a0i)
 |ins (C dx:MK) (fs:a0D)
 |own (x:MK)
 |xd (fs:a0D)
 |met (f x:MK)
 |rng (lo hi:Int)
 |frz (o:Oa) (u:HO)
 |tbl (ps:a0J)
 |ext (φ:NS->Prop)
abbrev Hp:=MK->Option HO
abbrev a0U:=Bool->Hp->Prop
noncomputable def upd(H:Hp)(a:MK)(o:HO):Hp:=λb=>if b=a then My o else H b
theorem ao:upd H a o a=My o:=by unfold upd;rw[MU rfl]
theorem bt(h:b≠a):upd H a o b=H b:=by unfold upd;rw[MS h]
theorem LB{H:Hp}{a b:MK}{o u:HO}(h:H a=My o)(D:H b=My u)(d:o≠u):a≠b:=by
 intro e;subst e;rw[h]at D;exact d (Np D)
theorem b5{H:Hp}{a b:MK}{o:HO}(h:H a=My o)(h':H b=ME):a≠b:=by
 intro e;subst e;rw[h]at h';cases h'
section
variable(P:Ny)(w:NC)
def bX(P:Ny)(w:NC)(H:Hp)(h:NS)(a:MK):HO->Prop
 | .lst xs=>xs.length<=M1/\∃(D:a0f) (n:Nat),ar xs D/\h.get? a=My {cls:= .type "list",data:= .seq D.toArray n}
 | .tup xs=>xs.length<=M1/\∃D:a0f,ar xs D/\IsTup h a D.toArray
 | .ins C dx fs=>H dx=My (.own a)/\fs.length<=1000/\dx≠a/\h.get? a=My (TK C dx)/\
   ∃b,h.Ns1 dx b/\(∀f,iK (fs.lookup f) (b f))/\Rp b (fs.map (·.1))
 | .own _=>∃o,h.get? a=My o
 | .xd fs=>∃b,h.Ns1 a b/\∀f,iK (fs.lookup f) (b f)
 | .rng lo hi=>∃t u v,h.get? a=My {cls:= .type "range",data:= .fields #[.int lo t,.int hi u,.int 1 v]}
 | .frz o u=>h.get? a=My o/\bX P w H h a u
 | .tbl ps=>h.get? a=My {cls:= .none,data:= .fields ps}
 | .met f x=>h.get? a=My (methodObj (.ref f) (.ref x))
 | .ext φ=>φ h/\(∃o,h.get? a=My o)/\∀c d:NS,φ c->(∀o,c.get? a=My o->d.get? a=My o)->φ d
def j_(H:Hp)(h:NS):Prop:=∀a o,H a=My o->bX P w H h a o
end
section
variable{P:Ny}{w:NC}{H s:Hp}{h h':NS}{a:MK}{o:HO}
theorem bX.lt(x:bX P w H h a o):a<h.objs.size:=by
 cases o with
 |lst xs=>obtain⟨_,_,_,_,e⟩:=x;exact Nl e
 |tup xs=>obtain⟨_,_,_,p⟩:=x;exact p.lt
 |ins C dx fs=>obtain⟨_,_,_,e,_⟩:=x;exact Nl e
 |own y=>obtain⟨_,e⟩:=x;exact Nl e
 |xd fs=>obtain⟨_,⟨_,_,_,e,_⟩,_⟩:=x;exact Nl e
 |rng lo hi=>obtain⟨_,_,_,e⟩:=x;exact Nl e
 |frz ob u=>obtain⟨e,_⟩:=x;exact Nl e
 |tbl ps=>exact Nl (show h.get? a=My _ from x)
 |met f y=>exact Nl (show h.get? a=My _ from x)
 |ext φ=>obtain⟨_,⟨_,e⟩,_⟩:=x;exact Nl e
theorem bX.stay(x:bX P w H h a o)(k:∀b u,(b=a\/H b=My (.own a))->h.get? b=My u->h'.get? b=My u)
  (l:∀b,H b=My (.own a)->s b=My (.own a)) (A:∀b E,H b=My (.tup E)->s b=My (.tup E)):bX P w s h' a o:=by
 induction o with
 |lst E=>obtain⟨z,D,n,r,e⟩:=x;exact⟨z,D,n,r,k _ _ (.inl rfl) e⟩
 |tup E=>obtain⟨z,D,r,g,e,c⟩:=x;exact⟨z,D,r,g,k _ _ (.inl rfl) e,c⟩
 |ins C dx fs=>
  obtain⟨d,z,S,e,i,⟨j,G,K,m,c⟩,r⟩:=x;exact⟨l _ d,z,S,k _ _ (.inl rfl) e,i,⟨j,G,K,k _ _ (.inr d) m,c⟩,r⟩
 |own y=>obtain⟨g,e⟩:=x;exact⟨g,k _ _ (.inl rfl) e⟩
 |xd fs=>obtain⟨i,⟨j,G,K,e,c⟩,r⟩:=x;exact⟨i,⟨j,G,K,k _ _ (.inl rfl) e,c⟩,r⟩
 |rng lo hi=>obtain⟨t,u,v,e⟩:=x;exact⟨t,u,v,k _ _ (.inl rfl) e⟩
 |frz g u ih=>obtain⟨e,q⟩:=x;exact⟨k _ _ (.inl rfl) e,ih q⟩
 |tbl ps=>
  have e:h.get? a=My {cls:= .none,data:= .fields ps}:=x;show h'.get? a=My {cls:= .none,data:= .fields ps};exact k a _ (.inl rfl) e
 |met f y=>
  have e:h.get? a=My (methodObj (.ref f) (.ref y)):=x;show h'.get? a=My (methodObj (.ref f) (.ref y));exact k a _ (.inl rfl) e
 |ext φ=>obtain⟨p,⟨o,e⟩,M⟩:=x;exact⟨M _ _ p λo q=>k _ _ (.inl rfl) q,⟨o,k _ _ (.inl rfl) e⟩,M⟩
theorem j_.lt(x:j_ P w H h)(e:H a=My o):a<h.objs.size:=(x a o e).lt
theorem j_.fresh(x:j_ P w H h)(e:h.objs.size<=a):H a=ME:=by
 cases q:H a with
 |none=>rfl
 |some u=>exact Nh (Nm (x.lt q) e) (NU _)
theorem j_.kept(x:j_ P w H h)(k:∀b u,h.get? b=My u->h'.get? b=My u):j_ P w H h':=λa o e=>
 (x a o e).stay (λb u _ q=>k b u q) (λ_ q=>q) λ_ _ q=>q
theorem j_.laid(x:j_ P w H h)(k:∀b u,h.get? b=My u->h'.get? b=My u)(f:h.objs.size<=a)(s:bX P w (upd H a o) h' a o):j_ P w (upd H a o) h':=λb u e=>by
 have D:=x.fresh f;by_cases d:b=a
 .subst d;rw[ao]at e;cases e;exact s
 .rw[bt d]at e
  exact(x b u e).stay (λc v _ q=>k c v q) (λc q=>by rw[bt (b5 q D)];exact q) λc E q=>by rw[bt (b5 q D)];exact q
def Rd(H:Hp)(a:MK)(u:HO):Prop:=H a=My u\/∃o,H a=My (.frz o u)
theorem Rd.ok{P:Ny}{w:NC}{H:Hp}{h:NS}{a:MK}(r:Rd H a u)(x:j_ P w H h):bX P w H h a u:=by
 rcases r with r|⟨o,r⟩
 .exact x a u r
 .obtain⟨_,q⟩:=x a _ r
  exact q
def XZ:Option HO->Prop
 |some (.lst _)=>True
 |some (.ins _ _ _)=>True
 |some (.ext _)=>True
 |_=>False
variable{x e:MK}{p:HO}
theorem j_.write(s:j_ P w H h)(mu:XZ (H x))(l:e=x\/H e=My (.own x))(k:∀b u,b≠e->h.get? b=My u->h'.get? b=My u)(j:∃u,h'.get? e=My u)
  (o:bX P w (upd H x p) h' x p):j_ P w (upd H x p) h':=λb u q=>by
 have f:∀c y,H c=My (.own y)->c≠x:=λc y r z=>by subst z;rw[r]at mu;exact mu
 have g:∀c a,H c=My (.tup a)->c≠x:=λc a r z=>by subst z;rw[r]at mu;exact mu
 by_cases i:b=x
 .subst i;rw[ao]at q;cases q;exact o
 .rw[bt i]at q
  by_cases d:b=e
  .have m:H b=My (.own x):=by
    rcases l with z|z
    .exact Nh (d.trans z) i
    .rw[d];exact z
   rw[q]at m;cases m;obtain⟨v,n⟩:=j;exact⟨v,by rw[d];exact n⟩
  .refine(s b u q).stay (λc v hc r=>k c v ?_ r) (λc r=>by rw[bt (f c b r)];exact r) λc a r=>by rw[bt (g c a r)];exact r
   rcases hc with rfl|hc
   .exact d
   .rintro rfl
    rcases l with z|z
    .exact f c b hc z
    .rw[hc]at z;cases z;exact i rfl
structure Un (fs ex:a0n) (H s:Hp) (h h':NS):Prop where
 keep:∀b o,h.get? b=My o->H b=ME->b∉fs->b∉ex->h'.get? b=My o
 slot:∀b o,h.get? b=My o->H b=ME->b∈fs->b∉ex->∃sl,h'.get? b=My {o with slots:=sl}
 free:∀b o,h.get? b=My o->H b=ME->b∉ex->s b=ME
 there:∀b o,h.get? b=My o->b∉ex->∃p,h'.get? b=My p
 tups:∀b xs,H b=My (.tup xs)->s b=My (.tup xs)
 frzs:∀b o u,H b=My (.frz o u)->s b=My (.frz o u)
 tbls:∀b ps,H b=My (.tbl ps)->∃more,s b=My (.tbl (ps++more))
variable{m i ex j:a0n}{H1 t:Hp}{r s:NS}
theorem Un.any(u:Un m ex H H1 h r)(q:h.get? b=My ob)(n:H b=ME)(c:b∉ex):∃f,r.get? b=My {ob with slots:=f}:=by
 by_cases d:b∈m
 .exact u.slot b ob q n d c
 .exact⟨ob.slots,u.keep b ob q n d c⟩
theorem Un.trans(a:Un m ex H H1 h r)(b:Un m ex H1 t r s):Un m ex H t h s where
 keep:=λc d q n i f=>b.keep c d (a.keep c d q n i f) (a.free c d q n f) i f
 slot:=λc d q n i f=>by
  obtain⟨l,g⟩:=a.slot c d q n i f;obtain⟨j,k⟩:=b.slot c _ g (a.free c d q n f) i f;exact⟨j,k⟩
 free:=λc d q n f=>by
  obtain⟨p,g⟩:=a.there c d q f;exact b.free c p g (a.free c d q n f) f
 there:=λc d q f=>by
  obtain⟨p,g⟩:=a.there c d q f;exact b.there c p g f
 tups:=λc e q=>b.tups c e (a.tups c e q)
 frzs:=λc d e q=>b.frzs c d e (a.frzs c d e q)
 tbls:=λc o q=>by
  obtain⟨w,g⟩:=a.tbls c o q;obtain⟨x,k⟩:=b.tbls c _ g;exact⟨w++x,by rw[k,VP]⟩
theorem Un.kept(k:∀b u,h.get? b=My u->h'.get? b=My u):Un m ex H H h h':=
 ⟨λb c q _ _ _=>k b c q,λb c q _ _ _=>⟨c.slots,k b c q⟩,λ_ _ _ n _=>n,λb c q _=>⟨c,k b c q⟩,λ_ _ q=>q,λ_ _ _ q=>q,λ_ a q=>⟨#[],by rw[q];simp⟩⟩
theorem Un.refl:Un m ex H H h h:=Un.kept λ_ _ q=>q
theorem Un.laid(k:∀b u,h.get? b=My u->h'.get? b=My u)(c:h.objs.size<=a)(e:H a=ME):Un m ex H (upd H a o) h h' where
 keep:=λb u q _ _ _=>k b u q
 slot:=λb u q _ _ _=>⟨u.slots,k b u q⟩
 free:=λb u q n _=>by rw[bt (NM (Nm (Nl q) c))];exact n
 there:=λb u q _=>⟨u,k b u q⟩
 tups:=λb i q=>by rw[bt (b5 q e)];exact q
 frzs:=λb u i q=>by rw[bt (b5 q e)];exact q
 tbls:=λb j q=>⟨#[],by rw[bt (b5 q e),q];simp⟩
theorem Un.write(mu:XZ (H x))(i:e=x\/H e=My (.own x))(k:∀b u,b≠e->h.get? b=My u->h'.get? b=My u)(d:∃u,h'.get? e=My u):Un m ex H (upd H x o) h h':=by
 have f:∀b,H b=ME->b≠x:=λb n z=>by subst z;rw[n]at mu;exact mu
 have g:∀b,H b=ME->b≠e:=λb n z=>by
  subst z;rcases i with r|r
  .exact f b n r
  .rw[n]at r;cases r
 have a:∀b u,H b=My u->¬XZ (My u)->b≠x:=λb u q j z=>by subst z;rw[q]at mu;exact j mu
 refine⟨λb u q n _ _=>k b u (g b n) q,λb u q n _ _=>⟨u.slots,k b u (g b n) q⟩,λb u q n _=>by rw[bt (f b n)];exact n,λb u q _=>?_,
  λb p q=>by rw[bt (a b _ q λz=>z)];exact q,λb u p q=>by rw[bt (a b _ q λz=>z)];exact q,λb s q=>⟨#[],by rw[bt (a b _ q λz=>z),q];simp⟩⟩
 by_cases c:b=e
 .subst c;exact d
 .exact⟨u,k b u c q⟩
theorem Un.mono(u:Un m ex H H1 h r)(a:∀b∈m,b∈i)(f:∀b∈ex,b∈j):Un i j H H1 h r:=
 ⟨λb d q n g c=>u.keep b d q n (λz=>g (a b z)) λz=>c (f b z),λ_ _ q n _ c=>u.any q n λz=>c (f _ z),λb d q n c=>u.free b d q n λz=>c (f b z),λb d q c=>u.there b d q λz=>c (f b z),u.tups,u.frzs,u.tbls⟩
noncomputable def XB(h:NS)(H:Hp):a0n:=(MX h.objs.size).filter λa=>(H a).isSome
noncomputable def lf(h:NS)(H:Hp):NS:=SW h (XB h H)
theorem CF(h:NS)(H:Hp):(lf h H).objs.size=h.objs.size:=PySem.W.hideAll_size _ _
theorem Fk{h:NS}{H:Hp}{o:Oa}(e:h.get? b=My o)(n:H b=ME):(lf h H).get? b=My o:=
 Tk _ e λa=>by
  have q:(H b).isSome=MH:=(Of.mp a).2;rw[n]at q;simp at q
theorem HG{h:NS}{H:Hp}{o:Oa}(e:(lf h H).get? b=My o):h.get? b=My o/\H b=ME:=by
 have c:h.get? b=My o:=VA (XB h H) e;refine⟨c,?_⟩;cases q:H b with
 |none=>rfl
 |some x=>
  have a:b∈XB h H:=Of.mpr ⟨Ni.mpr (Nl c),by simp[q]⟩;have z:(lf h H).get? b=ME:=RZ (XB h H) a;rw[z]at e;cases e
structure Mod (K:M9) (mg:a0j) (base:NS):Prop where
 kin:K.In base
 glob:base.Ns O0 mg
 blt:∃mb,base.Ns Vo mb/\∀x:NA,x≠"__name__"->mb x=Qh x
 nolimit:base.NoLimit
structure Cx where
 prog:Ny
 w:NC
 K:M9
 mg:NA->Option MO
 base:NS
 A:NX
 N:a0h
 s₀:MQ
 H₀:Hp
 env:TZ
 outer:a0C
 stack:a0C
 ex:a0n
 fn:NA->Bool
 calm:Bool
 pn:a0b
 xe:MO->MQ->Prop
abbrev b0a(X:Cx)(a:Expr)(b:List Expr):=MY (a::b) X.env=(ML,NW a X.env)::MY b X.env
abbrev b0b(X:Cx)(a:Ri)(b:List Expr):=(OO a (MY b X.env)).any (·.1)=ML
abbrev b0c(a:NA):=(a==("__debug__":NA))=ML
abbrev b0d(X:Cx)(a:NA):=X.fn a=MH\/X.env.scope.names.lookup a=My .local
noncomputable def eX(l:a0C):a0n:=l.filterMap (·.frame)
end
noncomputable abbrev Cx.fs(X:Cx):a0n:=eX X.outer
def Xq(a:Scope)(x:NA):Prop:=a.names.lookup x=My .local\/a.names.lookup x=My .cell\/a.names.lookup x=My .free
def B3(a:Scope)(x:NA):Prop:=a.names.lookup x=My .local\/a.names.lookup x=My .cell
def ZO(D:TZ)(h:NS)(m:a0j)(x:NA)(u:MO):Prop:=
 (D.kindOf x=My .local/\m x=My u)\/((D.kindOf x=My .cell\/D.kindOf x=My .free)/\∃c,D.cells.lookup x=My c/\h.IsCell c (My u))
structure Cx.Ok (X:Cx):Prop where
 mod:Mod X.K X.mg X.base
 kind:X.env.scope.kind= .function
 glob:X.env.globals=O0
 blt:X.env.builtins=Vo
 above:X.s₀.heap.objs.size<=X.env.locals
 inj:∀x y c,X.env.cells.lookup x=My c->X.env.cells.lookup y=My c->x=y
 has:∀x,(X.env.kindOf x=My .cell\/X.env.kindOf x=My .free)->∃c,X.env.cells.lookup x=My c
 cab:∀x c,X.fn x=MH->X.env.cells.lookup x=My c->X.s₀.heap.objs.size<=c
 hd:X.calm=MH->X.A.handled=ME
 frames:X.A.frames=My X.stack
 stk:X.stack=X.outer\/(X.stack=X.env::X.outer/\X.env.frame=My X.env.locals)
 exf:∀b∈X.ex,b≠X.env.locals/\∀x c,X.env.cells.lookup x=My c->c≠b
 bs:∀b o,X.base.get? b=My o->X.s₀.heap.get? b=My o/\X.H₀ b=ME
 bsz:X.base.objs.size<=X.s₀.heap.objs.size
 noex:∀b o,X.base.get? b=My o->b∉X.ex
 exfs:∀b∈X.ex,b∉X.fs
 funs:X.s₀.heap.FunFrames X.base X.outer
 frf:∀b∈X.fs,X.H₀ b=ME
structure cy (X:Cx) (ba:a0b) (σ:List (Option V)) (H:Hp) (s:MQ):Prop where
 ok:X.Ok
 os:s.os=X.s₀.os
 bare:RU s.gens
 base:Un X.fs X.ex X.H₀ H X.s₀.heap s.heap
 loc:∃m,s.heap.Ns X.env.locals m/\∀(i:Nat) (x:NA) (v:V),X.N[i]?=My x->σ[i]?=My (My v)->Xq X.env.scope x->∃u,aN v u/\ZO X.env s.heap m x u
 cell:∀x c,X.env.cells.lookup x=My c->∃v,s.heap.IsCell c v
 free:H X.env.locals=ME
 freeC:∀x c,X.env.cells.lookup x=My c->H c=ME
 pin:∀p∈X.pn++ba,s.heap.get? p.1=My p.2/\H p.1=ME/\p.1≠X.env.locals/\p.1∉X.fs/\∀v,p.2.data≠ .cell v
 hok:j_ X.prog X.w H s.heap
 len:σ.length=X.N.length
section
variable{X:Cx}{ba:a0b}{σ:List (Option V)}{H T:Hp}{s:MQ}{h':NS}
theorem Cx.Ok.nofr(s:X.Ok)(e:X.base.get? b=My o):b∉X.fs:=λa=>by
 have:=(s.funs.mem a).1;rw[e]at this;cases this
theorem cy.bs(I:cy X ba σ H s):∀b o,X.base.get? b=My o->s.heap.get? b=My o/\H b=ME:=λb o e=>
 ⟨I.base.keep b o (I.ok.bs b o e).1 (I.ok.bs b o e).2 (I.ok.nofr e) (I.ok.noex b o e),I.base.free b o (I.ok.bs b o e).1 (I.ok.bs b o e).2 (I.ok.noex b o e)⟩
theorem cy.bk(I:cy X ba σ H s):∀b o,X.base.get? b=My o->s.heap.get? b=My o:=λb o e=>(I.bs b o e).1
theorem cy.mod(I:cy X ba σ H s):Mod X.K X.mg X.base:=I.ok.mod
theorem cy.kIn(I:cy X ba σ H s):X.K.In s.heap:=I.ok.mod.kin.keeps I.bk
theorem cy.fr(I:cy X ba σ H s):∃m,Fr X.base X.env.locals s.heap m:=
 let ⟨m,hn,_⟩:=I.loc
 ⟨m,hn,I.bk,Ng I.ok.bsz I.ok.above⟩
theorem cy.lt(I:cy X ba σ H s):X.env.locals<s.heap.objs.size:=let ⟨_,hn,_⟩:=I.loc;hn.lt
theorem cy.sz(I:cy X ba σ H s):X.s₀.heap.objs.size<=s.heap.objs.size:=Ng I.ok.above (Sz I.lt)
theorem cy.nofs(I:cy X ba σ H s){a:MK}(h:s.heap.objs.size<=a):a∉X.fs:=λb=>by
 obtain⟨_,o,c,_⟩:=I.ok.funs.mem b;exact Nh (Nm (Nl c) (Ng I.sz h)) (NU _)
theorem cy.cne(I:cy X ba σ H s):∀x c,X.env.cells.lookup x=My c->c≠X.env.locals:=λx c e z=>by
 obtain⟨v,o,d,D⟩:=I.cell x c e;obtain⟨m,⟨f,E,G,a,b,_⟩,_⟩:=I.loc;rw[z,a]at d;cases d;rw[b]at D;cases D
theorem cy.funs(I:cy X ba σ H s):s.heap.FunFrames X.base X.outer:=by
 have D:∀(l:a0C),(∀b∈eX l,b∈X.fs)->X.s₀.heap.FunFrames X.base l->s.heap.FunFrames X.base l:=by
  intro l
  induction l with
  |nil=>intro _ _;trivial
  |cons G r K=>
   intro E f;obtain⟨g,⟨L,o,a,M,h,S⟩,i⟩:=f;have c:L∈X.fs:=E L (by unfold eX;rw[Ov,a];exact MP);obtain⟨j,e⟩:=I.base.slot L o h (I.ok.frf L c) c λz=>I.ok.exfs L z c;exact⟨g,⟨L,_,a,M,e,S⟩,K (λb d=>E b (by unfold eX;rw[Ov,a];exact MJ _ d)) i⟩
 exact D X.outer (λ_ d=>d) I.ok.funs
theorem cy.stack(I:cy X ba σ H s):s.heap.FunFrames X.base X.stack:=by
 rcases I.ok.stk with e|⟨e,a⟩
 .rw[e];exact I.funs
 .rw[e]
  obtain⟨m,D,_⟩:=I.loc;refine .cons (by rw[I.ok.kind];decide) a D ?_ I.funs;exact VF (Ng I.ok.bsz I.ok.above)
theorem cy.stkSub(I:cy X ba σ H s):∀b∈eX X.stack,b∈X.env.locals::X.fs:=λb a=>by
 rcases I.ok.stk with e|⟨e,c⟩
 .rw[e]at a;exact MJ _ a
 .rw[e]at a
  unfold eX at a;rw[Ov,c]at a;exact a
theorem cy.stkFree(I:cy X ba σ H s):∀b∈eX X.stack,H b=ME:=λb hb=>by
 rcases M4.mp (I.stkSub b hb)with e|hb
 .rw[e];exact I.free
 .obtain⟨_,o,a,_⟩:=I.ok.funs.mem hb
  exact I.base.free b o a (I.ok.frf b hb) λz=>I.ok.exfs b z hb
theorem cy.step{ch:a0n}(I:cy X ba σ H s)
  (f:∀b∈ch,(b∈X.ex\/X.s₀.heap.objs.size<=b)/\b≠X.env.locals/\(∀x c,X.env.cells.lookup x=My c->c≠b)/\∀p∈X.pn++ba,p.1≠b)
  (E:∀b o,b≠X.env.locals->b∉X.fs->b∉ch->s.heap.get? b=My o->H b=ME->h'.get? b=My o)
  (G:∀b o,b≠X.env.locals->b∈X.fs->b∉ch->s.heap.get? b=My o->H b=ME->∃J,h'.get? b=My {o with slots:=J}) (D:∀b o,b∉ch->s.heap.get? b=My o->H b=ME->T b=ME)
  (M:∀b o,b∉ch->s.heap.get? b=My o->∃B,h'.get? b=My B)
  (S:∀b K,H b=My (.tup K)->T b=My (.tup K)) (V:∀b o u,H b=My (.frz o u)->T b=My (.frz o u)) (U:∀b Y,H b=My (.tbl Y)->∃W,T b=My (.tbl (Y++W)))
  (ns:∀m,s.heap.Ns X.env.locals m->h'.Ns X.env.locals m) (Z:j_ X.prog X.w T h') (P:RU g'):
  cy X ba σ T {s with heap:=h',gens:=g',drawn:=d',toks:=t'}:=by
 have C:∀b o,X.s₀.heap.get? b=My o->b≠X.env.locals:=λb o e=>NM (Nm (Nl e) I.ok.above);have j:∀b o,X.s₀.heap.get? b=My o->b∉X.ex->b∉ch:=λb o e a y=>by
  rcases(f b y).1 with z|z
  .exact a z
  .exact Nh (Nm (Nl e) z) (NU _)
 have g:∀x c,X.env.cells.lookup x=My c->∀v,s.heap.IsCell c v->h'.IsCell c v:=λx c e v ⟨o,A,hd⟩=>by
  have h:c∉ch:=λz=>(f c z).2.2.1 x c e rfl;by_cases N:c∈X.fs
  .obtain⟨J,q⟩:=G c o (I.cne x c e) N h A (I.freeC x c e)
   exact⟨_,q,hd⟩
  .exact⟨o,E c o (I.cne x c e) N h A (I.freeC x c e),hd⟩
 refine⟨I.ok,I.os,P,⟨λb o e n y a=>?_,λb o e n y a=>?_,λb o e n a=>?_,λb o e a=>?_,λb K e=>S b K (I.base.tups b K e),λb o K e=>V b o K (I.base.frzs b o K e),λb Y e=>?_⟩,?_,λx c e=>?_,?_,λx c e=>?_,λp O=>?_,Z,I.len⟩
 .exact E b o (C b o e) y (j b o e a) (I.base.keep b o e n y a) (I.base.free b o e n a)
 .obtain⟨J,t⟩:=I.base.slot b o e n y a
  obtain⟨L,F⟩:=G b _ (C b o e) y (j b o e a) t (I.base.free b o e n a);exact⟨L,F⟩
 .obtain⟨B,t⟩:=I.base.there b o e a
  exact D b B (j b o e a) t (I.base.free b o e n a)
 .obtain⟨B,t⟩:=I.base.there b o e a
  exact M b B (j b o e a) t
 .obtain⟨m1,t⟩:=I.base.tbls b Y e
  obtain⟨m2,F⟩:=U b _ t;exact⟨m1++m2,by rw[F,VP]⟩
 .obtain⟨m,hn,Q⟩:=I.loc
  refine⟨m,ns m hn,λi x v t F R=>?_⟩;obtain⟨u,r,l⟩:=Q i x v t F R;refine⟨u,r,?_⟩;rcases l with l|⟨k,c,e,z⟩
  .exact .inl l
  .exact .inr ⟨k,c,e,g x c e _ z⟩
 .obtain⟨v,z⟩:=I.cell x c e
  exact⟨v,g x c e v z⟩
 .obtain⟨m,⟨o,_,_,A,_⟩,_⟩:=I.loc
  exact D _ o (λz=>(f _ z).2.1 rfl) A I.free
 .obtain⟨v,o,A,hd⟩:=I.cell x c e
  exact D c o (λz=>(f c z).2.2.1 x c e rfl) A (I.freeC x c e)
 .obtain⟨e,n,ne,nf,d⟩:=I.pin p O
  have h:p.1∉ch:=λz=>(f p.1 z).2.2.2 p O rfl;exact⟨E p.1 p.2 ne nf h e n,D p.1 p.2 h e n,ne,nf,d⟩
theorem cy.un(I:cy X ba σ H s)(u:Un X.fs [] H T s.heap h')(D:j_ X.prog X.w T h'):cy X ba σ T {s with heap:=h',toks:=t'}:=by
 obtain⟨m,⟨o,G,K,g,r⟩,_⟩:=id I.loc;obtain⟨j,h⟩:=u.any g I.free (by simp);exact I.step (g':=s.gens) (d':=s.drawn) (ch:=[]) (λ_ z=>nomatch z) (λb o _ c _ e n=>u.keep b o e n c (by simp)) (λb o _ c _ e n=>u.slot b o e n c (by simp)) (λb o _ e n=>u.free b o e n (by simp)) (λb o _ e=>u.there b o e (by simp)) u.tups u.frzs u.tbls (λk E=>by
  obtain⟨l,d,f,a,i⟩:=E;rw[g]at a;cases a;exact⟨_,d,f,h,i⟩) D I.bare
theorem cy.call{ch:a0n}(I:cy X ba σ H s)(u:Un (eX X.stack) ch H T s.heap h')(D:j_ X.prog X.w T h')(k:RU g')
  (d:∀b∈ch,(b∈X.ex\/X.s₀.heap.objs.size<=b)/\b≠X.env.locals/\(∀x c,X.env.cells.lookup x=My c->c≠b)/\∀p∈X.pn++ba,p.1≠b):
  cy X ba σ T {s with heap:=h',gens:=g',drawn:=d',toks:=t'}:=by
 obtain⟨m,⟨o,G,K,j,r⟩,_⟩:=id I.loc;obtain⟨t,g⟩:=u.any j I.free λz=>(d _ z).2.1 rfl;exact I.step (ch:=ch) d (λb o g l a e n=>u.keep b o e n (λz=>(M4.mp (I.stkSub b z)).elim g l) a) (λb o _ _ a e n=>u.any e n a) (λb o a e n=>u.free b o e n a) (λb o a e=>u.there b o e a) u.tups u.frzs u.tbls (λv E=>by
  obtain⟨y,h,i,f,q⟩:=E;rw[j]at f;cases f;exact⟨_,h,i,g,q⟩) D k
theorem cy.turned(I:cy X ba σ H s)(k:∀b o,b≠t->s.heap.get? b=My o->h'.get? b=My o)(D:H t=ME)(f:t≠X.env.locals)
  (g:t∈X.ex\/X.s₀.heap.objs.size<=t) (h:∀x c,X.env.cells.lookup x=My c->c≠t) (i:∀p∈X.pn++ba,p.1≠t):cy X ba σ H {s with heap:=h',toks:=t'}:=by
 have d:∀b u,H b=My u->b≠t:=λb u e z=>by rw[z,D]at e;cases e
 refine I.step (g':=s.gens) (d':=s.drawn) (ch:=[t]) (λb j=>?_) (λb o _ _ a e _=>k b o (λz=>a (by simp[z])) e) (λb o _ _ a e _=>⟨o.slots,k b o (λz=>a (by simp[z])) e⟩) (λ_ _ _ _ n=>n)
  (λb o a e=>⟨o,k b o (λz=>a (by simp[z])) e⟩) (λ_ _ e=>e) (λ_ _ _ e=>e) (λb G e=>⟨#[],by rw[e];simp⟩) (λm E=>?_) (λb u e=>?_) I.bare
 .have e:b=t:=by simpa using j
  subst e;exact⟨g,f,h,i⟩
 .obtain⟨o,es,ep,l,r⟩:=E
  exact⟨o,es,ep,k _ o (Ne.symm f) l,r⟩
 .refine(I.hok b u e).stay (λc v a q=>k c v ?_ q) (λ_ q=>q) λ_ _ q=>q
  rcases a with z|z
  .rw[z];exact d b u e
  .exact d c _ z
theorem cy.tok(I:cy X ba σ H s)(t:Nat):cy X ba σ H {s with toks:=t}:=I.un (h':=s.heap) (t':=t) Un.refl I.hok
theorem cy.kept(I:cy X ba σ H s)(k:∀b u,s.heap.get? b=My u->h'.get? b=My u):cy X ba σ H {s with heap:=h',toks:=t'}:=I.un (Un.kept k) (I.hok.kept k)
theorem cy.laid{a:MK}{o:HO}{t':Nat}(I:cy X ba σ H s)(k:∀b u,s.heap.get? b=My u->h'.get? b=My u)(c:s.heap.objs.size<=a)(D:bX X.prog X.w (upd H a o) h' a o):
  cy X ba σ (upd H a o) {s with heap:=h',toks:=t'}:=I.un (Un.laid k c (I.hok.fresh c)) (I.hok.laid k c D)
theorem cy.write(I:cy X ba σ H s)(mu:XZ (H x))(c:e=x\/H e=My (.own x))(k:∀b u,b≠e->s.heap.get? b=My u->h'.get? b=My u)(a:∃u,h'.get? e=My u)
  (D:bX X.prog X.w (upd H x o) h' x o):cy X ba σ (upd H x o) {s with heap:=h',toks:=t'}:=I.un (Un.write mu c k a) (I.hok.write mu c k a D)
theorem cy.pins_of(I:cy X ba σ H s)(h:∀p∈pins',s.heap.get? p.1=My p.2/\H p.1=ME/\p.1≠X.env.locals/\p.1∉X.fs/\∀v,p.2.data≠ .cell v):cy X pins' σ H s:=
 ⟨I.ok,I.os,I.bare,I.base,I.loc,I.cell,I.free,I.freeC,λp a=>(NP.mp a).elim (λz=>I.pin p (O4 _ z)) (h p),I.hok,I.len⟩
theorem va{N:a0h}(c:N.Nodup){i j:Nat}{x:NA}(a:N[i]?=My x)(b:N[j]?=My x):i=j:=by
 obtain⟨f,d⟩:=MR.mp a;obtain⟨g,e⟩:=MR.mp b;exact(List.getElem_inj c).mp (d.trans e.symm)
theorem l3{M:TW}{E:a0e}(I:cy X ba σ H s)(hN:X.N.Nodup)(O:X.N[i]?=My x)(l:B3 X.env.scope x)(r:aN v u)
  (h:∀K,cy X ba (σ.set i (My v)) H K->(∃a,Nx a s.heap K.heap/\(a=X.env.locals\/X.env.cells.lookup x=My a))->Q () K) (hf:b0d X x:=by first|exact .inl rfl|exact .inr rfl|assumption):M0 M A (storeName X.env x u) Q E s:=by
 obtain⟨m,S,hl⟩:=id I.loc;have P:(X.env.scope.kind== .class||(X.env.scope.kind== .module&&X.env.locals !=X.env.globals))=ML:=by rw[I.ok.kind];rfl
 have C:i<σ.length:=by rw[I.len];exact(MR.mp O).1
 have G:=I.cne;have f:∀{a:MK} {h':NS},(∃o,s.heap.get? a=My o/\H a=ME)->Nx a s.heap h'->j_ X.prog X.w H h':=λ{a h'} ha D b ob e=>by
  obtain⟨_,_,t⟩:=ha;refine(I.hok b ob e).stay (λc Y hc q=>(D.2 c ?_).trans q) (λ_ q=>q) λ_ _ q=>q;rintro rfl;rcases hc with rfl|hc
  .rw[t]at e;cases e
  .rw[t]at hc;cases hc
 rcases l with hk|hk
 .refine wpAny_storeName_local hk S (λh' V D=>?_) P
  obtain⟨oL,_,_,aa,_⟩:=id S;refine h _ ⟨I.ok,I.os,I.bare,⟨λb o e n F l=>?_,λb o e n F l=>?_,I.base.free,λb o e l=>?_,I.base.tups,I.base.frzs,I.base.tbls⟩,⟨_,V,λj y v' g B e3=>?_⟩,λy c e=>?_,I.free,I.freeC,λp hp=>?_,f ⟨oL,aa,I.free⟩ D,by simpa using I.len⟩ ⟨_,D,.inl rfl⟩
  .exact(D.2 b (NM (Nm (Nl e) I.ok.above))).trans (I.base.keep b o e n F l)
  .obtain⟨sl,g⟩:=I.base.slot b o e n F l
   exact⟨sl,(D.2 b (NM (Nm (Nl e) I.ok.above))).trans g⟩
  .obtain⟨o',g⟩:=I.base.there b o e l
   exact⟨o',(D.2 b (NM (Nm (Nl e) I.ok.above))).trans g⟩
  .by_cases J:j=i
   .subst J
    rw[O]at g;cases g;rw[Vb C]at B;cases B;exact⟨u,r,.inl ⟨hk,by simp⟩⟩
   .rw[VI (Ne.symm J)]at B
    obtain⟨u',r',q⟩:=hl j y v' g B e3;refine⟨u',r',?_⟩;rcases q with⟨k,e⟩|⟨k,c,e,z⟩
    .refine .inl ⟨k,?_⟩
     have:y≠x:=λe=>J (va hN g (e▸O));simp[this,e]
    .exact .inr ⟨k,c,e,z.sameBut D (G y c e)⟩
  .obtain⟨Y,z⟩:=I.cell y c e
   exact⟨Y,z.sameBut D (G y c e)⟩
  .obtain⟨e,n,ne,nf,d⟩:=I.pin p hp
   exact⟨(D.2 p.1 ne).trans e,n,ne,nf,d⟩
 .have L:X.fn x=MH:=by
   rcases hf with z|z
   .exact z
   .rw[z]at hk;cases hk
  obtain⟨c,hc⟩:=I.ok.has x (.inl hk);obtain⟨Y,z⟩:=I.cell x c hc;refine wpAny_storeName_cell I.ok.kind hk hc z (λh' R D=>?_);obtain⟨oc,T,U⟩:=id z;refine h {s with heap:=h'} ⟨I.ok,I.os,I.bare,⟨λb o e n F l=>?_,λb o e n F l=>?_,I.base.free,λb o e l=>?_,I.base.tups,I.base.frzs,I.base.tbls⟩,⟨m,S.sameBut D (Ne.symm (G x c hc)),λj y v' g B e3=>?_⟩,λy Z e=>?_,I.free,I.freeC,λp hp=>?_,f ⟨oc,T,I.freeC x c hc⟩ D,by simpa using I.len⟩ ⟨c,D,.inr hc⟩
  .exact(D.2 b (NM (Nm (Nl e) (I.ok.cab x c L hc)))).trans (I.base.keep b o e n F l)
  .obtain⟨sl,g⟩:=I.base.slot b o e n F l
   exact⟨sl,(D.2 b (NM (Nm (Nl e) (I.ok.cab x c L hc)))).trans g⟩
  .obtain⟨o',g⟩:=I.base.there b o e l
   exact⟨o',(D.2 b (NM (Nm (Nl e) (I.ok.cab x c L hc)))).trans g⟩
  .by_cases J:j=i
   .subst J
    rw[O]at g;cases g;rw[Vb C]at B;cases B;exact⟨u,r,.inr ⟨.inl hk,c,hc,R⟩⟩
   .rw[VI (Ne.symm J)]at B
    obtain⟨u',r',q⟩:=hl j y v' g B e3;refine⟨u',r',?_⟩;rcases q with q|⟨k,Z,e,z'⟩
    .exact .inl q
    .refine .inr ⟨k,Z,e,z'.sameBut D ?_⟩
     rintro rfl;exact J (va hN g (I.ok.inj _ _ _ e hc▸O))
  .by_cases W:Z=c
   .subst W;exact⟨_,R⟩
   .obtain⟨w2,z2⟩:=I.cell y Z e
    exact⟨w2,z2.sameBut D W⟩
  .obtain⟨e,n,ne,nf,d⟩:=I.pin p hp
   refine⟨(D.2 p.1 ?_).trans e,n,ne,nf,d⟩;intro q;rw[q,T]at e;have q':oc=p.2:=Np e;exact d Y (by rw[<-q'];exact U)
theorem oR{M:TW}{E:a0e}(I:cy X ba σ H s)(a:X.N.Nodup)(b:X.N[i]?=My x)(c:B3 X.env.scope x)(r:aN v u)
  (h:∀D,cy X ba (σ.set i (My v)) H D->Q () D) (d:b0d X x:=by first|exact .inl rfl|exact .inr rfl|assumption):M0 M A (storeName X.env x u) Q E s:=
 l3 I a b c r (λD e _=>h D e) d
theorem cy.call'{s':MQ}{ch:a0n}(I:cy X ba σ H s)(d:s'.os=s.os)(u:Un (eX X.stack) ch H T s.heap s'.heap)(D:j_ X.prog X.w T s'.heap)(f:RU s'.gens)
  (a:∀b∈ch,(b∈X.ex\/X.s₀.heap.objs.size<=b)/\b≠X.env.locals/\(∀x c,X.env.cells.lookup x=My c->c≠b)/\∀p∈X.pn++ba,p.1≠b):cy X ba σ T s':=by
 obtain⟨h',g',d',t',g⟩:=s';have e:g=s.os:=d;subst e;exact I.call (g':=g') (t':=t') (d':=d') u D f a
abbrev XK:=MO->a0B->Hp->Prop
abbrev St:=List (Option V)
abbrev a0r:=St->XK
abbrev a0E:=St->Hp->Prop
abbrev VK:=V->Hp->Prop
abbrev a0F:=a0i->Hp->VK->Prop
abbrev a0Q:=V->a0i->Hp->VK->Prop
abbrev TE:=St->Hp->VK->Prop
abbrev TT:=St->Hp->(Bool->Hp->Prop)->Prop
abbrev TA:=St->Hp->(a0i->Hp->Prop)->Prop
structure l5 where
 nx:St->Hp->Prop
 rt:VK
 bk:St->Hp->Prop:=λ_ _=>False
 ct:St->Hp->Prop:=λ_ _=>False
abbrev TS:=l5->St->Hp->Prop
def EP(X:Cx)(ba:a0b)(σ:St)(Q:VK)(u:MO)(s:MQ):Prop:=∃v T,cy X ba σ T s/\aN v u/\Q v T
def TP(X:Cx)(ba:a0b)(σ:St)(Q:a0U)(b:Bool)(s:MQ):Prop:=∃T,cy X ba σ T s/\Q b T
def AP(X:Cx)(ba:a0b)(σ:St)(Q:a0i->Hp->Prop)(D:a0f)(E:MQ):Prop:=∃s T,cy X ba σ T E/\ar s D/\Q s T
def SP(X:Cx)(ba:a0b)(D:l5)(f:Flow)(s:MQ):Prop:=
 match f with
 | .next=>∃a T,cy X ba a T s/\D.nx a T
 | .brk=>∃a T,cy X ba a T s/\D.bk a T
 | .cont=>∃a T,cy X ba a T s/\D.ct a T
 | .ret u=>∃v a T,cy X ba a T s/\aN v u/\D.rt v T
def PE(X:Cx)(e:Expr)(t:TE):Prop:=
 ∀(ba:a0b) (s:MQ) (σ:St) (H:Hp) (Q:VK),cy X ba σ H s->t σ H Q->M0 (Nj X.prog X.w) X.A (NW e X.env) (EP X ba σ Q) X.xe s
def PT(X:Cx)(e:Expr)(t:TT):Prop:=
 ∀(ba:a0b) (s:MQ) (σ:St) (H:Hp) (Q:a0U),cy X ba σ H s->t σ H Q->M0 (Nj X.prog X.w) X.A (isTrue e X.env (NW e X.env)) (TP X ba σ Q) X.xe s
def PW(X:Cx)(e:Expr)(t:TT):Prop:=
 ∀(a:Sem MO) (ba:a0b) (s:MQ) (σ:St) (H:Hp) (Q:a0U),cy X ba σ H s->t σ H Q->M0 (Nj X.prog X.w) X.A (isTrue e X.env a) (TP X ba σ Q) X.xe s
theorem PW.pt{X:Cx}(h:PW X e t):PT X e t:=h _
def PA(X:Cx)(E:List Expr)(t:TA):Prop:=
 ∀(D:Ri) (ba:a0b) (s:MQ) (σ:St) (H:Hp) (Q:a0i->Hp->Prop),cy X ba σ H s->t σ H Q->M0 (Nj X.prog X.w) X.A (spliced (OO D (MY E X.env))) (AP X ba σ Q) X.xe s
def PS(X:Cx)(E:N3)(t:TS):Prop:=
 ∀(ba:a0b) (s:MQ) (σ:St) (H:Hp) (D:l5),cy X ba σ H s->t D σ H->M0 (Nj X.prog X.w) X.A (exec E X.env) (SP X ba D) X.xe s
def PSs(X:Cx)(E:a0R)(t:TS):Prop:=
 ∀(ba:a0b) (s:MQ) (σ:St) (H:Hp) (D:l5),cy X ba σ H s->t D σ H->M0 (Nj X.prog X.w) X.A (execs E X.env) (SP X ba D) X.xe s
theorem d5{D:Type}{t:Sem D}{Q b:D->MQ->Prop}{M:TW}{A:NX}{E:a0e}{s:MQ}(h:M0 M A t Q E s)(c:∀a s,Q a s->b a s):M0 M A t b E s:=NI h c λ_ _ x=>x
def oM(i:Nat):TE:=λσ H Q=>∃v,σ[i]?=My (My v)/\Q v H
def tC(v:V):TE:=λ_ H Q=>Q v H
theorem JA(g:X.N[i]?=My x)(j:Xq X.env.scope x)(D:b0c x:=by decide)(d:(x==("__classdict__":NA))=ML:=by decide):PE X (.Name x n) (oM i):=by
 intro ba s σ H Q I h;obtain⟨v,e,h⟩:=h;obtain⟨m,E,k⟩:=I.loc;obtain⟨u,r,l⟩:=k i x v g e j;have b:EP X ba σ Q u s:=⟨v,H,I,r,h⟩;rcases l with⟨hk,G⟩|⟨hk,c,f,a⟩
 .exact wpAny_Name (wpAny_loadName_local I.ok.kind hk E G b) D
 .rcases hk with hk|hk
  .exact wpAny_Name (wpAny_loadName_cell I.ok.kind hk f a b) D
  .exact wpAny_Name (wpAny_loadName_free I.ok.kind hk f a b d) D
theorem b8{i j a}:PE X (.Constant (.int i) j a) (tC (.int i)):=λ_ _ _ H _ I h=>wpAny_Constant_int ⟨.int i,H,I.tok _,⟨_,rfl⟩,h⟩
theorem Lr{b j a}:PE X (.Constant (.bool b) j a) (tC (.bl b)):=λ_ _ _ H _ I h=>Constant_bool ⟨.bl b,H,I,rfl,h⟩
theorem JE{j a}:PE X (.Constant .none j a) (tC .non):=λ_ _ _ H _ I h=>Constant_none ⟨.non,H,I,rfl,h⟩
theorem uW{x j a}:PE X (.Constant (.str x) j a) (tC (.str x)):=λ_ _ _ H _ I h=>VS ⟨.str x,H,I.tok _,⟨_,rfl⟩,h⟩
def Gl(X:Cx)(x:NA):Prop:=X.env.kindOf x=My .globalImplicit
theorem i9{E:a0e}{ba:a0b}{s:MQ}{σ:St}{H:Hp}(I:cy X ba σ H s)(a:Gl X x)(D:X.mg x=My u)(h:Q u s)
  (G:b0c x:=by decide):M0 (Nj X.prog X.w) X.A (NW (.Name x b) X.env) Q E s:=
 Uh I.ok.kind a (Calls.loadGlobal_global (by rw[I.ok.glob];exact I.mod.glob.keeps I.bk) D h) G
theorem f9{E:a0e}{ba:a0b}{s:MQ}{σ:St}{H:Hp}(I:cy X ba σ H s)(a:Gl X x)(D:X.mg x=ME)(b:Qh x=My u)(h:Q u s)
  (G:x≠"__name__":=by decide) (K:b0c x:=by decide):M0 (Nj X.prog X.w) X.A (NW (.Name x f) X.env) Q E s:=by
 obtain⟨e,c,d⟩:=I.mod.blt;exact Uh I.ok.kind a (Calls.loadGlobal_builtin (by rw[I.ok.glob];exact I.mod.glob.keeps I.bk) D (by rw[I.ok.blt];exact c.keeps I.bk) ((d x G).trans b) h) K
theorem Hy(a:Gl X x)(s:X.mg x=My u)(r:aN v u)(D:b0c x:=by decide):PE X (.Name x b) (tC v):=
 λ_ _ _ H _ I h=>i9 I a s ⟨v,H,I,r,h⟩ D
theorem nl(a:Gl X x)(s:X.mg x=ME)(b:Qh x=My u)(r:aN v u)(D:x≠"__name__":=by decide)(E:b0c x:=by decide):PE X (.Name x c) (tC v):=
 λ_ _ _ H _ I h=>f9 I a s b ⟨v,H,I,r,h⟩ D E
variable{a b:Expr}{o m:TE}{j:Ri}
variable{l p:TT}{k:List Expr}
def ZX(t u:TT):TT:=λσ H Q=>t σ H λc a=>if c=MH then Q MH a else u σ a Q
def Yi(t:TT):TT:=λσ H Q=>t σ H λc a=>Q (!c) a
theorem Jo(b:PT X a l):PW X (.BoolOp .Or [a] j) l:=by
 intro d ba s σ H Q I h;refine isTrue_or (d5 (b ba s σ H Q I h) λc f e=>?_);cases c with
 |false=>exact isTrue_or_nil e
 |true=>exact e
theorem Lp(D:PT X a l)(e:PW X (.BoolOp .Or (b::k) j) p):PW X (.BoolOp .Or (a::b::k) j) (ZX l p):=by
 intro f ba s σ H Q I h;refine isTrue_or (d5 (D ba s σ H _ I h) λc g ⟨m,d,o⟩=>?_);cases c with
 |true=>exact⟨m,d,o⟩
 |false=>exact e f ba g σ m Q d o
theorem Jq(b:PT X a l):PT X (.UnaryOp .Not a j) (Yi l):=by
 intro ba s σ H Q I h;exact isTrue_not (b ba s σ H (λc k=>Q (!c) k) I h)
def Li(o m:TE):TE:=λσ H Q=>o σ H λx a=>∃c,x= .bl c/\if c=MH then m σ a Q else Q (.bl ML) a
theorem JD{op}(h:PE X a t):PE X (.BoolOp op [a] j) t:=λba s σ H Q I c=>BoolOp_one (h ba s σ H Q I c)
theorem JG(D:PE X a o)(e:PE X (.BoolOp .And (b::k) j) m):PE X (.BoolOp .And (a::b::k) j) (Li o m):=by
 intro ba s σ H Q I h;refine BoolOp_and (d5 (D ba s σ H _ I h) λv f ⟨x,p,d,E,l⟩=>?_);obtain⟨c,rfl,l⟩:=l;cases E;refine N8 ?_;cases c with
 |true=>exact e ba f σ p Q d l
 |false=>exact⟨.bl ML,p,d,rfl,l⟩
def tIf(t:TT)(o m:TE):TE:=λσ H Q=>t σ H λc a=>if c=MH then o σ a Q else m σ a Q
theorem EM(g:PT X c l)(D:PE X a o)(i:PE X b m):PE X (.IfExp c a b j) (tIf l o m):=by
 intro ba s σ H Q I h;refine wpAny_IfExp (d5 (g ba s σ H _ I h) λd e ⟨k,f,p⟩=>?_);cases d with
 |true=>exact D ba e σ k Q f p
 |false=>exact i ba e σ k Q f p
def et(K:M9)(H:Hp)(a:MK)(xs:a0i):Prop:=
 Rd H a (.lst xs)\/
  ∃(o:Oa) (b:a0J) (n:Nat),K.lookup a=My o/\o.cls= .type "list"/\o.dict=ME/\o.data= .seq b n/\b.size<=M1/\ar xs b.toList
def hY(K:M9)(H:Hp)(a:MK)(j:a0i):Prop:=
 Rd H a (.tup j)\/
  ∃(o:Oa) (b:a0J) (n:Nat),K.lookup a=My o/\o.cls= .type "tuple"/\o.data= .seq b n/\b.size<=M1/\ar j b.toList
noncomputable def ZJ:MO->Option V
 | .none=>My .non
 | .bool b=>My (.bl b)
 | .int i _=>My (.int i)
 | .str x _=>My (.str x)
 | .ref a=>My (.ref a)
 | .type n=>My (.ty n)
 |_=>ME
theorem aN.abs(r:aN x u):ZJ u=My x:=by
 cases x with
 |non=>cases r;rfl
 |bl _=>cases r;rfl
 |int _=>obtain⟨t,rfl⟩:=r;rfl
 |str _=>obtain⟨t,rfl⟩:=r;rfl
 |ref _=>cases r;rfl
 |ty _=>cases r;rfl
theorem aN.inj(r:aN x u)(q:aN y u):x=y:=Np (r.abs.symm.trans q.abs)
theorem ar.inj:∀{a b:a0i} {j:a0f},ar a j->ar b j->a=b
 |_,_,_,.nil,.nil=>rfl
 |_,_,_,.cons r t,.cons r' t'=>by rw[r.inj r',ar.inj t t']
end
section
variable{X:Cx}{ba:a0b}{σ:St}{H:Hp}{s:MQ}{a:MK}{xs ys:a0i}
theorem et.of{K:M9}(h:H a=My (.lst xs)):et K H a xs:= .inl (.inl h)
theorem cy.list(I:cy X ba σ H s)(h:et X.K H a xs):∃its:a0f,ar xs its/\PlainL s.heap a its.toArray/\xs.length<=M1:=by
 rcases h with h|⟨o,its,n,b,c,D,E,d,r⟩
 .obtain⟨z,its,n,r,e⟩:=h.ok I.hok
  exact⟨its,r,⟨_,n,e,rfl,rfl,rfl⟩,z⟩
 .refine⟨its.toList,r,⟨o,n,I.kIn a o b,c,D,by simpa using E⟩,?_⟩
  have e:=r.length;simp only[ND]at e;lia
theorem cy.tuple(I:cy X ba σ H s)(h:hY X.K H a xs):∃D:a0f,ar xs D/\IsTup s.heap a D.toArray/\xs.length<=M1:=by
 rcases h with h|⟨o,D,n,b,c,E,d,r⟩
 .obtain⟨z,D,r,p⟩:=h.ok I.hok
  exact⟨D,r,p,z⟩
 .refine⟨D.toList,r,⟨o,I.kIn a o b,c,n,by simpa using E⟩,?_⟩
  have e:=r.length;simp only[ND]at e;lia
theorem cy.list_inj(I:cy X ba σ H s)(h:et X.K H a xs)(M:et X.K H a ys):xs=ys:=by
 obtain⟨E,r,⟨o,n,e,_,_,d⟩,_⟩:=I.list h;obtain⟨D,c,⟨f,g,b,_,_,G⟩,_⟩:=I.list M;rw[e]at b;cases b;rw[d]at G
 injection G with S _
 have:E=D:=by simpa using N6 Array.toList S
 subst this;exact r.inj c
theorem cy.tuple_inj(I:cy X ba σ H s)(h:hY X.K H a xs)(M:hY X.K H a ys):xs=ys:=by
 obtain⟨E,r,⟨o,e,_,n,d⟩,_⟩:=I.tuple h;obtain⟨D,c,⟨f,b,_,g,G⟩,_⟩:=I.tuple M;rw[e]at b;cases b;rw[d]at G
 injection G with S _
 have:E=D:=by simpa using N6 Array.toList S
 subst this;exact r.inj c
noncomputable abbrev Cx.wish(X:Cx)(E:a0e):Cx:={X with xe:=E}
noncomputable abbrev Cx.nox(X:Cx):Cx:=X.wish λ_ _=>False
theorem Cx.Ok.wish{X:Cx}(a:X.Ok)(E:a0e):(X.wish E).Ok:=
 ⟨a.mod,a.kind,a.glob,a.blt,a.above,a.inj,a.has,a.cab,a.hd,a.frames,a.stk,a.exf,a.bs,a.bsz,a.noex,a.exfs,a.funs,a.frf⟩
theorem Cx.Ok.unwish{X:Cx}{E:a0e}(a:(X.wish E).Ok):X.Ok:=
 ⟨a.mod,a.kind,a.glob,a.blt,a.above,a.inj,a.has,a.cab,a.hd,a.frames,a.stk,a.exf,a.bs,a.bsz,a.noex,a.exfs,a.funs,a.frf⟩
variable{E:a0e}
theorem cy.wish(I:cy X ba σ H s)(E:a0e):cy (X.wish E) ba σ H s:=⟨I.ok.wish E,I.os,I.bare,I.base,I.loc,I.cell,I.free,I.freeC,I.pin,I.hok,I.len⟩
theorem cy.unwish(I:cy (X.wish E) ba σ H s):cy X ba σ H s:=⟨I.ok.unwish,I.os,I.bare,I.base,I.loc,I.cell,I.free,I.freeC,I.pin,I.hok,I.len⟩
theorem SP.unwish{D:l5}(h:SP (X.wish E) ba D f d):SP X ba D f d:=by
 cases f with
 |next=>obtain⟨b,c,I,q⟩:=h;exact⟨b,c,I.unwish,q⟩
 |brk=>obtain⟨b,c,I,q⟩:=h;exact⟨b,c,I.unwish,q⟩
 |cont=>obtain⟨b,c,I,q⟩:=h;exact⟨b,c,I.unwish,q⟩
 |ret u=>obtain⟨v,b,c,I,r,q⟩:=h;exact⟨v,b,c,I.unwish,r,q⟩
theorem PSs.nox{a:a0R}(h:PSs X.nox a t):PSs X a t:=λba s σ H D I b=>
 NI (h ba s σ H D (I.wish _) b) (λ_ _ q=>q.unwish) λ_ _ z=>OS z
variable{Z:N3}{rest:a0R}{t u:TS}{e:Expr}{a:TE}{aa:Ri}
noncomputable def Lg:TS:=λD σ H=>D.nx σ H
def Yg(t u:TS):TS:=λD σ H=>t {D with nx:=u D} σ H
theorem rh:PSs X [] Lg:=λ_ _ σ H _ I h=>RO ⟨σ,H,I,h⟩
theorem cY(c:PS X Z t)(d:PSs X rest u):PSs X (Z::rest) (Yg t u):=by
 intro ba s σ H D I h;refine wpAny_execs_cons (d5 (c ba s σ H {D with nx:=u D} I h) λf g q=>?_);cases f with
 |next=>
  obtain⟨b,i,j,q⟩:=q;exact d ba g b i D j q
 |ret v=>exact q
 |brk=>exact q
 |cont=>exact q
theorem gQ(b:PS X Z t):PSs X [Z] t:=by
 intro ba s σ H D I h;refine wpAny_execs_cons (d5 (b ba s σ H D I h) λf c q=>?_);cases f with
 |next=>exact RO q
 |ret v=>exact q
 |brk=>exact q
 |cont=>exact q
theorem cy.quiet{ba:a0b}{σ:St}{H:Hp}{s:MQ}(I:cy X ba σ H s):interactive X.env=ML:=by simp[interactive,I.ok.kind]
def xR(a:TE):TS:=λD σ H=>a σ H λ_ e=>D.nx σ e
theorem bR(b:PE X e a)(t:Q1 e ME aa.line X.env=OW ML:=by rfl):PS X (.Expr e aa) (xR a):=by
 intro ba s σ H D I h;exact wpAny_Expr_any (d5 (b ba s σ H _ I h) λv d ⟨x,u,c,G,E⟩=>⟨σ,u,c,E⟩) I.quiet t
def Em(a:TE):TS:=λD σ H=>a σ H D.rt
theorem aw(b:PE X e a):PS X (.Return (My e) aa) (Em a):=by
 intro ba s σ H D I h;exact wpAny_Return_some (d5 (b ba s σ H _ I h) λv d ⟨x,t,c,u,E⟩=>⟨x,σ,t,c,u,E⟩)
def Yj(c:TT)(t u:TS):TS:=λD σ H=>c σ H λb a=>if b=MH then t D σ a else u D σ a
theorem Gn{a b:a0R}(i:PT X c tc)(G:PSs X a t)(j:PSs X b u):PS X (.If c a b aa) (Yj tc t u):=by
 intro ba s σ H D I h;refine wpAny_If (d5 (i ba s σ H _ I h) λd f ⟨e,g,E⟩=>?_);cases d with
 |true=>exact G ba f σ e D g E
 |false=>exact j ba f σ e D g E
abbrev TG:=V->St->Hp->(St->Hp->Prop)->Prop
abbrev N_:=a0i->St->Hp->(St->Hp->Prop)->Prop
def PG(X:Cx)(b:Expr)(t:TG):Prop:=
 ∀(ba:a0b) (s:MQ) (σ:St) (H:Hp) (v:V) (u:MO) (Q:a0E),cy X ba σ H s->aN v u->t v σ H Q->
  M0 (Nj X.prog X.w) X.A (RM b X.env u) (λ_ a=>∃c d,cy X ba c d a/\Q c d) X.xe s
def XX(X:Cx)(d:List Expr)(t:N_):Prop:=
 ∀(ba:a0b) (s:MQ) (σ:St) (H:Hp) (a:a0i) (e:a0f) (Q:a0E),cy X ba σ H s->ar a e->t a σ H Q->
  M0 (Nj X.prog X.w) X.A (assignInOrder ((SV d X.env).map (·.2)) e) (λ_ u=>∃b c,cy X ba b c u/\Q b c) X.xe s
abbrev FQ:=V->V->V->Hp->(Hp->Prop)->Prop
def KY(X:Cx)(t:FQ):Prop:=
 ∀(ba:a0b) (s:MQ) (σ:St) (H:Hp) (o i v:V) (b c u:MO) (Q:Hp->Prop),cy X ba σ H s->aN o b->aN i c->aN v u->t o i v H Q->
  M0 (Nj X.prog X.w) X.A (setItem b c u) (λ_ a=>∃d,cy X ba σ d a/\Q d) X.xe s
abbrev XW:=V->V->Hp->VK->Prop
def Xs(X:Cx)(a:Operator)(t:XW):Prop:=
 ∀(ba:a0b) (s:MQ) (σ:St) (H:Hp) (x y:V) (v u:MO) (Q:VK),cy X ba σ H s->aN x v->aN y u->t x y H Q->
  M0 (Nj X.prog X.w) X.A (inplaceOp a v u) (EP X ba σ Q) X.xe s
def fQ(i:Nat):TG:=λv σ H Q=>Q (σ.set i (My v)) H
theorem wV(b:X.N.Nodup)(c:X.N[i]?=My x)(d:B3 X.env.scope x)(f:b0d X x:=by first|exact .inl rfl|exact .inr rfl|assumption):PG X (.Name x aa) (fQ i):=by
 intro ba s σ H v u Q I r h;exact Uu (oR I b c d r (λa g=>⟨_,H,g,h⟩) f)
noncomputable def gNil:N_:=λa σ H Q=>a=[]/\Q σ H
def yN(t:TG)(u:N_):N_:=λa σ H Q=>∃v r,a=v::r/\t v σ H λb c=>u r b c Q
theorem bz:XX X [] gNil:=by
 intro ba s σ H a t Q I r h;obtain⟨e,h⟩:=h;subst e;cases r;exact assignInOrder_nil ⟨σ,H,I,h⟩
theorem au{e:Expr}{t:TG}{u:N_}(c:PG X e t)(d:XX X l u)
  (a:(SV (e::l) X.env).map (·.2)=RM e X.env::(SV l X.env).map (·.2):=by rfl):XX X (e::l) (yN t u):=by
 intro ba s σ H G K Q I r h;obtain⟨v,k,f,h⟩:=h;subst f;cases r with
 |cons r g=>
  rw[a];refine assignInOrder_cons (d5 (c ba s σ H _ _ _ I r h) λ_ i ⟨b,D,j,E⟩=>?_);exact d ba i b D _ _ Q j g E
def Fn(K:M9)(n:Nat)(t:N_):TG:=λv σ H Q=>∃a xs,v= .ref a/\hY K H a xs/\xs.length=n/\t xs σ H Q
theorem bM{t:N_}(g:X.calm=MH)(h:XX X x t)
  (D:(SV x X.env).length=n:=by rfl) (c:(SV x X.env).findIdx? (·.1)=ME:=by rfl):PG X (.Tuple x k aa) (Fn X.K n t):=by
 intro ba s σ H v u Q I r d;obtain⟨a,xs,i,j,l,d⟩:=d;subst i;cases r;obtain⟨E,f,m,w⟩:=I.tuple j;refine assign_Tuple_tuple (I.ok.hd g) m (by simp[D,<-l,f.length]) c λG p=>?_;have q:cy X ba σ H {s with heap:=G}:=I.kept (t':=s.toks) λb o e=>p b o (NM (Nl e)) e;exact h ba _ σ H xs _ Q q (by simpa using f) d
def Fo(a b:TE)(t:FQ):TG:=λv σ H Q=>a σ H λo e=>b σ e λi c=>t o i v c λd=>Q σ d
theorem dM{t:FQ}(d:PE X o to)(f:PE X i z)(a:KY X t)
  (e:∀v,RM (.Subscript o i aa) X.env v=(do
   let b <-QI [v] (NW o X.env)
   let c <-QI [v,b] (NW i X.env)
   Qi aa
   QI [v,b,c] (setItem b c v)
   release [v,b,c] []):=by intro _;rfl):PG X (.Subscript o i aa) (Fo to z t):=by
 intro ba s σ H v u Q I r h;rw[e];refine MC (Om (d5 (d ba s σ H _ I h) λb g ⟨x,D,j,E,G⟩=>?_));refine MC (Om (d5 (f ba g σ D _ j G) λc k ⟨y,l,m,n,K⟩=>?_));refine MC (OQ (MC (Om (d5 (a ba k σ l x y v b c u _ m E n r K) λ_ w ⟨p,q,M⟩=>?_))));exact wpAny_release ⟨σ,p,q,M⟩
def iC(a:TE)(g:TG):TS:=λD σ H=>a σ H λx e=>g x σ e D.nx
theorem cm{t e:Expr}{a:TE}(b:PE X e a)(c:PG X t g)(u:swapsWithSole [t] e aa.line X.env=OW ML:=by rfl)(d:swappedStores [t] e X.env=OW ME:=by rfl)
  (f:(SV [t] X.env).map (·.2)=[RM t X.env]:=by rfl):PS X (.Assign [t] e aa) (iC a g):=by
 intro ba s σ H D I h;refine wpAny_Assign_stores (d5 (b ba s σ H _ I h) λv i ⟨x,E,j,G,K⟩=>?_) u d;rw[f];exact d5 (c ba i σ E x v _ j G K) λ_ k q=>q
theorem qi{e:Expr}{a:TE}(b:X.N.Nodup)(c:X.N[i]?=My x)(d:B3 X.env.scope x)(f:PE X e a)(t:Q1 e (My (.Name x pos')) aa.line X.env=OW ML:=by rfl)(g:b0d X x:=by first|exact .inl rfl|exact .inr rfl|assumption):
  PS X (.Assign [.Name x pos'] e aa) (iC a (fQ i)):=by
 intro ba s σ H D I h;refine wpAny_Assign_Name (d5 (f ba s σ H _ I h) λv l ⟨y,u,j,E,G⟩=>?_) t;exact oR j b c d E (λm k=>⟨_,u,k,G⟩) g
def IO(i:Nat)(a:TE)(b:XW):TS:=λD σ H=>∃x,σ[i]?=My (My x)/\a σ H λy e=>b x y e λz c=>D.nx (σ.set i (My z)) c
theorem d9{e:Expr}{a:TE}(o:X.N.Nodup)(n:X.N[i]?=My x)(g:B3 X.env.scope x)(p:PE X e a)(q:Xs X op ti)(B:b0d X x:=by first|exact .inl rfl|exact .inr rfl|assumption):
  PS X (.AugAssign (.Name x pos') op e aa) (IO i a ti):=by
 intro ba s σ H D I h;obtain⟨v,C,h⟩:=h;obtain⟨m,E,F⟩:=I.loc;have j:Xq X.env.scope x:=by rcases g with k|k;exact .inl k;exact .inr (.inl k)
 obtain⟨u,r,l⟩:=F i x v n C j;refine wpAny_AugAssign_Name ?_;have t:M0 (Nj X.prog X.w) X.A (NW e X.env) (λw d=>M0 (Nj X.prog X.w) X.A (inplaceOp op u w) (λr f=>M0 (Nj X.prog X.w) X.A (storeName X.env x r) (λ_=>SP X ba D .next) X.xe f) X.xe d) X.xe s:=by
  refine d5 (p ba s σ H _ I h) λw J ⟨y,G,L,K,M⟩=>?_;refine d5 (q ba J σ G v y u w _ L r K M) λz U ⟨W,O,P,Q,S⟩=>?_;exact oR P o n g Q (λY R=>⟨_,O,R,S⟩) B
 rcases l with⟨hk,V⟩|⟨hk,c,T,b⟩
 .exact wpAny_loadName_local I.ok.kind hk E V t
 .rcases hk with hk|hk
  .exact wpAny_loadName_cell I.ok.kind hk T b t
  .rcases g with k|k
   .have:X.env.scope.names.lookup x=My .free:=hk
    rw[k]at this;cases this
   .have:X.env.scope.names.lookup x=My .free:=hk
    rw[k]at this;cases this
def XN(f:a0K):XW:=λx y H Q=>∃i j,x= .int i/\y= .int j/\Q (.int (f i j)) H
theorem jy:Xs X .Add (XN λi j=>i+j):=by
 intro ba s σ H x y v u Q I a b h;obtain⟨i,j,c,d,q⟩:=h;subst c;subst d;obtain⟨t,rfl⟩:=a;obtain⟨e,rfl⟩:=b;exact iadd_int ⟨.int _,H,I.tok _,⟨_,rfl⟩,q⟩
theorem Kq:Xs X .Sub (XN λi j=>i-j):=by
 intro ba s σ H x y v u Q I a b h;obtain⟨i,j,c,d,q⟩:=h;subst c;subst d;obtain⟨t,rfl⟩:=a;obtain⟨e,rfl⟩:=b;exact isub_int ⟨.int _,H,I.tok _,⟨_,rfl⟩,q⟩
def II(c:TT)(h:TS):TS:=λD σ H=>∃W:Nat->St->Hp->Prop,(∃m,W m σ H)/\∀m σ H,W m σ H->
 c σ H λb a=>if b=MH then ∃N:St->Hp->Prop,(∀d f,N d f->∃g,g<m/\W g d f)/\h {D with nx:=N,ct:=N,bk:=D.nx} σ a else D.nx σ a
theorem EC(q:Wo (Nj X.prog X.w) X.A X.env X.xe)(F:PT X c tc)(J:PSs X body x):PS X (.While c body [] aa) (II tc x):=by
 intro ba s σ H D I h;obtain⟨W,⟨L,O⟩,i⟩:=h;refine wpAny_While (codeAny_whileLoop (λn E=>∃j r,cy X ba j r E/\W n j r) ?_ L ⟨σ,H,I,O⟩);rintro n P ⟨g,u,Q,R⟩;refine Qk q (d5 (F ba P g u _ Q (i n g u R)) λb T ⟨y,B,a⟩=>?_);cases b with
 |true=>
  obtain⟨N,C,a⟩:=a;rw[MU rfl];refine Qk q (d5 (J ba T g y _ B a) λf U e=>?_);cases f with
  |next=>
   obtain⟨d,k,l,m⟩:=e;obtain⟨o,t,p⟩:=C d k m;exact⟨o,t,d,k,l,p⟩
  |cont=>
   obtain⟨d,k,l,m⟩:=e;obtain⟨o,t,p⟩:=C d k m;exact⟨o,t,d,k,l,p⟩
  |brk=>exact e
  |ret v=>exact e
 |false=>
  rw[MS MT];exact RO ⟨g,y,B,a⟩
structure It where
 go:Nat->Hp->Prop
 yld:Nat->Hp->V->Hp->Prop
 stop:Nat->Hp->Prop
def fX(X:Cx)(ba:a0b)(H:Hp)(b:MK):Prop:=
 H b=ME/\b≠X.env.locals/\b∉X.fs/\(b∈X.ex\/X.s₀.heap.objs.size<=b)/\(∀x c,X.env.cells.lookup x=My c->c≠b)/\∀p∈X.pn++ba,p.1≠b
theorem cy.fpOk{X:Cx}{ba:a0b}{σ:St}{H f:Hp}{s:MQ}{b:MK}(I:cy X ba σ H s)(d:s.heap.objs.size<=b)(a:f b=ME):fX X ba f b:=by
 refine⟨a,Pe (Nm I.lt d),I.nofs d,.inr (Ng I.sz d),λx c e z=>?_,λp g z=>?_⟩
 .obtain⟨v,q⟩:=I.cell x c e
  exact Nh (Nm q.lt (by rw[z];exact d)) (NU _)
 .exact Nh (Nm (Nl (I.pin p g).1) (by rw[z];exact d)) (NU _)
structure nw (P:Ny) (w:NC) (K:M9) (tg:Expr) (J:It) (fp:a0n) (it:MK) (tn:Nat->NS->Prop):Prop where
 mem:it∈fp
 obj:∀i h,tn i h->∀b∈fp,∃o,h.get? b=My o/\∀v,o.data≠ .cell v
 keep:∀i h h',tn i h->(∀b∈fp,∀o,h.get? b=My o->h'.get? b=My o)->tn i h'
 item:∀(X:Cx),X.prog=P->X.w=w->X.K=K->X.calm=MH->∀(i:Nat) (ba:a0b) (s:MQ) (σ:St) (H:Hp) (E:a0e),cy X ba σ H s->(∀b∈fp,fX X ba H b)->tn i s.heap->J.go i H->
  M0 (Nj P w) X.A (Ra (.ref it)) (λr s1=>∃u,r=My u/\
   M0 (Nj P w) X.A (RN tg (.ref it) u) (λ_ s2=>∃x H',cy X ba σ H' s2/\aN x u/\J.yld i H x H'/\tn (i+1) s2.heap/\∀b∈fp,H' b=ME) E s1) E s
 done:∀(X:Cx),X.prog=P->X.w=w->X.K=K->X.calm=MH->∀(i:Nat) (ba:a0b) (s:MQ) (σ:St) (H:Hp) (E:a0e),cy X ba σ H s->(∀b∈fp,fX X ba H b)->tn i s.heap->J.stop i H->
  M0 (Nj P w) X.A (Ra (.ref it)) (λr s1=>r=ME/\cy X ba σ H s1) E s
 self:∀(A:NX) (i:Nat) (s:MQ) (Q:a0e) (E:a0e),tn i s.heap->Q (.ref it) s->M0 (Nj P w) A (Tl (.ref it)) Q E s
abbrev TI:=St->Hp->(It->Hp->Prop)->Prop
def PIE(X:Cx)(ba:a0b)(σ:St)(e:Expr)(R:It->Hp->Prop)(c:MO)(f:MQ):Prop:=
 ∃(a:MK) (g:a0n) (h:Nat->NS->Prop) (J:It) (d:Hp),c= .ref a/\cy X ba σ d f/\nw X.prog X.w X.K e J g a h/\h 0 f.heap/\(∀b∈g,fX X ba d b)/\R J d
def PI(X:Cx)(a b:Expr)(c:TI):Prop:=
 ∀(ba:a0b) (s:MQ) (σ:St) (H:Hp) (R:It->Hp->Prop),cy X ba σ H s->c σ H R->
  M0 (Nj X.prog X.w) X.A (NW b X.env) (λv d=>M0 (Nj X.prog X.w) X.A (Tl v) (PIE X ba σ a R) X.xe d) X.xe s
theorem uh{M:TW}{E:a0e}{s:MQ}{u:MO}{o:Oa}(c:s.heap.get? f=My o)(d:o.cls= .type n)(a:o.data= .fields g)
  (e:["enumerate","zip","dict_itemiterator","dict_reverseitemiterator","odict_iterator","itertools.zip_longest","itertools.pairwise"].contains n=ML) (b:Q () s):M0 M A (RN i (.ref f) u) Q E s:=by
 unfold RN;cases i<;>first
  |exact MF b
  |(cases u<;>first
   |exact MF b
   |(refine MC (wpAny_load c ?_)
     rw[d,a];show M0 M A (if(["enumerate","zip","dict_itemiterator","dict_reverseitemiterator","odict_iterator","itertools.zip_longest","itertools.pairwise"].contains n&&g[0]?==My (Qn _))=MH then _ else _) Q E s;rw[MS (by intro h;rw[e,QU]at h;cases h)];exact MF b))
noncomputable def Xv(K:M9)(a:MK):It:=
 ⟨λi H=>∃xs x,et K H a xs/\xs[i]?=My x,λi H x b=>b=H/\∀xs,et K H a xs->xs[i]?=My x,λi H=>∃xs,et K H a xs/\xs.length<=i⟩
noncomputable def ZP(K:M9)(a:MK):It:=
 ⟨λi H=>∃xs x,hY K H a xs/\xs[i]?=My x,λi H x b=>b=H/\∀xs,hY K H a xs->xs[i]?=My x,λi H=>∃xs,hY K H a xs/\xs.length<=i⟩
noncomputable def Xu(a:Int)(n:Nat):It:=⟨λi _=>i<n,λi H x b=>b=H/\x= .int (a+i),λi _=>n<=i⟩
theorem rZ{K:M9}(a t:MK):nw P w K tg (Xv K a) [t] t (λi h=>h.IsListIter t a i) where
 mem:=by simp
 obj:=λi h Z b f=>by
  have e:b=t:=by simpa using f
  subst e;obtain⟨o,e,c,d⟩:=Z;exact⟨o,e,λv z=>by rw[d]at z;cases z⟩
 keep:=λi h D Z k=>Z.at λo e=>k t (by simp) o e
 item:=by
  intro X m n q L i ba s σ H E I j Z r;subst m n q;obtain⟨xs,x,l,y⟩:=r;obtain⟨G,A,p,N⟩:=I.list l;obtain⟨u,O,Q⟩:=A.get y;obtain⟨B,f1,f2,C,F,J⟩:=j t (by simp);refine wpAny_pyNext_list_item Z p.isList (x:=u) (by simpa using O) λD g R=>?_;have T:cy X ba σ H {s with heap:=D}:=I.turned (t':=s.toks) (λb o f e=>(R.2 b f).trans e) B f1 C F J;obtain⟨o,e,c,d⟩:=id g;exact⟨u,rfl,uh (s:={s with heap:=D}) e c d (by decide) ⟨x,H,T,Q,⟨rfl,λys U=>by rw[I.list_inj U l];exact y⟩,g,λb f=>(j b f).1⟩⟩
 done:=by
  intro X m n q L i ba s σ H E I j Z r;subst m n q;obtain⟨xs,l,y⟩:=r;obtain⟨G,A,p,N⟩:=I.list l;obtain⟨B,f1,f2,C,F,J⟩:=j t (by simp);have Y:=A.length;exact wpAny_pyNext_list_end (I.ok.hd L) Z p.isList (by simp;lia) λD W=>⟨rfl,I.turned (t':=s.toks) (λb o f e=>W b o f e) B f1 C F J⟩
 self:=λ_ _ _ _ _ Z h=>wpAny_pyIter_listiter Z h
theorem xK{K:M9}(a t:MK):nw P w K tg (ZP K a) [t] t (λi h=>h.IsTupleIter t a i) where
 mem:=by simp
 obj:=λi h Z b f=>by
  have e:b=t:=by simpa using f
  subst e;obtain⟨o,e,c,d⟩:=Z;exact⟨o,e,λv z=>by rw[d]at z;cases z⟩
 keep:=λi h G Z k=>Z.at λo e=>k t (by simp) o e
 item:=by
  intro X m n q L i ba s σ H E I j Z r;subst m n q;obtain⟨xs,x,l,y⟩:=r;obtain⟨D,A,p,N⟩:=I.tuple l;obtain⟨u,O,Q⟩:=A.get y;obtain⟨B,f1,f2,C,F,J⟩:=j t (by simp);refine wpAny_pyNext_tuple_item Z (show s.heap.IsTuple a D.toArray from p) (x:=u) (by simpa using O) λG g R=>?_;have T:cy X ba σ H {s with heap:=G}:=I.turned (t':=s.toks) (λb o f e=>(R.2 b f).trans e) B f1 C F J;obtain⟨o,e,c,d⟩:=id g;exact⟨u,rfl,uh (s:={s with heap:=G}) e c d (by decide) ⟨x,H,T,Q,⟨rfl,λys U=>by rw[I.tuple_inj U l];exact y⟩,g,λb f=>(j b f).1⟩⟩
 done:=by
  intro X m n q L i ba s σ H E I j Z r;subst m n q;obtain⟨xs,l,y⟩:=r;obtain⟨D,A,p,N⟩:=I.tuple l;obtain⟨B,f1,f2,C,F,J⟩:=j t (by simp);have Y:=A.length;exact wpAny_pyNext_tuple_end (I.ok.hd L) Z (show s.heap.IsTuple a D.toArray from p) (by simp;lia) λG W=>⟨rfl,I.turned (t':=s.toks) (λb o f e=>W b o f e) B f1 C F J⟩
 self:=λ_ _ _ _ _ Z h=>wpAny_pyIter_tupleiter Z h
theorem xL{K:M9}(a:MK)(u:Int)(n:Nat):nw P w K x (Xu u n) [a] a (λi h=>UR h a (u+(i:Nat)*1) ((n:Int)-(i:Nat)) 1) where
 mem:=by simp
 obj:=λi h Z b c=>by
  have e:b=a:=by simpa using c
  subst e;exact⟨_,Z,λv z=>by
   have C:Data.fields _=Data.cell v:=z;cases C⟩
 keep:=λi h D Z k=>k a (by simp) _ Z
 item:=by
  intro X g j l m i ba s σ H E I f Z p;subst g j l;obtain⟨q,f1,f2,r,y,A⟩:=f a (by simp);have W:=Walks.range (prog:=X.prog) (w:=X.w) (I.ok.hd m) a u 1 n;refine W.item i s _ _ p Z λv D B F d J=>?_;obtain⟨t,rfl⟩:=F;have L:cy X ba σ H {s with heap:=D,toks:=B}:=I.turned (λb o c e=>J b o (by simpa using c) e) q f1 r y A;refine⟨_,rfl,uh (s:={s with heap:=D,toks:=B}) (n:="range_iterator") d rfl rfl (by decide) ⟨.int (u+i),H,L,⟨t,?_⟩,⟨rfl,rfl⟩,d,λb c=>(f b c).1⟩⟩;rw[Int.mul_one]
 done:=by
  intro X g j l m i ba s σ H E I f Z p;subst g j l;obtain⟨q,f1,f2,r,y,A⟩:=f a (by simp);exact WR (I.ok.hd m) Z (by have:n<=i:=p;lia) λD N=>⟨rfl,I.turned (t':=s.toks) (λb o c e=>N b o c e) q f1 r y A⟩
 self:=λ_ _ _ _ _ Z h=>S3 Z h
variable{z:Expr}
def Mj(K:M9)(b:TE):TI:=λσ H R=>b σ H λx e=>∃a,x= .ref a/\(∃xs,et K e a xs)/\R (Xv K a) e
theorem Ht(f:PE X l tl):PI X z l (Mj X.K tl):=by
 intro ba s σ H R I h;refine d5 (f ba s σ H _ I h) λv c ⟨x,t,d,u,D⟩=>?_;obtain⟨a,e,⟨xs,g⟩,q⟩:=D;subst e;cases u;obtain⟨E,j,p,k⟩:=d.list g;refine Sv p.isList ?_;refine⟨c.heap.objs.size,[c.heap.objs.size],_,_,t,rfl,d.kept (t':=c.toks) λb o e=>MG _ e,rZ a _,⟨_,M7 _ rfl,rfl,rfl⟩,λb i=>?_,q⟩;have e:b=c.heap.objs.size:=by simpa using i
 subst e;exact d.fpOk (MW _) (d.hok.fresh (MW _))
theorem uU{ba:a0b}{σ:St}{H:Hp}{s:MQ}{E:a0e}{a c:Int}{t u v:Tok}(I:cy X ba σ H s)(f:-(2^62)<=a)(g:a<2^62)(h:-(2^62)<=c)(i:c<2^62)
  (q:R (Xu a (c-a).toNat) H):M0 (Nj X.prog X.w) X.A (Tl (.ref s.heap.objs.size)) (PIE X ba σ z R) E {s with heap:=s.heap.push {cls:= .type "range",data:= .fields #[.int a t,.int c u,.int 1 v]},toks:=m}:=by
 refine wpAny_pyIter_range (IsRange.new ..) (small_one f g h i) ?_;have d:cy X ba σ H {s with heap:=s.heap.push {cls:= .type "range",data:= .fields #[.int a t,.int c u,.int 1 v]},toks:=m}:=I.kept λb o e=>MG _ e;refine⟨(s.heap.push {cls:= .type "range",data:= .fields #[.int a t,.int c u,.int 1 v]}).objs.size,[(s.heap.push {cls:= .type "range",data:= .fields #[.int a t,.int c u,.int 1 v]}).objs.size],_,_,H,rfl,
  d.kept (t':=m) λb o e=>MG _ e,xL _ a (c-a).toNat,?_,λb j=>?_,q⟩
 .have k:a+((0:Nat):Int)*1=a:=by simp
  have l:(((c-a).toNat:Nat):Int)-((0:Nat):Int)=Tz a c 1:=by rw[rangeSize_one];split<;>lia
  show UR _ _ (a+((0:Nat):Int)*1) ((((c-a).toNat:Nat):Int)-((0:Nat):Int)) 1;rw[k,l];exact M7 _ rfl
 .have e:b=(s.heap.push {cls:= .type "range",data:= .fields #[.int a t,.int c u,.int 1 v]}).objs.size:=by simpa using j
  subst e;exact d.fpOk (MW _) (d.hok.fresh (MW _))
def Mh(b:TA):TI:=λσ H R=>b σ H λa e=>∃j:Int,a=[.int j]/\-(2^62)<=j/\j<2^62/\R (Xu 0 j.toNat) e
def Mg(b:TA):TI:=λσ H R=>b σ H λa e=>∃i j:Int,a=[.int i,.int j]/\(-(2^62)<=i/\i<2^62/\-(2^62)<=j/\j<2^62)/\R (Xu i (j-i).toNat) e
theorem AL{a:Expr}{p aa:Ri}(b:Gl X "range")(D:X.mg "range"=ME)(E:PA X [a] g)(G:MY [a] X.env=[(ML,NW a X.env)]:=by rfl):PI X z (.Call (.Name "range" p) [a] [] aa) (Mh g):=by
 intro ba s σ H R I h;refine Call_ (f9 I b D boot_range (Ot (d5 (E aa ba s σ H _ I h) λS f ⟨V,Z,c,K,u⟩=>?_) G rfl));obtain⟨j,e,u,M,q⟩:=u;subst e;cases K with
 |cons r d=>
  cases d;obtain⟨t,rfl⟩:=r;exact call_range_1 (uU c (by lia) (by lia) u M (by simpa using q))
theorem AK{a b:Expr}{p aa:Ri}(f:Gl X "range")(D:X.mg "range"=ME)(E:PA X [a,b] m)(G:MY [a,b] X.env=[(ML,NW a X.env),(ML,NW b X.env)]:=by rfl)(c:MY [b] X.env=[(ML,NW b X.env)]:=by rfl):
  PI X z (.Call (.Name "range" p) [a,b] [] aa) (Mg m):=by
 intro ba s σ H R I h;refine Call_ (f9 I f D boot_range (Ot (d5 (E aa ba s σ H _ I h) λZ l ⟨n,o,g,K,u⟩=>?_) (by rw[G,c]) (by rw[c];rfl)));obtain⟨i,j,e,⟨u,M,S,V⟩,q⟩:=u;subst e;cases K with
 |cons r d=>
  cases d with
  |cons k d=>
   cases d;obtain⟨t,rfl⟩:=r;obtain⟨v,rfl⟩:=k;exact call_range_2 (uU g u M S V q)
def Eo(h:TI)(g:TG)(j:TS):TS:=λD σ H=>h σ H λJ a=>∃W:Nat->Nat->St->Hp->Prop,(∃m,W 0 m σ a)/\∀i m σ H,W i m σ H->
 (J.stop i H/\D.nx σ H)\/(J.go i H/\∃N:St->Hp->Prop,(∀b c,N b c->∃f,f<m/\W (i+1) f b c)/\∀x c,J.yld i H x c->g x σ c λd k=>j {D with nx:=N,ct:=N,bk:=D.nx} d k)
noncomputable def mq(c:a0n)(h:NS):a0b:=c.filterMap λb=>(h.get? b).map λo=>(b,o)
theorem i5{h:NS}(c:b∈d)(e:h.get? b=My o):(b,o)∈mq d h:=RE.mpr ⟨b,c,by rw[e];rfl⟩
theorem AT{h:NS}{p:MK×Oa}(c:p∈mq g h):p.1∈g/\h.get? p.1=My p.2:=by
 obtain⟨b,d,e⟩:=RE.mp c;cases q:h.get? b with
 |none=>rw[q]at e;cases e
 |some o=>
  rw[q]at e;have f:(b,o)=p:=Np e;subst f;exact⟨d,q⟩
theorem cy.pinned{ba:a0b}{σ:St}{H:Hp}{s:MQ}(I:cy X ba σ H s)(g:∀b∈k,fX X ba H b)(h:∀b∈k,∃o,s.heap.get? b=My o/\∀v,o.data≠ .cell v):cy X (ba++mq k s.heap) σ H s:=
 I.pins_of λp i=>(NP.mp i).elim (λz=>I.pin p (NF _ z)) λz=>by
  obtain⟨c,e⟩:=AT z;obtain⟨j,f1,f2,_⟩:=g p.1 c;obtain⟨o,f,d⟩:=h p.1 c;rw[e]at f;cases f;exact⟨e,j,f1,f2,d⟩
theorem cy.unpinned{ba a:a0b}{σ:St}{H:Hp}{s:MQ}(I:cy X (ba++a) σ H s):cy X ba σ H s:=I.pins_of λp b=>I.pin p (NF _ (O4 _ b))
theorem bB{aa:Ri}(L:Wo (Nj X.prog X.w) X.A X.env X.xe)(S:X.calm=MH)(hi:PI X z iter wi)(hg:PG X z g)(j:PSs X body tb)
  (hs:∀x,NO iter X.env x=OW x:=by intro _;rfl):PS X (.For z iter body [] aa) (Eo wi g tb):=by
 intro ba s σ H D I h;refine wpAny_For (d5 (hi ba s σ H _ I h) λv s1 h1=>d5 h1 λab s2 h2=>?_) hs;obtain⟨it,O,V,J,H2,e,I2,T,Z,f2,W,⟨m0,w0⟩,P⟩:=h2;subst e
 --what stays MH of the iterator's objects through the loop
 have k:∀{B:Hp},(∀b∈O,B b=ME)->∀b∈O,fX X ba B b:=λhn b j=>⟨hn b j,(f2 b j).2⟩;refine codeAny_forLoop_any (λn s'=>∃i l B,cy X ba l B s'/\V i s'.heap/\(∀b∈O,B b=ME)/\W i n l B) ?_ m0 ⟨0,σ,H2,I2,Z,λb j=>(f2 b j).1,w0⟩;rintro n s3 ⟨i,p,Y,I3,Q,R,w3⟩;rcases P i n p Y w3 with⟨a,qn⟩|⟨go,N,hN,step⟩
 .refine Qk L (d5 (T.done X rfl rfl rfl S i ba s3 p Y X.xe I3 (k R) Q a) λr s4 ⟨t,I4⟩=>?_)
  subst t;exact RO ⟨p,Y,I4,qn⟩
 .refine Qk L (d5 (T.item X rfl rfl rfl S i ba s3 p Y X.xe I3 (k R) Q go) λr s4 ⟨u,t,h4⟩=>?_)
  subst t;refine Qk L (d5 h4 λ_ s5 ⟨x,H5,I5,r5,y5,F,E⟩=>?_);have G:=I5.pinned (k E) (T.obj _ _ F);refine Qk L (d5 (hg _ s5 p H5 x u _ G r5 (step x H5 y5)) λ_ s6 ⟨K,H6,I6,q6⟩=>?_);refine Qk L (d5 (j _ s6 K H6 _ I6 q6) λf M C=>?_);have UV:∀{c:St} {q:Hp},cy X (ba++mq O s5.heap) c q M->N c q->∃m,m<n/\∃i l B,cy X ba l B M/\V i M.heap/\(∀b∈O,B b=ME)/\W i m l B:=λ{c q} y U=>by
   obtain⟨m',hm,w7⟩:=hN c q U;refine⟨m',hm,i+1,c,q,y.unpinned,T.keep _ _ _ F λb j o e=>(y.pin (b,o) (NF _ (NF _ (i5 j e)))).1,λb j=>?_,w7⟩;obtain⟨o,e,d⟩:=T.obj _ _ F b j;exact(y.pin (b,o) (NF _ (NF _ (i5 j e)))).2.1
  cases f with
  |next=>obtain⟨c,q,y,U⟩:=C;exact UV y U
  |cont=>obtain⟨c,q,y,U⟩:=C;exact UV y U
  |brk=>obtain⟨c,q,y,C⟩:=C;exact⟨c,q,y.unpinned,C⟩
  |ret v=>obtain⟨x7,c,q,y,r7,C⟩:=C;exact⟨x7,c,q,y.unpinned,r7,C⟩
abbrev R2:=V->V->Hp->VK->Prop
def f0(X:Cx)(f:MO->MO->Sem MO)(r:R2):Prop:=
 ∀(ba:a0b) (s:MQ) (σ:St) (H:Hp) (x y:V) (v u:MO) (Q:VK),cy X ba σ H s->aN x v->aN y u->r x y H Q->
  M0 (Nj X.prog X.w) X.A (f v u) (EP X ba σ Q) X.xe s
def XU(X:Cx)(f:MO->Sem MO)(r:V->Hp->VK->Prop):Prop:=
 ∀(ba:a0b) (s:MQ) (σ:St) (H:Hp) (x:V) (v:MO) (Q:VK),cy X ba σ H s->aN x v->r x H Q->
  M0 (Nj X.prog X.w) X.A (f v) (EP X ba σ Q) X.xe s
def dP(X:Cx)(f:MO)(r:a0F):Prop:=
 ∀(ba:a0b) (s:MQ) (σ:St) (H:Hp) (xs:a0i) (a:a0f) (Q:VK),cy X ba σ H s->ar xs a->r xs H Q->
  M0 (Nj X.prog X.w) X.A (SC f a) (EP X ba σ Q) X.xe s
def ZK(X:Cx)(r:V->Hp->(Bool->Hp->Prop)->Prop):Prop:=
 ∀(ba:a0b) (s:MQ) (σ:St) (H:Hp) (x:V) (v:MO) (Q:a0U),cy X ba σ H s->aN x v->r x H Q->
  M0 (Nj X.prog X.w) X.A (truthy v) (TP X ba σ Q) X.xe s
def W5(r:R2)(b c:TE):TE:=λσ H Q=>b σ H λx a=>c σ a λy d=>r x y d Q
def tUn(r:V->Hp->VK->Prop)(b:TE):TE:=λσ H Q=>b σ H λx a=>r x a Q
def rI(C:a0V)(g:Int->Int->V):R2:=λx y H Q=>∃i j,x= .int i/\y= .int j/\C i j/\Q (g i j) H
def qk(g:Int->Int->V):R2:=λx y H Q=>∃i j,x= .int i/\y= .int j/\Q (g i j) H
def rU(g:Int->V):V->Hp->VK->Prop:=λx H Q=>∃i,x= .int i/\Q (g i) H
end
section
variable{X:Cx}{a b c:Expr}{ta tb tc:TE}{aa:Ri}
theorem FK(D:PE X a ta)(l:PE X b tb){d:a0b}{s:MQ}{e:St}{H:Hp}{R:V->V->Hp->Prop}(I:cy X d e H s)
  (h:ta e H λx c=>tb e c λy g=>R x y g) {Q:a0e} {f:MO->MO->Sem MO}
  (m:∀v u k x y g,cy X d e g k->aN x v->aN y u->R x y g->M0 (Nj X.prog X.w) X.A (f v u) Q X.xe k):
  M0 (Nj X.prog X.w) X.A (NW a X.env) (λv i=>M0 (Nj X.prog X.w) X.A (NW b X.env) (λu j=>M0 (Nj X.prog X.w) X.A (f v u) Q X.xe j) X.xe i) X.xe s:=by
 refine d5 (D d s e H _ I h) λv n ⟨x,c,o,E,G⟩=>?_;refine d5 (l d n e c _ o G) λu k ⟨y,g,p,q,K⟩=>?_;exact m v u k x y g p E q K
theorem dX(e:f0 X (PM op) r)(c:PE X a ta)(f:PE X b tb):PE X (.BinOp a op b aa) (W5 r ta tb):=by
 intro d s g H Q I h;exact wpAny_BinOp (FK c f I h λv u i x y j k l m q=>e d i g j x y v u Q k l m q)
theorem Lq(f:XU X (unaryOp op) r)(b:PE X a ta):PE X (.UnaryOp op a aa) (tUn r ta):=by
 intro d s e H Q I h;exact UnaryOp_ (d5 (b d s e H _ I h) λv g ⟨x,c,i,D,E⟩=>f d g e c x v Q i D E)
theorem o1{f:MO->MO->Sem MO}{C:a0V}{g:a0K}
  (d:∀(i j:Int) (t u:Tok) (s:MQ) (Q:a0e) (E:a0e),C i j->Q (.int (g i j) s.toks) {s with toks:=s.toks+1}->M0 (Nj X.prog X.w) X.A (f (.int i t) (.int j u)) Q E s):
  f0 X f (rI C λi j=> .int (g i j)):=by
 intro e s n H x y v u Q I k l h;obtain⟨i,j,rfl,rfl,m,q⟩:=h;obtain⟨t,rfl⟩:=k;obtain⟨a,rfl⟩:=l;exact d i j t a s _ _ m ⟨.int (g i j),H,I.tok _,⟨_,rfl⟩,q⟩
theorem JP{f:MO->MO->Sem MO}{g:a0K}
  (d:∀(i j:Int) (t u:Tok) (s:MQ) (Q:a0e) (E:a0e),Q (.int (g i j) s.toks) {s with toks:=s.toks+1}->M0 (Nj X.prog X.w) X.A (f (.int i t) (.int j u)) Q E s):
  f0 X f (qk λi j=> .int (g i j)):=by
 intro e s m H x y v u Q I k l h;obtain⟨i,j,rfl,rfl,q⟩:=h;obtain⟨t,rfl⟩:=k;obtain⟨a,rfl⟩:=l;exact d i j t a s _ _ ⟨.int (g i j),H,I.tok _,⟨_,rfl⟩,q⟩
theorem yh{f:MO->MO->Sem MO}{g:Int->Int->Bool}
  (d:∀(i j:Int) (t u:Tok) (s:MQ) (Q:a0e) (E:a0e),Q (.bool (g i j)) s->M0 (Nj X.prog X.w) X.A (f (.int i t) (.int j u)) Q E s):
  f0 X f (qk λi j=> .bl (g i j)):=by
 intro e s m H x y v u Q I k l h;obtain⟨i,j,rfl,rfl,q⟩:=h;obtain⟨t,rfl⟩:=k;obtain⟨a,rfl⟩:=l;exact d i j t a s _ _ ⟨.bl (g i j),H,I,rfl,q⟩
def ZT(i j:Int):Prop:=0<j/\j<1073741824
def ZS(i j:Int):Prop:=0<=j/\j<=1000000/\i.natAbs<2^64
def FS(i j:Int):Prop:=(-(2^64)<i/\i<2^64)\/(-(2^64)<j/\j<2^64)
theorem FS.ok(h:FS i j):IntMulOk i j:=by
 rcases h with⟨d,e⟩|⟨d,e⟩
 .exact .of_left (intBits_le_64 d e)
 .exact .of_right (intBits_le_64 d e)
theorem qq:f0 X (PM .Add) (qk λi j=> .int (i+j)):=JP λ_ _ _ _ _ _ _ q=>add_int q
theorem bH:f0 X (PM .Sub) (qk λi j=> .int (i-j)):=JP λ_ _ _ _ _ _ _ q=>sub_int q
theorem JL:f0 X (PM .Mult) (rI FS λi j=> .int (i*j)):=o1 λ_ _ _ _ _ _ _ d q=>mul_int q d.ok
theorem wY:f0 X (PM .FloorDiv) (rI ZT λi j=> .int (i/j)):=o1 λi j _ _ _ _ _ d q=>by
 have e:(0:Int)<j:=d.1;have f:j<1073741824:=d.2;exact floordiv_int (by lia) (by rw[UD i (by lia)];exact q) (.inl (PyProof.noPylong_small (by lia)))
theorem mr:f0 X (PM .Mod) (rI (λ_ j=>0<j) λi j=> .int (i % j)):=o1 λi j _ _ _ _ _ d q=>by
 have e:(0:Int)<j:=d;exact mod_int' (by lia) (by rw[Int.fmod_eq_emod_of_nonneg i (by lia)];exact q)
theorem JJ:f0 X (PM .Pow) (rI ZS λi j=> .int (i^j.toNat)):=o1 λ_ _ _ _ _ _ _ d q=>pow_int_small d.1 d.2.1 d.2.2 q
theorem unI{f:MO->Sem MO}{g:Int->Int}
  (d:∀(i:Int) (t:Tok) (s:MQ) (Q:a0e) (E:a0e),Q (.int (g i) s.toks) {s with toks:=s.toks+1}->M0 (Nj X.prog X.w) X.A (f (.int i t)) Q E s):
  XU X f (rU λi=> .int (g i)):=by
 intro e s k H x v Q I j h;obtain⟨i,rfl,q⟩:=h;obtain⟨t,rfl⟩:=j;exact d i t s _ _ ⟨.int (g i),H,I.tok _,⟨_,rfl⟩,q⟩
theorem IC:XU X (unaryOp .USub) (rU λi=> .int (-i)):=unI λ_ _ _ _ _ q=>neg_int q
noncomputable def Ew:V->V->Bool
 | .non,.non=>MH| .non,.int _=>MH| .int _,.non=>MH| .non,.bl _=>MH| .bl _,.non=>MH| .non,.str _=>MH| .str _,.non=>MH
 | .int _,.int _=>MH| .bl _,.bl _=>MH| .str _,.str _=>MH
 | .int _,.str _=>MH| .str _,.int _=>MH| .bl _,.str _=>MH| .str _,.bl _=>MH
 |_,_=>ML
noncomputable def Yw:R2:=λx y H Q=>Ew x y=MH/\Q (.bl (decide (x=y))) H
noncomputable def Yu:R2:=λx y H Q=>Ew x y=MH/\Q (.bl (!decide (x=y))) H
theorem xt:decide (V.int i=V.int j)=(i==j):=by
 rw[Sx];simp
theorem D1{i j:Bool}:decide (V.bl i=V.bl j)=(i==j):=by
 rw[Sx];simp
theorem xq:decide (V.str i=V.str j)=(i==j):=by
 rw[Sx];simp
theorem dr{k d:Bool}(I:cy X ba f H s)(q:Q (.bl k) H)(e:k=d):EP X ba f Q (.bool d) s:=by
 subst e;exact⟨.bl k,H,I,rfl,q⟩
theorem Lw:f0 X (Od .Eq) Yw:=by
 intro f s g H x y v u Q I e d h;obtain⟨b,q⟩:=h;cases x with
 |non=>
  cases e;cases y with
  |non=>cases d;exact PySem.EqNone.eq_none_none (dr I q (by simp))
  |bl j=>cases d;exact PySem.EqNone.eq_none_bool (dr I q (by simp))
  |int j=>obtain⟨a,rfl⟩:=d;exact PySem.EqNone.eq_none_int (dr I q (by simp))
  |str j=>obtain⟨a,rfl⟩:=d;exact PySem.EqNone.eq_none_str (dr I q (by simp))
  |_=>exact Nh (show ML=MH from b) MT
 |bl i=>
  cases e;cases y with
  |non=>cases d;exact PySem.EqNone.eq_bool_none (dr I q (by simp))
  |bl j=>cases d;exact eq_bool (dr I q D1)
  |str j=>obtain⟨a,rfl⟩:=d;exact PySem.EqMixed.eq_bool_str (dr I q (by simp))
  |_=>exact Nh (show ML=MH from b) MT
 |int i=>
  obtain⟨t,rfl⟩:=e;cases y with
  |non=>cases d;exact PySem.EqNone.eq_int_none (dr I q (by simp))
  |int j=>obtain⟨a,rfl⟩:=d;exact eq_int (dr I q xt)
  |str j=>obtain⟨a,rfl⟩:=d;exact PySem.EqMixed.eq_int_str (dr I q (by simp))
  |_=>exact Nh (show ML=MH from b) MT
 |str i=>
  obtain⟨t,rfl⟩:=e;cases y with
  |non=>cases d;exact PySem.EqNone.eq_str_none (dr I q (by simp))
  |bl j=>cases d;exact PySem.EqMixed.eq_str_bool (dr I q (by simp))
  |int j=>obtain⟨a,rfl⟩:=d;exact PySem.EqMixed.eq_str_int (dr I q (by simp))
  |str j=>obtain⟨a,rfl⟩:=d;exact eq_str (dr I q xq)
  |_=>exact Nh (show ML=MH from b) MT
 |_=>cases y<;>exact Nh (show ML=MH from b) MT
theorem Lu:f0 X (Od .NotEq) Yu:=by
 intro f s g H x y v u Q I e d h;obtain⟨b,q⟩:=h;cases x with
 |non=>
  cases e;cases y with
  |non=>cases d;exact PySem.EqNone.ne_none_none (dr I q (by simp))
  |bl j=>cases d;exact PySem.EqNone.ne_none_bool (dr I q (by simp))
  |int j=>obtain⟨a,rfl⟩:=d;exact PySem.EqNone.ne_none_int (dr I q (by simp))
  |str j=>obtain⟨a,rfl⟩:=d;exact PySem.EqNone.ne_none_str (dr I q (by simp))
  |_=>exact Nh (show ML=MH from b) MT
 |bl i=>
  cases e;cases y with
  |non=>cases d;exact PySem.EqNone.ne_bool_none (dr I q (by simp))
  |bl j=>cases d;exact ne_bool (dr I q (N6 not D1))
  |str j=>obtain⟨a,rfl⟩:=d;exact PySem.EqMixed.ne_bool_str (dr I q (by simp))
  |_=>exact Nh (show ML=MH from b) MT
 |int i=>
  obtain⟨t,rfl⟩:=e;cases y with
  |non=>cases d;exact PySem.EqNone.ne_int_none (dr I q (by simp))
  |int j=>obtain⟨a,rfl⟩:=d;exact ne_int (dr I q (N6 not xt))
  |str j=>obtain⟨a,rfl⟩:=d;exact PySem.EqMixed.ne_int_str (dr I q (by simp))
  |_=>exact Nh (show ML=MH from b) MT
 |str i=>
  obtain⟨t,rfl⟩:=e;cases y with
  |non=>cases d;exact PySem.EqNone.ne_str_none (dr I q (by simp))
  |bl j=>cases d;exact PySem.EqMixed.ne_str_bool (dr I q (by simp))
  |int j=>obtain⟨a,rfl⟩:=d;exact PySem.EqMixed.ne_str_int (dr I q (by simp))
  |str j=>obtain⟨a,rfl⟩:=d;exact ne_str (dr I q (N6 not xq))
  |_=>exact Nh (show ML=MH from b) MT
 |_=>cases y<;>exact Nh (show ML=MH from b) MT
theorem iZ:f0 X (Od .Lt) (qk λi j=> .bl (decide (i<j))):=yh λ_ _ _ _ _ _ _ q=>lt_int q
theorem hX:f0 X (Od .LtE) (qk λi j=> .bl (decide (i<=j))):=yh λ_ _ _ _ _ _ _ q=>le_int q
theorem qp:f0 X (Od .Gt) (qk λi j=> .bl (decide (j<i))):=yh λ_ _ _ _ _ _ _ q=>gt_int q
theorem Gp:f0 X (Od .GtE) (qk λi j=> .bl (decide (j<=i))):=yh λ_ _ _ _ _ _ _ q=>ge_int q
theorem JM:f0 X (Od .Is) (λx y H Q=>y= .non/\Q (.bl (decide (x= .non))) H):=by
 intro d s g H x y v u Q I e f h;obtain⟨rfl,q⟩:=h;cases f;refine is_none_gen (dr I q ?_);cases x<;>first
  |(cases e;rfl)
  |(obtain⟨t,rfl⟩:=e;rfl)
theorem f0.or(h:f0 X f r)(a:f0 X f j):f0 X f (λx y H Q=>r x y H Q\/j x y H Q):=by
 intro d s e H x y v u Q I g i q;rcases q with q|q
 .exact h d s e H x y v u Q I g i q
 .exact a d s e H x y v u Q I g i q
theorem u9(b:Expr)(h:op≠ .In:=by decide)(d:op≠ .NotIn:=by decide):Rw op b=ML:=by
 have e:(op==CmpOp.In)=ML:=by cases op<;>first|rfl|exact Nh rfl h
 have f:(op==CmpOp.NotIn)=ML:=by cases op<;>first|rfl|exact Nh rfl d
 cases b<;>simp[Rw,e,f]
theorem HA(e:f0 X (Od op) r)(c:PE X a ta)(f:PE X b tb)(D:Rw op b=ML):PE X (.Compare a [op] [b] aa) (W5 r ta tb):=by
 intro d s g H Q I h;exact wpAny_Compare1 (FK c f I h λv u i x y j k l m q=>e d i g j x y v u Q k l m q) D
def xP(t:TE):TT:=λd H Q=>t d H λx e=>∃k,x= .bl k/\Q k e
theorem wP(g:f0 X (Od op) r)(D:PE X a ta)(i:PE X b tb)(E:Rw op b=ML):PT X (.Compare a [op] [b] aa) (xP (W5 r ta tb)):=by
 intro d s f H Q I h;refine wpAny_isTrue_Compare1 (d5 (D d s f H _ I h) λv j ⟨x,G,l,K,M⟩=>d5 (i d j f G _ l M) λu m ⟨y,n,o,p,S⟩=>
  d5 (g d m f n x y v u _ o K p S) λc A ⟨z,q,t,w,k,e,V⟩=>?_) E
 subst e;cases w;exact N8 ⟨q,t,V⟩
def zH(r f:R2)(ta tb tc:TE):TE:=λd H Q=>ta d H λx a=>tb d a λy g=>r x y g λz e=>∃k,z= .bl k/\
 (if k=MH then tc d e λh i=>f y h i Q else Q (.bl ML) e)
theorem EB(n:f0 X (Od op) r)(i:f0 X (Od op') r')(E:PE X a ta)(o:PE X b tb)(p:PE X c tc)
  (G:WB [op,op'] [b,c]=ML:=by with_unfolding_all rfl):PT X (.Compare a [op,op'] [b,c] aa) (xP (zH r r' ta tb tc)):=by
 intro f s g H Q I h;refine isTrue_chain (d5 (E f s g H _ I h) λv q ⟨x,K,t,M,S⟩=>test_link (d5 (o f q g K _ t S) λu w ⟨y,A,B,j,V⟩=>
  d5 (n f w g A x y v u _ B M j V) λd C ⟨z,l,m,F,k,e,D⟩=>?_)) G
 subst e;cases F;refine N8 ?_;cases k with
 |false=>
  obtain⟨k',J,L⟩:=D;cases J;exact ite_ff ⟨l,m,L⟩
 |true=>
  refine ite_tt (test_last (d5 (p f C g l _ m D) λN O ⟨P,R,T,U,q4⟩=>d5 (i f O g R y P u N _ T j U q4) λd' s5 ⟨z2,W,Y,Z,k2,e2,q5⟩=>?_));subst e2;cases Z;exact N8 ⟨W,Y,q5⟩
def FP(K:M9)(x:V)(H:Hp)(k:Bool):Prop:=
 match x with
 | .non=>k=ML
 | .bl b=>k=b
 | .int i=>k=(i !=0)
 | .str y=>y.length<=M1/\k=((y.length:Int) !=0)
 | .ref p=>(∃a,et K H p a/\k=!a.isEmpty)\/∃a,hY K H p a/\k=!a.isEmpty
 |_=>False
theorem qB(r:ar e d):(!d.toArray.isEmpty)=!e.isEmpty:=by
 cases r<;>simp
theorem mx:(M1:Nat)<2^63:=by rw[O1];decide
theorem IF:ZK X (λx H Q=>∃k,FP X.K x H k/\Q k H):=by
 intro l s n H x v Q I f h;obtain⟨k,e,q⟩:=h;have o:=mx;have E:M1=16777216:=O1;cases x with
 |non=>
  cases f;have d:k=ML:=e;subst d;exact truthy_none ⟨H,I,q⟩
 |bl b=>
  cases f;have d:k=b:=e;subst d;exact N8 ⟨H,I,q⟩
 |int i=>
  obtain⟨t,rfl⟩:=f;have d:k=(i !=0):=e;subst d;exact PySem.P.truthy_int ⟨H,I,q⟩
 |str y=>
  obtain⟨t,rfl⟩:=f;obtain⟨u,d⟩:y.length<=M1/\k=((y.length:Int) !=0):=e;subst d;exact PySem.P.truthy_str (by lia) ⟨H,I.tok _,q⟩
 |ref p=>
  cases f;have d:(∃a,et X.K H p a/\k=!a.isEmpty)\/∃a,hY X.K H p a/\k=!a.isEmpty:=e;rcases d with⟨a,j,d⟩|⟨a,j,d⟩
  .subst d
   obtain⟨c,r,D,m⟩:=I.list j;have g:=r.length;exact wpAny_truthy_list D.isList (by simp only[Nf];lia) ⟨H,I.tok _,by rw[qB r];exact q⟩
  .subst d
   obtain⟨c,r,D,m⟩:=I.tuple j;have g:=r.length;exact truthy_tuple D (by simp only[Nf];lia) ⟨H,I.tok _,by rw[qB r];exact q⟩
 |_=>exact(show False from e).elim
theorem EA(b:PE X a ta)(i:∀d,isTrue a X.env d=(do let v <-d;Qi a.pos;QI [v] (truthy v))):
  PT X a (λf H Q=>ta f H λx g=>∃k,FP X.K x g k/\Q k g):=by
 intro e s f H Q I h;exact isTrue_plain (d5 (b e s f H _ I h) λv j ⟨x,c,l,D,E⟩=>IF e j f c x v Q l D E) (i _)
theorem kO(r:ar [x] e):∃u,e=[u]/\aN x u:=by
 cases r with
 |cons a d=>cases d;exact⟨_,rfl,a⟩
theorem tP(r:ar [x,y] h):∃u d,h=[u,d]/\aN x u/\aN y d:=by
 cases r with
 |cons a e=>
  cases e with
  |cons f g=>cases g;exact⟨_,_,rfl,a,f⟩
theorem FG:dP X (.builtin "abs") (λxs H Q=>∃i,xs=[.int i]/\Q (.int (if i<0 then -i else i)) H):=by
 intro d s e H xs a Q I r h;obtain⟨i,rfl,q⟩:=h;obtain⟨u,rfl,t,rfl⟩:=kO r;exact call_abs_int λu f=>⟨.int (if i<0 then -i else i),H,I.tok _,⟨_,rfl⟩,q⟩
theorem sZ(f:X.calm=MH):dP X (.builtin "max") (λa H Q=>∃i j,a=[.int i,.int j]/\Q (.int (if j>i then j else i)) H):=by
 intro e s g H a b Q I r h;obtain⟨i,j,rfl,q⟩:=h;obtain⟨u,l,rfl,⟨t,rfl⟩,⟨c,rfl⟩⟩:=tP r;refine max_two_ints (I.ok.hd f) λD m k=>⟨_,H,I.kept k,?_,q⟩;by_cases d:j>i
 .rw[MU d,MU d];exact⟨_,rfl⟩
 .rw[MS d,MS d];exact⟨_,rfl⟩
theorem mP(f:X.calm=MH):dP X (.builtin "min") (λa H Q=>∃i j,a=[.int i,.int j]/\Q (.int (if j<i then j else i)) H):=by
 intro e s g H a b Q I r h;obtain⟨i,j,rfl,q⟩:=h;obtain⟨u,l,rfl,⟨t,rfl⟩,⟨c,rfl⟩⟩:=tP r;refine min_two_ints (I.ok.hd f) λD m k=>⟨_,H,I.kept k,?_,q⟩;by_cases d:j<i
 .rw[MU d,MU d];exact⟨_,rfl⟩
 .rw[MS d,MS d];exact⟨_,rfl⟩
structure t_ (h:NS) (x dx C:MK) (mA:a0j):Prop where
 obj:h.get? x=My (TK C dx)
 ns:h.Ns1 dx mA
 ne:dx≠x
theorem BI{h:NS}(n:h.Ns1 l mA):∃f,h.get? l=My f/\∀b,lookIn b f=My (mA b):=by
 obtain⟨o,c,G,g,D,i,_,E⟩:=n;refine⟨o,g,λb=>?_⟩;have e:=E b;unfold nsFind findBy at e;rw[<-Array.find?_toList]at e;unfold lookIn;rw[D]
 dsimp only
 split
 .rename_i y q
  rw[q]at e;exact N6 My e
 .rename_i q
  rw[q]at e;have a:c.toList.any (·.refKey)=ML:=by
   rw[TD];intro y j;obtain⟨z,t,d⟩:=i y (Array.mem_toList_iff.mp j);simp[DictEntry.refKey,d]
  have k:¬c.toList.any (·.refKey)=MH:=by rw[a];exact MT
  rw[MS k];exact N6 My e
theorem t_.look(I:t_ h x e C mA):∃d,PySem.W.InstAt h x (TK C e) C (My d)/\∀a,lookIn a d=My (mA a):=
 let ⟨d,ho,hl⟩:=BI I.ns
 ⟨d,⟨I.obj,rfl,rfl,ho⟩,hl⟩
variable{z:Ny}{w:NC}{A:NX}{E:a0e}{s:MQ}{K:M9}{x O C f:MK}{N:a0j}{c:NA}{v:MO}
theorem Ia{d:Bool}(X:K.In s.heap)(I:t_ s.heap x O C N)(g:plainGet K C c=MH)(i:hasDictIn K C=MH)
  (a:O8 K (.ref C) c=My ME) (j:N c=My v) (e:V5 v=MH) (h:Q v {s with toks:=s.toks+1}):
  M0 (Nj z w) A (getAttr (.ref x) c d) Q E s:=by
 obtain⟨l,J,k⟩:=I.look;exact PySem.W.get_value X J (plainGet_of g).1 (PySem.W.findObj_own i a rfl (by rw[k,j])) e h
theorem Fm(X:K.In s.heap)(I:t_ s.heap x O C N)(d:plainGet K C c=MH)
  (e:O8 K (.ref C) c=My (My (.ref f))) (g:isFn K (.ref f)=MH) (i:N c=ME) (h:Q (.ref f,[.ref x]) s):
  M0 (Nj z w) A (R5 (.ref x) c l) Q E s:=by
 obtain⟨j,J,k⟩:=I.look;exact PySem.W.method_fn X J (plainGet_of d).1 (plainGet_of d).2 e (beq_iff_eq.mp g) (by show(lookIn c j).map (·.isSome)=My ML;rw[k,i];rfl) h
theorem Hd{D:a0h}(X:K.In s.heap)(I:t_ s.heap x O C N)
  (G:O8 K (.ref C) "__setattr__"=My (My (.builtin "object.__setattr__"))) (l:VN K C=MH) (m:takerIn K C c=My ME) (n:hasDictIn K C=MH)
  (o:Rp N D) (p:D.length<=M1)
  (h:∀f,t_ f x O C (λy=>if y=c then My v else N y)->Nx O s.heap f->Q () {s with heap:=f,toks:=s.toks+2}):
  M0 (Nj z w) A (setAttr (.ref x) c v) Q E s:=by
 obtain⟨F,J,H⟩:=I.look;refine PySem.W.set_plain X J G (PySem.W.osa_open (s:={s with toks:=s.toks+1}) (r:=ME) X J l m λb=>?_);obtain⟨M,q,g⟩:=PySem.W.any_some n;have t:s.heap.get? x=My ⟨.ref C,My O,.plain,#[]⟩:=I.obj;refine MC (MF (MC (MC (VD t (MC (Ul (s:={s with toks:=s.toks+1}) (looks_clsIn X q) ?_))))));rw[g];refine MF (a:=My O) (MC (MF (MC ?_)));refine wpAny_nsSet1 (s:={s with toks:=s.toks+1}) I.ns λf d e=>?_;obtain⟨L,u,B,i,j,k⟩:=d.count (UL c v o);refine MC (wpAny_lookBehind i (by rw[j];exact pastItsLine_dict (Ng k (by rw[M5];lia))) ?_);exact MF (h _ ⟨(e.2 _ (Ne.symm I.ne)).trans I.obj,d,I.ne⟩ e)
theorem EZ(X:K.In s.heap)(b:Wr K C=MH)
  (e:O8 K (.ref C) "__init__"=My (My (.ref f))) (i:PySem.W.typeIn K (.ref f)=My (.type "function"))
  (h:P4 (Nj z w) (A.under (.builtin "type.__call__" ⟨.ref C::k,kw⟩)) (.call (.ref f) ⟨.ref (s.heap.objs.size+1)::k,kw⟩) (PySem.W.InitBack (s.heap.objs.size+1) R)
   {s with heap:=(s.heap.push Rr).push (TK C s.heap.objs.size)}):
  P4 (Nj z w) A (.call (.ref C) ⟨k,kw⟩) R s:=by
 obtain⟨j,g,d,t,c⟩:=s;exact PySem.W.make_core (PySem.W.makes_of X b) (Uq X e) (λa=>Wp X a i) (.inl rfl) h
noncomputable def d8(f:NA)(v:V):a0D->a0D
 |[]=>[(f,v)]
 |(g,x)::r=>if g=f then(g,v)::r else(g,x)::d8 f v r
theorem oF(f g:NA)(v:V):∀a:a0D,(d8 f v a).lookup g=if g=f then My v else a.lookup g
 |[]=>by
  show Rb g [(f,v)]=_;by_cases h:g=f
  .have d:(g==f)=MH:=beq_iff_eq.mpr h
   simp only[Rb,d,MU h]
  .have d:(g==f)=ML:=beq_eq_false_iff_ne.mpr h
   simp only[Rb,d,MS h]
 |(k,x)::r=>by
  have b:=oF f g v r;rw[show d8 f v ((k,x)::r)=(if k=f then(k,v)::r else(k,x)::d8 f v r)from rfl];by_cases i:k=f
  .rw[MU i]
   by_cases h:g=k
   .have d:(g==k)=MH:=beq_iff_eq.mpr h
    simp only[Rb,d,MU (h.trans i)]
   .have d:(g==k)=ML:=beq_eq_false_iff_ne.mpr h
    simp only[Rb,d,MS (λe:g=f=>h (e.trans i.symm))]
  .rw[MS i]
   by_cases h:g=k
   .have d:(g==k)=MH:=beq_iff_eq.mpr h
    simp only[Rb,d,MS (λe:g=f=>i (h.symm.trans e))]
   .have d:(g==k)=ML:=beq_eq_false_iff_ne.mpr h
    simp only[Rb,d];exact b
theorem mz(f:NA)(v:V):∀a:a0D,f∈(d8 f v a).map (·.1)/\∀g,g∈a.map (·.1)->g∈(d8 f v a).map (·.1)
 |[]=>⟨by simp[d8],λg h=>by simp at h⟩
 |(k,x)::r=>by
  obtain⟨i,j⟩:=mz f v r;rw[show d8 f v ((k,x)::r)=(if k=f then(k,v)::r else(k,x)::d8 f v r)from rfl];by_cases d:k=f
  .rw[MU d]
   subst d;exact⟨by simp,λg h=>by simpa using h⟩
  .rw[MS d]
   refine⟨?_,λg h=>?_⟩
   .rw[MZ]
    exact MJ _ i
   .rw[MZ]at h⊢
    rcases M4.mp h with e|e
    .exact M4.mpr (.inl e)
    .exact MJ _ (j g e)
theorem oG(f:NA)(v:V):∀a:a0D,(d8 f v a).length<=a.length+1
 |[]=>by simp[d8]
 |(k,x)::r=>by
  have b:=oG f v r;rw[show d8 f v ((k,x)::r)=(if k=f then(k,v)::r else(k,x)::d8 f v r)from rfl];by_cases d:k=f
  .rw[MU d,M5,M5];lia
  .rw[MS d,M5,M5];lia
theorem iK.some_of{v:V}(r:iK (My v) o):∃u,o=My u/\aN v u:=by
 cases o with
 |none=>exact(show False from r).elim
 |some u=>exact⟨u,rfl,r⟩
theorem iK.none_of(r:iK ME o):o=ME:=by
 cases o with
 |none=>rfl
 |some u=>exact(show False from r).elim
theorem CG{v:V}(r:aN v u):V5 u=MH:=by
 cases v with
 |non=>cases(show u=NK from r);rfl
 |bl b=>cases(show u=Ta b from r);rfl
 |int i=>obtain⟨t,e⟩:=(show ∃t,u=Qm i t from r);cases e;rfl
 |str x=>obtain⟨t,e⟩:=(show ∃t,u=WM x t from r);cases e;rfl
 |ref a=>cases(show u=M6 a from r);rfl
 |ty n=>cases(show u=QG n from r);rfl
end
section
variable{P:Ny}{w:NC}{H l:Hp}{h h':NS}{a C dx:MK}{N n:a0D}
theorem nR(l:j_ P w H h)(e:H a=My (.ins C dx N)):∃b,t_ h a dx C b/\(∀f,iK (N.lookup f) (b f))/\Rp b (N.map (·.1))/\N.length<=1000/\H dx=My (.own a):=by
 obtain⟨d,z,D,c,b,n,r,q⟩:=(show bX P w H h a (.ins C dx N)from l a _ e);exact⟨b,⟨c,n,D⟩,r,q,z,d⟩
structure r_ (K:M9) (C:MK):Prop where
 pg:plainGet K C Qe=MH
 hd:hasDictIn K C=MH
 po:VN K C=MH
 sa:O8 K (.ref C) "__setattr__"=My (My (.builtin "object.__setattr__"))
theorem r_.get{K:M9}{C:MK}(c:r_ K C)(f:NA):plainGet K C f=MH:=c.pg
noncomputable def eQ(K:M9)(C:MK)(f:NA):Prop:=O8 K (.ref C) f=My ME
theorem eQ.taker{K:M9}{C:MK}(n:eQ K C f):takerIn K C f=My ME:=by
 unfold takerIn;rw[show O8 K (.ref C) f=My ME from n];rfl
structure l0 (K:M9) (C:MK) (m:NA) (f:MK):Prop where
 at_:O8 K (.ref C) m=My (My (.ref f))
 fn:isFn K (.ref f)=MH
 kp:Sd K (.ref f)=MH
variable{X:Cx}{R:a0b}{L:St}{s:MQ}{f:NA}{v:V}{A:NX}{E:a0e}
theorem yL{b:Bool}(I:cy X R L H s)(e:H a=My (.ins C dx N))(c:r_ X.K C)(n:eQ X.K C f)(l:N.lookup f=My v)
  (h:∀u D,cy X R L H D->aN v u->Q u D):M0 (Nj X.prog X.w) A (getAttr (.ref a) f b) Q E s:=by
 obtain⟨g,O,r,_,_,_⟩:=nR I.hok e;obtain⟨u,i,d⟩:=iK.some_of (v:=v) (o:=g f) (by rw[<-l];exact r f);exact Ia I.kIn O (c.get f) c.hd n i (CG d) (h u _ (I.tok _) d)
theorem qI(I:cy X R L H s)(e:H a=My (.ins C dx N))(c:r_ X.K C)(k:l0 X.K C m g)(l:N.lookup m=ME)
  (h:Q (.ref g,[.ref a]) s):M0 (Nj X.prog X.w) A (R5 (.ref a) m pl) Q E s:=by
 obtain⟨b,O,r,_,_,_⟩:=nR I.hok e;have f:b m=ME:=iK.none_of (by rw[<-l];exact r m);exact Fm I.kIn O (c.get m) k.at_ k.fn f h
theorem x4(I:cy X R L H s)(e:H a=My (.ins C dx N))(c:r_ X.K C)(n:eQ X.K C f)(F:N.length<1000)(l:aN y u)
  (h:∀v,cy X R L (upd H a (.ins C dx (d8 f y N))) v->Q () v):M0 (Nj X.prog X.w) A (setAttr (.ref a) f u) Q E s:=by
 obtain⟨i,O,r,j,_,k⟩:=nR I.hok e;have m:(N.map (·.1)).length<=M1:=by rw[MD,O1];lia
 refine Hd I.kIn O c.sa c.po n.taker c.hd j m λh' d p=>h _ ?_;have D:∃o,h'.get? dx=My o:=let ⟨o,_,_,e',_⟩:=d.ns;⟨o,e'⟩
 refine I.write (x:=a) (e:=dx) (by rw[e];exact RF) (.inr k) (λb q t z=>(p.2 b t).trans z) D ?_;refine⟨by rw[bt O.ne];exact k,?_,O.ne,d.obj,_,d.ns,λg=>?_,λg B=>?_⟩
 .have:=oG f y N;lia
 .show iK ((d8 f y N).lookup g) (if g=f then My u else i g)
  rw[oF];by_cases q:g=f
  .rw[MU q,MU q];exact l
  .rw[MS q,MS q];exact r g
 .by_cases q:g=f
  .rw[q];exact(mz f y N).1
  .refine(mz f y N).2 g (j g λz=>B ?_)
   show(if g=f then My u else i g)=ME;rw[MS q];exact z
theorem cy.made(I:cy X R L H s):cy X R L (upd (upd H s.heap.objs.size (.own (s.heap.objs.size+1))) (s.heap.objs.size+1) (.ins C s.heap.objs.size []))
  {s with heap:=(s.heap.push Rr).push (TK C s.heap.objs.size)}:=by
 have c:(s.heap.push Rr).get? s.heap.objs.size=My Rr:=M7 s.heap rfl;have d:((s.heap.push Rr).push (TK C s.heap.objs.size)).get? (s.heap.objs.size+1)=My (TK C s.heap.objs.size):=by
  have:=M7 (s.heap.push Rr) (o:=TK C s.heap.objs.size) rfl;rwa[Og]at this
 have g:(s.heap.push Rr).Ns s.heap.objs.size (λ_=>ME):=⟨Rr,#[],_,c,rfl,(λe i=>Nh i (by simp)),λ_=>rfl⟩;have j:=I.laid (a:=s.heap.objs.size) (o:= .own (s.heap.objs.size+1)) (h':=s.heap.push Rr) (t':=s.toks) (λb u q=>MG _ q) (MW _) ⟨_,c⟩;refine j.laid (a:=s.heap.objs.size+1) (o:= .ins C s.heap.objs.size []) (t':=s.toks) (λb u q=>MG _ q) (Vi (Og _ _)) ?_;have f:s.heap.objs.size≠s.heap.objs.size+1:=NM (Sm _);refine⟨by rw[bt f,ao],N2 _,f,d,λ_=>ME,(Vf g).at λo q=>MG _ q,λ_=>RF,λy k=>Nh rfl k⟩
theorem Iu{w:NC}{f:NA}{s:MQ}(c:QS e f d (NW e d)=NW e d)
  (h:M0 (Nj prog w) A (NW e d) (λo b=>M0 (Nj prog w) A (getAttr o f MH) Q E b) E s):M0 (Nj prog w) A (NW (.Attribute e f g) d) Q E s:=
 Attribute_any_ h (by rw[arm_eval_Attribute,c])
def Yk(K:M9)(b:TE)(f:NA):TE:=λL H Q=>b L H λx h=>∃a C dx N v,x= .ref a/\h a=My (.ins C dx N)/\r_ K C/\eQ K C f/\N.lookup f=My v/\Q v h
def Jc(K:M9)(c d:TE)(f:NA):TS:=λD L H=>d L H λy h=>c L h λx b=>∃a C dx N,x= .ref a/\b a=My (.ins C dx N)/\r_ K C/\eQ K C f/\N.length<1000/\
 D.nx L (upd b a (.ins C dx (d8 f y N)))
variable{o e v:Expr}{J O d:Ri}{z T:TE}
theorem JF(b:PE X e z)(d:QS e f X.env (NW e X.env)=NW e X.env):PE X (.Attribute e f J) (Yk X.K z f):=by
 intro R s L H Q I h;refine Iu d (d5 (b R s L H _ I h) λu p ⟨x,o,g,i,a,C,dx,N,v,w,j,c,n,l,q⟩=>?_);subst w;obtain rfl:u=M6 a:=i;exact yL g j c n l λr t k m=>⟨v,o,k,m,q⟩
theorem qj(e:PE X o z)(b:PE X v T)(w:Q1 v (My (.Attribute o f O)) J.line X.env=OW ML):PS X (.Assign [.Attribute o f O] v J) (Jc X.K z T f):=by
 intro R s L H D I h;refine UB (d5 (b R s L H _ I h) λu d ⟨y,A,g,i,q⟩=>d5 (e R d L A _ g q) λj t ⟨x,B,k,m,a,C,dx,N,E,p,c,n,l,G⟩=>?_) w;subst E;obtain rfl:j=M6 a:=m;exact x4 k p c n l i λF r=>⟨L,_,r,G⟩
variable{Q:a0e}{c:MO}{b:Bool}
inductive nj (K:M9) (H:Hp):V->MO->Prop where
 |non:nj K H .non (.type "NoneType")
 |bl (x:Bool):nj K H (.bl x) (.type "bool")
 |int (i:Int):nj K H (.int i) (.type "int")
 |str (x:NA):nj K H (.str x) (.type "str")
 |lst {a:MK} {xs:a0i} (e:H a=My (.lst xs)):nj K H (.ref a) (.type "list")
 |frz {a:MK} {o:Oa} {xs:a0i} (e:H a=My (.frz o (.lst xs))):nj K H (.ref a) (.type "list")
 |tup {a:MK} {xs:a0i} (e:H a=My (.tup xs)):nj K H (.ref a) (.type "tuple")
 |ins {a C dx:MK} {N:a0D} (e:H a=My (.ins C dx N)) (cl:r_ K C) (ha:O8 K (.ref C) "__class__"=My (My (.builtin "object.__class__")))
  (hn:specialIn K (.builtin "object.__class__") "__get__"=My (My (.builtin "getset_descriptor.__get__"))) (htk:Ws K (.builtin "object.__class__")=My MH)
  (hm:mroIn K C (.type "object")=My MH):nj K H (.ref a) (.ref C)
theorem BZ(I:cy X R L H s)(d:aN x u)(f:nj X.K H x t)(e:kitOne X.K t c=My b)(h:∀j,Q (.bool b) {s with toks:=j}):
  M0 (Nj X.prog X.w) A (SC (.builtin "isinstance") [u,c]) Q E s:=by
 cases f with
 |non=>cases(show u=NK from d);exact Su PySem.W.kitx_none I.kIn RF e (λz=>nomatch z) h
 |bl y=>cases(show u=Ta y from d);exact Su PySem.W.kitx_bool I.kIn RF e (λz=>nomatch z) h
 |int i=>obtain⟨t,q⟩:=(show ∃t,u=Qm i t from d);cases q;exact Su PySem.W.kitx_int I.kIn RF e (λz=>nomatch z) h
 |str y=>obtain⟨t,q⟩:=(show ∃t,u=WM y t from d);cases q;exact Su PySem.W.kitx_str I.kIn RF e (λz=>nomatch z) h
 |@lst a xs ea=>
  cases(show u=M6 a from d);obtain⟨_,_,n,_,g⟩:=(show bX X.prog X.w H s.heap a (.lst xs)from I.hok a _ ea);exact Su kitx_list I.kIn ⟨_,g,rfl⟩ e (λz=>nomatch z) h
 |@frz a ob xs ea=>
  cases(show u=M6 a from d);obtain⟨_,_,_,n,_,g⟩:=(show bX X.prog X.w H s.heap a (.frz ob (.lst xs))from I.hok a _ ea);exact Su kitx_list I.kIn ⟨_,g,rfl⟩ e (λz=>nomatch z) h
 |@tup a xs ea=>
  cases(show u=M6 a from d);obtain⟨_,_,_,p⟩:=(show bX X.prog X.w H s.heap a (.tup xs)from I.hok a _ ea);obtain⟨o,g,k,_⟩:=p;exact Su Vm I.kIn ⟨o,g,k⟩ e (λz=>nomatch z) h
 |@ins a C dx N ea cl ha hn htk hm=>
  cases(show u=M6 a from d);obtain⟨l,O,_⟩:=nR I.hok ea;obtain⟨m,J,_⟩:=O.look;exact Su (PySem.W.kitx_own (cl.get _) cl.hd ha hn htk hm) I.kIn J e (λz=>nomatch z) h
structure d4 (k:Nat) (A:NX):Prop where
 hd:A.handled=ME
 dp:A.depth+3*k+5<recursionLimit
 un:A.units+16*k+200<Sa
 gd:A.guards=My []
theorem d4.mono{A:NX}(r:d4 k A)(h:j<=k):d4 j A:=⟨r.hd,by have:=r.dp;lia,by have:=r.un;lia,r.gd⟩
theorem d4.deeper{A:NX}(r:d4 (k+1) A)(a:TZ):d4 k (A.deeper a):=
 ⟨r.hd,by have:=r.dp;show A.depth+1+3*k+5<_;lia,by have:=r.un;show A.units+3+16*k+200<_;lia,r.gd⟩
theorem yw{A:NX}{C:MK}:(A.under (.builtin "type.__call__" ⟨.ref C::g,kw⟩)).depth=A.depth+1:=by
 first|rfl|simp[Te,Code.weight,Code.isCreation,Code.isGuard,Code.isCaller,Code.frames,U9,guardIds]
theorem yv{A:NX}{C:MK}:(A.under (.builtin "type.__call__" ⟨.ref C::g,kw⟩)).units=A.units+1:=by
 first|rfl|simp[Te,Code.cUnits,Code.frames,U9]
theorem d4.make{A:NX}(r:d4 (k+1) A)(C:MK)(a:a0f)(d:List (NA×MO)):d4 k (A.under (.builtin "type.__call__" ⟨.ref C::a,d⟩)):=
 ⟨r.hd,by have:=r.dp;rw[yw];lia,by have:=r.un;rw[yv];lia,by first|exact r.gd|simp[Te,Code.guards,Code.isGuard,guardIds,pushGuards,r.gd]⟩
theorem d4.depth{A:NX}(r:d4 k A):A.depth<recursionLimit:=by have:=r.dp;lia
theorem d4.units{A:NX}(r:d4 k A):A.units+64<Sa:=by have:=r.un;lia
noncomputable def En:TA:=λ_ H Q=>Q [] H
def Gc(z:TE)(a:TA):TA:=λL H Q=>z L H λx b=>a L b λc d=>Q (x::c) d
variable{a:List Expr}{c:TE}{t:TA}
theorem f8:PA X [] En:=λ_ _ _ _ H Q I h=>Wf ⟨[],H,I,.nil,h⟩
theorem b9(b:PE X e c)(d:PA X a t)(f:b0a X e a:=by rfl):PA X (e::a) (Gc c t):=by
 intro J R s L H Q I h;rw[f];show M0 _ _ (spliced ((ML,NW e X.env)::OO J (MY a X.env))) _ _ s;refine VT (d5 (b R s L H _ I h) λu g ⟨x,n,i,o,v⟩=>?_);exact d5 (d J R g L n _ i v) λA m ⟨w,j,k,l,z⟩=>⟨x::w,j,k,.cons o l,z⟩
def Yd(t:TA):TE:=λL H Q=>t L H λa b=>a.length<=M1/\∀p,b p=ME->Q (.ref p) (upd b p (.tup a))
def IL(t:TA):TE:=λL H Q=>t L H λa b=>a.length<=M1/\∀p,b p=ME->Q (.ref p) (upd b p (.lst a))
theorem JB{k}(h:PA X a t):PE X (.Tuple a k J) (Yd t):=by
 intro R s L H Q I i;refine wpAny_Tuple_spliced (d5 (h J R s L H _ I i) λf d ⟨l,c,g,r,z,q⟩=>⟨by rw[<-r.length];exact z,?_⟩);have j:c d.heap.objs.size=ME:=g.hok.fresh (MW _);refine⟨.ref d.heap.objs.size,upd c d.heap.objs.size (.tup l),g.laid (t':=d.toks) (λb u e=>MG _ e) (MW _) ?_,rfl,q _ j⟩;exact⟨z,f,r,⟨_,M7 _ rfl,rfl,_,rfl⟩⟩
theorem gz(h:PA X a t):PE X (.List a J) (IL t):=by
 intro R s L H Q I i;refine wpAny_List_spliced (d5 (h J R s L H _ I i) λf d ⟨l,c,g,r,z,q⟩=>⟨by rw[<-r.length];exact z,?_⟩);have j:c d.heap.objs.size=ME:=g.hok.fresh (MW _);refine⟨.ref d.heap.objs.size,upd c d.heap.objs.size (.lst l),g.laid (t':=d.toks) (λb u e=>MG _ e) (MW _) ?_,rfl,q _ j⟩;exact⟨z,f,0,r,M7 _ rfl⟩
abbrev Sp:=a0i->Hp->VK->XK->Prop
abbrev E_:=a0C->Hp->MQ->XK->MO->MQ->Prop
structure up (P:Ny) (w:NC) (K:M9) (mg:a0j) (base:NS) (A:NX) (outer:a0C) (s:MQ) (H:Hp):Prop where
 frames:A.frames=My outer
 mod:Mod K mg base
 bs:∀b o,base.get? b=My o->s.heap.get? b=My o/\H b=ME
 bsz:base.objs.size<=s.heap.objs.size
 funs:s.heap.FunFrames base outer
 frf:∀b∈eX outer,H b=ME
 hok:j_ P w H s.heap
 bare:RU s.gens
def CE(a:a0C)(P:Ny)(w:NC)(H:Hp)(s:MQ)(Q:VK)(u:MO)(b:MQ):Prop:=
 ∃v l,b.os=s.os/\RU b.gens/\Un (eX a) [] H l s.heap b.heap/\j_ P w l b.heap/\aN v u/\Q v l
def CR(c:E_)(a:a0C)(P:Ny)(w:NC)(H:Hp)(s:MQ)(Q:VK)(E:XK)(r:Result)(b:MQ):Prop:=
 match r with
 | .ok (.ret u)=>CE a P w H s Q u b
 | .ok _=>False
 | .error e=>c a H s E e b
structure eg (P:Ny) (w:NC) (K:M9) (mg:a0j) (base:NS) (CX:E_) (k:Nat) (f:MK) (fd:Nk) (ps:a0h) (sp:Sp):Prop where
 len:∀vs H Q E,sp vs H Q E->vs.length=ps.length
 run:∀(A:NX) (outer:a0C) (s:MQ) (H:Hp) (args:Args) (us:a0f) (vs:a0i) (Q:VK) (E:XK),d4 k A->up P w K mg base A outer s H->Tu s fd args (ps.zip us)->ar vs us->sp vs H Q E->
  P4 (Nj P w) A (.call (.ref f) args) (CR CX outer P w H s Q E) s
theorem up.make{P:Ny}{w:NC}{K:M9}{A:NX}{s:MQ}{H:Hp}(e:up P w K j i A g s H)(C:MK)(a:a0f)(d:List (NA×MO)):
  up P w K j i (A.under (.builtin "type.__call__" ⟨.ref C::a,d⟩)) g s H:=⟨by first|exact e.frames|(simpa[Te,Code.envs,U9,pushEnvs]using e.frames),e.mod,e.bs,e.bsz,e.funs,e.frf,e.hok,e.bare⟩
variable{a:MQ}
theorem cy.env0(I:cy X R L H s):up X.prog X.w X.K X.mg X.base X.A X.stack s H:=
 ⟨I.ok.frames,I.ok.mod,I.bs,Ng I.ok.bsz I.sz,I.stack,I.stkFree,I.hok,I.bare⟩
theorem cy.after{Q:VK}(I:cy X R L H s)(h:CE X.stack X.prog X.w H s Q u a):EP X R L Q u a:=by
 obtain⟨v,l,f,c,n,e,r,q⟩:=h;obtain⟨j,g,d,t,i⟩:=a;obtain rfl:i=s.os:=f;exact⟨v,l,I.call (h':=j) (g':=g) (d':=d) (t':=t) (ch:=[]) n e c (λb z=>Nh z (by simp)),r,q⟩
def Gd(a:Sp)(d:a0i)(E:a0r)(t:TA):TE:=λL H Q=>t L H λb c=>a (b++d) c Q (E L)
def xQ(C:MK)(m:NA)(c:Sp)(d:a0i)(E:a0r)(z:TE)(t:TA):TE:=λL H Q=>z L H λx b=>∃a dx N,x= .ref a/\b a=My (.ins C dx N)/\N.lookup m=ME/\
 t L b λe g=>c (x::(e++d)) g Q (E L)
def ci(K:M9)(d:Nk)(b:a0h)(c:a0f):Prop:=
 ∀(s:MQ) (a:a0f),K.In s.heap->(a++c).length=b.length->Tu s d ⟨a,[]⟩ (b.zip (a++c))
theorem ci.all{K:M9}{a:a0h}(h:∀us:a0f,us.length=a.length->bindArgs g ⟨us,[]⟩=OW (a.zip us)):ci K g a []:=λs us _ d=>by
 rw[NJ]at d⊢;exact .of_eq (h us d)
def cc(b:E_)(X:Cx)(E:a0r):Prop:=∀(R:a0b) (L:St) (H:Hp) (s:MQ) (e:MO) (a:MQ),cy X R L H s->b X.stack H s (E L) e a->X.xe e a
end
section
variable{X:Cx}{CX:E_}{k:Nat}{f C:MK}{fd:Nk}{ps:a0h}{sp:Sp}{U:a0i}{ds:a0f}{E:a0r}{x m:NA}{p z Y:Ri}{e o:Expr}{Z:List Expr}{ta:TE}{t:TA}
theorem qe(F:eg X.prog X.w X.K X.mg X.base CX k f fd ps sp)(c:d4 k X.A)(d:ci X.K fd ps ds)(m:ar U ds)(g:cc CX X E)
  (I:cy X ba j H s) (r:ar vs us) (h:sp (vs++U) H Q (E j)):M0 (Nj X.prog X.w) X.A (SC (.ref f) us) (EP X ba j Q) X.xe s:=by
 have b:ar (vs++U) (us++ds):=r.append m;have i:(us++ds).length=ps.length:=by rw[<-b.length];exact F.len _ _ _ _ h
 refine Se (QH (F.run X.A X.stack s H ⟨us,[]⟩ (us++ds) (vs++U) Q (E j) c I.env0 (d s us I.kIn i) b h) λr o a=>?_);cases r with
 |error e=>exact g ba j H s e o I a
 |ok fl=>
  cases fl with
  |ret u=>exact I.after a
  |next=>exact OS a
  |brk=>exact OS a
  |cont=>exact OS a
theorem nk(F:eg X.prog X.w X.K X.mg X.base CX k f fd ps sp)(g:d4 k X.A)(i:Gl X x)(m:X.mg x=My (.ref f))(j:Sd X.K (.ref f)=MH)(l:ci X.K fd ps ds)(o:ar U ds)(n:cc CX X E)
  (C:PA X (e::Z) t) (b:b0c x:=by decide) (u:b0a X e Z:=by rfl) (c:b0b X z Z:=by rfl):
  PE X (.Call (.Name x p) (e::Z) [] z) (Gd sp U E t):=by
 intro a s v H Q I h;refine QY (i9 I i m ?_ b);refine Vp (h₀:=X.base) I.ok.mod.kin j (d5 (C z a s v H _ I h) λD y ⟨G,M,d,r,q⟩=>⟨d.kIn,?_⟩) u c;exact qe F g l o n d r q
theorem Hx(v:PE X o ta)(c:r_ X.K C)(p:l0 X.K C m f)(F:eg X.prog X.w X.K X.mg X.base CX k f fd ps sp)(y:d4 k X.A)(B:ci X.K fd ps ds)(D:ar U ds)(J:cc CX X E)(G:PA X (e::Z) t)
  (d:b0a X e Z:=by rfl) (g:b0b X z Z:=by rfl)
  (L:NW (.Call (.Attribute o m Y) (e::Z) [] z) X.env=(do
   let W <-NW o X.env
   Qi Y.atName
   let (f,first) <-QI [W] (R5 W m pl)
   Um z f first (OO z (MY (e::Z) X.env)) (PL z (OJ [] X.env))):=by rfl):
  PE X (.Call (.Attribute o m Y) (e::Z) [] z) (xQ C m sp U E ta t):=by
 intro b s i H Q I h;refine TX (pl:=pl) (d5 (v b s i H _ I h) λu N ⟨x,M,j,O,a,dx,fs,S,P,l,q⟩=>?_) L;subst S;obtain rfl:u=M6 a:=O;refine qI j P c p l ?_;refine Vp (first:=[.ref a]) (h₀:=X.base) I.ok.mod.kin p.kp (d5 (G z b N i M _ j q) λus R ⟨vs,T,n,r,V⟩=>⟨n.kIn,?_⟩) d g
 exact qe (us:= .ref a::us) (vs:= .ref a::vs) F y B D J n (.cons rfl r) V
theorem EK(g:PE X o ta)(c:r_ X.K C)(e:l0 X.K C m f)(F:eg X.prog X.w X.K X.mg X.base CX k f fd ps sp)(i:d4 k X.A)(j:ci X.K fd ps ds)(p:ar U ds)(n:cc CX X E)
  (r:NW (.Call (.Attribute o m Y) [] [] z) X.env=(do
   let L <-NW o X.env
   Qi Y.atName
   let (f,first) <-QI [L] (R5 L m pl)
   Um z f first (OO z (MY [] X.env)) (PL z (OJ [] X.env))):=by rfl):
  PE X (.Call (.Attribute o m Y) [] [] z) (xQ C m sp U E ta En):=by
 intro b s v H Q I h;refine TX (pl:=pl) (d5 (g b s v H _ I h) λu J ⟨x,D,d,y,a,G,M,t,B,l,q⟩=>?_) r;subst t;obtain rfl:u=M6 a:=y;refine qI d B c e l ?_;exact PySem.W.callWith_K0 (first:=[.ref a]) d.kIn e.kp (qe (us:=[.ref a]) (vs:=[.ref a]) F i j p n d (.cons rfl .nil) q)
structure Mk (K:M9) (C f:MK):Prop where
 makes:Wr K C=MH
 init:O8 K (.ref C) "__init__"=My (My (.ref f))
 fn:isFn K (.ref f)=MH
 kp:Sd K (.ref C)=MH
def PK(X:Cx)(b:List TC)(t:TA):Prop:=
 ∀(z:Ri) (a:a0b) (s:MQ) (c:St) (H:Hp) (Q:a0i->Hp->Prop),cy X a c H s->t c H Q->M0 (Nj X.prog X.w) X.A (evalAll ((PL z (OJ b X.env)).map (·.2))) (AP X a c Q) X.xe s
variable{a:a0h}{k:Ri}{f:List TC}{m:TE}{o:TA}{q:Option NA}
theorem Jt:PK X [] En:=λ_ _ _ _ H Q I h=>wpAny_evalAll_nil ⟨[],H,I,.nil,h⟩
theorem Hr(o:PE X e m)(c:PK X f t):PK X (⟨q,e,k⟩::f) (Gc m t):=by
 intro z a s b H Q I h;show M0 _ _ (evalAll ((do let v <-NW e X.env;Qi z;OW v)::(PL z (OJ f X.env)).map (·.2))) _ _ s
 refine wpAny_evalAll_cons (MC (d5 (o a s b H _ I h) λu d ⟨x,p,g,C,D⟩=>MC (OQ (MF ?_))));exact d5 (c z a d b p _ g D) λK n ⟨E,i,j,l,G⟩=>⟨x::E,i,j,.cons C l,G⟩
structure D_ (K:M9) (fd:Nk) (ps a:a0h) (g:a0f->a0f->a0f) (gV:a0i->a0i->a0i):Prop where
 to:∀(s:MQ) (us ws:a0f),K.In s.heap->(g us ws).length=ps.length->Tu s fd ⟨us,a.zip ws⟩ (ps.zip (g us ws))
 rel:∀{vs:a0i} {us:a0f} {zs:a0i} {ws:a0f},ar vs us->ar zs ws->ar (gV vs zs) (g us ws)
variable{g:a0f->a0f->a0f}{a:a0i->a0i->a0i}
structure b4 (N P:a0h) (sc:Scope):Prop where
 kind:sc.kind= .function
 co:sc.isCoroutine=ML
 gen:sc.isGenerator=ML
 nd:N.Nodup
 pre:N.take P.length=P
 par:∀x∈P,sc.names.lookup x=My .local\/sc.names.lookup x=My .cell
 nofree:∀y∈sc.names,y.2≠ .free
theorem tj{b:NA->Option Qw}{x:NA}:∀{a:List (NA×MO)} {m:a0j},(∀v,(x,v)∉a)->Wx b a m x=m x
 |[],_,_=>rfl
 |(n,v)::r,m,h=>by
  unfold Wx;rw[tj λw c=>h w (MJ _ c)];split
  .have:x≠n:=by rintro rfl;exact h v MP
   simp[this]
  .rfl
theorem tu{b:NA->Option Qw}{x:NA}:∀{a:List (NA×MO)} {m:a0j},(∀v,(x,v)∉a)->Ww b a m x=m x
 |[],_,_=>rfl
 |(n,v)::r,m,h=>by
  unfold Ww;rw[tu λw c=>h w (MJ _ c)];split
  .rfl
  .have:x≠n:=by rintro rfl;exact h v MP
   simp[this]
theorem tq{a:NA->Option Qw}{x:NA}{v:MO}:∀{P:a0h} {e:a0f} {i:Nat} {m:a0j},P.Nodup->P[i]?=My x->e[i]?=My v->a x=My .local->
  Wx a (P.zip e) m x=My v
 |[],_,_,_,_,h,_,_=>by simp at h
 |_::_,[],_,_,_,_,h,_=>by simp at h
 |p::P,w::e,0,m,nd,h1,h2,hk=>by
  simp at h1 h2;subst h1;subst h2;show Wx a ((p,w)::P.zip e) m p=_;unfold Wx;rw[tj λv b=>(Nz.mp nd).1 (Uc b).1,MU hk];simp
 |p::P,w::e,i+1,m,nd,h1,h2,hk=>by
  show Wx a ((p,w)::P.zip e) m x=_;unfold Wx;exact tq (i:=i) (Nz.mp nd).2 (by simpa using h1) (by simpa using h2) hk
theorem tw{a:NA->Option Qw}{x:NA}{v:MO}:∀{P:a0h} {e:a0f} {i:Nat} {m:a0j},P.Nodup->P[i]?=My x->e[i]?=My v->a x≠My .local->
  Ww a (P.zip e) m x=My v
 |[],_,_,_,_,h,_,_=>by simp at h
 |_::_,[],_,_,_,_,h,_=>by simp at h
 |p::P,w::e,0,m,nd,h1,h2,hk=>by
  simp at h1 h2;subst h1;subst h2;show Ww a ((p,w)::P.zip e) m p=_;unfold Ww;rw[tu λv b=>(Nz.mp nd).1 (Uc b).1,MS hk];simp
 |p::P,w::e,i+1,m,nd,h1,h2,hk=>by
  show Ww a ((p,w)::P.zip e) m x=_;unfold Ww;exact tw (i:=i) (Nz.mp nd).2 (by simpa using h1) (by simpa using h2) hk
noncomputable def fK(N:a0h)(a:a0i):St:=a.map My++Nd (N.length-a.length) ME
noncomputable def dz(CX:E_)(P:Ny)(w:NC)(K:M9)(mg:a0j)(base:NS)(N:a0h)(a:NA)(g:Scope)(f:MK)(k:MO)(A:NX)(outer:a0C)(s:MQ)(H:Hp)(E:XK):Cx where
 prog:=P
 w:=w
 K:=K
 mg:=mg
 base:=base
 A:=A.deeper (QR a g s.heap.objs.size f k)
 N:=N
 s₀:=s
 H₀:=H
 env:=QR a g s.heap.objs.size f k
 outer:=outer
 stack:=QR a g s.heap.objs.size f k::outer
 ex:=[]
 calm:=MH
 fn:=λ_=>MH
 pn:=[]
 xe:=λe m=>M0 (Nj P w) (A.deeper (QR a g s.heap.objs.size f k)) (leaving (QR a g s.heap.objs.size f k) e) (λ_ b=>CX outer H s E e b) (λc b=>CX outer H s E c b) m
theorem vZ{a:Scope}{x:NA}(h:a.names.lookup x=My .cell):∃c,(OG n a.names []).lookup x=My c:=by
 have q:=Vr a.names n [] (.inl h);exact Uy.mp q
theorem CB{CX:E_}{K:M9}{N ps:a0h}{g:Scope}{f:MK}{A:NX}{s L:MQ}{E:XK}{m:a0i}
  (S:b4 N ps g) (t:A.handled=ME) (j:up P w K mg base A outer s H) (U:m.length=ps.length) (r:ar m us)
  (x:InCallC s s.heap.objs.size (Wx (QR qual g s.heap.objs.size f cd).kindOf (ps.zip us) λ_=>ME) (OG (s.heap.objs.size+1) g.names []) (Ww (QR qual g s.heap.objs.size f cd).kindOf (ps.zip us) λ_=>ME) L):
  cy (dz CX P w K mg base N qual g f cd A outer s H E) [] (fK N m) H L:=by
 have R:ps.length<=N.length:=by have:=N6 SR S.pre;rw[PP]at this;lia
 obtain⟨I,o,rfl,O⟩:=x.done;have l:∀b:MK,b∉(dz CX P w K mg base N qual g f cd A outer s H E).ex:=λb z=>Nh (show b∈([]:a0n)from z) (by simp);refine⟨⟨j.mod,S.kind,rfl,rfl,MW _,λy z c I d=>?_,λy hy=>?_,λy c _ h=>?_,λ_=>t,Around.frames_deeper j.frames,.inr ⟨rfl,rfl⟩,λb z=>Nh z (l b),j.bs,j.bsz,λb _ _=>l b,λb z=>Nh z (l b),j.funs,j.frf⟩,
  rfl,j.bare,Un.kept O,⟨_,x.toInCall.ns,λi y v I d W=>?_⟩,λy c h=>⟨_,x.cell y c h⟩,j.hok.fresh (MW _),λy c h=>?_,λp B=>Nh (show p∈([]:a0b)from B) (by simp),j.hok.kept O,?_⟩
 .exact name_of_addr x.apart (Ol I) (Ol d)
 .have hy:g.names.lookup y=My .cell\/g.names.lookup y=My .free:=hy
  rcases hy with hy|hy
  .exact vZ hy
  .exact Nh rfl (S.nofree _ (Ol hy))
 .exact Sz (x.above y c (Ol h))
 .have J:i<m.length:=by
   unfold fK at d;by_cases J:i<m.length
   .exact J
   .rw[OU (by simpa using J)]at d
    rw[O7]at d;split at d<;>cases d
  have C:m[i]?=My v:=by
   unfold fK at d;rw[Qv (by simpa using J),MM]at d;cases e:m[i]? with
   |none=>rw[e]at d;cases d
   |some a=>rw[e]at d;cases d;rfl
  obtain⟨u,Q,T⟩:=r.get C;have B:ps[i]?=My y:=by
   rw[<-S.pre,US (by lia)];exact I
  have F:ps.Nodup:=by rw[<-S.pre];exact S.nd.sublist (List.take_sublist _ _)
  refine⟨u,T,?_⟩;rcases S.par y (M2 B)with k|k
  .exact .inl ⟨k,tq F B Q k⟩
  .obtain⟨c,e⟩:=vZ (n:=s.heap.objs.size+1) k
   refine .inr ⟨.inl k,c,e,?_⟩;have q:=x.cell y c e;rw[tw F B Q (by show g.names.lookup y≠_;rw[k];decide)]at q;exact q
 .exact j.hok.fresh (Sz (x.above y c (Ol h)))
 .unfold fK
  show _=N.length;rw[Nb,MD,Oz];lia
theorem yR{CX:E_}{K:M9}{k:Nat}{f:MK}
  {N ps:a0h} {sp:Sp} (T:K.lookup f=My ⟨oc,od,.func (QP name qual params body scope dV kV doc pm an cdv ct),osl⟩) (B:Ro K cdv qual=MH) (S:b4 N ps scope)
  (z:∀m H Q E,sp m H Q E->m.length=ps.length)
  (d:∀(A:NX) (g:a0C) (s:MQ) (H:Hp) (m:a0i) (Q:VK) (E:XK),d4 k (A.deeper (QR qual scope s.heap.objs.size f cdv))->sp m H Q E->
   ∃t,PSs (dz CX P w K mg base N qual scope f cdv A g s H E) body t/\t {nx:=λ_ c=>Q .non c,rt:=Q} (fK N m) H):
  eg P w K mg base CX (k+1) f (QP name qual params body scope dV kV doc pm an cdv ct) ps sp:=by
 refine⟨z,λA g s H G M m Q E F i U r j=>?_⟩;have Y:=z _ _ _ _ j;have O:K.In s.heap:=i.mod.kin.keeps λb o e=>(i.bs b o e).1;have C:s.heap.NoLimit:=i.mod.nolimit.keeps λb o e=>(i.bs b o e).1;have h:∀y∈ps.zip M,scope.names.lookup y.1=My .local\/(scope.names.lookup y.1=My .cell/\((OG (s.heap.objs.size+1) scope.names []).lookup y.1).isSome=MH):=λ⟨n,v⟩ Z=>by
  rcases S.par n (Uc Z).1 with q|q
  .exact .inl q
  .exact .inr ⟨q,Vr _ _ _ (.inl q)⟩
 refine codeAny_call_function F.depth (O _ _ T) rfl S.co S.gen rfl (PySem.W.codeRec_of O B) (U _ _ _ _ ?_);refine wpAny_newFunctionEnv_cells S.kind h λX he R x=>?_;subst he;refine⟨C.keeps x.toInCall.keep,codeAny_func ?_⟩;obtain⟨t,ht,hq⟩:=d A g s H m Q E (F.deeper _) j;have I:cy (dz CX P w K mg base N qual scope f cdv A g s H E) [] (fK N m) H R:=CB S F.hd i Y r x;refine NI (ht [] R (fK N m) H _ I hq) (λfl D p=>?_) λe D p=>p;have l:∀{a:St} {c:Hp} {v:V} {u:MO},cy (dz CX P w K mg base N qual scope f cdv A g s H E) [] a c D->aN v u->Q v c->CE g P w H s Q u D:=
  λ{a c v u} J L q=>⟨v,c,J.os,J.bare,J.base,J.hok,L,q⟩
 cases fl with
 |ret u=>
  obtain⟨v,a,c,J,L,q⟩:=p;exact l J L q
 |next=>
  obtain⟨a,c,J,q⟩:=p;exact l (v:=V.non) (u:=NK) J rfl q
 |brk=>
  obtain⟨_,_,_,q⟩:=p;exact OS q
 |cont=>
  obtain⟨_,_,_,q⟩:=p;exact OS q
variable{f T:String}{r:a0F}
def Yl(r:a0F)(t:TA):TE:=λa H Q=>t a H λe f=>r e f Q
theorem kX(i:dP X (.builtin f) r)(j:Gl X x)(g:X.mg x=ME)(l:Qh x=My (.builtin f))(k:PA X (e::Z) t)(m:x≠"__name__":=by decide)(b:b0c x:=by decide)
  (n:b0a X e Z:=by rfl) (c:b0b X z Z:=by rfl):PE X (.Call (.Name x p) (e::Z) [] z) (Yl r t):=by
 intro a s d H Q I h;refine QY (f9 I j g l ?_ m b);exact SS (d5 (k z a s d H _ I h) λo q ⟨C,D,u,E,G⟩=>i a q d D C o Q u E G) n c
theorem sI(i:dP X (.type T) r)(j:Gl X x)(f:X.mg x=ME)(l:Qh x=My (.type T))(g:PA X (e::Z) t)(k:x≠"__name__":=by decide)(b:b0c x:=by decide)
  (n:b0a X e Z:=by rfl) (c:b0b X z Z:=by rfl):PE X (.Call (.Name x p) (e::Z) [] z) (Yl r t):=by
 intro a s d H Q I h;refine QY (f9 I j f l ?_ k b);exact Ot (d5 (g z a s d H _ I h) λm q ⟨o,C,u,D,E⟩=>i a q d C o m Q u D E) n c
end
end L2
namespace HT
section
open PySem.SeqAt
open PySem.AutoSeq1 (wpAny_loadPart')
open PySem.MeetsSeq PySem.MeetsSeq2 PySem.MeetsSeq3
end
section
variable{x:Ny}{w:NC}{A:NX}{E:a0e}{s:MQ}
theorem cat_tup{D a:a0f}(u:IsTup s.heap t D.toArray)(v:IsTup s.heap b a.toArray)(m:D≠[])
  (y:a=[]->Q (.ref t) s) (B:a≠[]->Q (.ref s.heap.objs.size) {s with heap:=s.heap.push {cls:= .type "tuple",data:= .seq (D++a).toArray}})
  (k:D.length+a.length<=M1):M0 (Nj x w) A (PM .Add (.ref t) (.ref b)) Q E s:=by
 obtain⟨⟨cls,G,data,o⟩,i,p,n,K⟩:=id u;obtain⟨⟨q,d,l,f⟩,c,g,r,h⟩:=id v;simp only at p K g h;subst p K g h;have e:D.toArray++a.toArray=(D++a).toArray:=by simp
 by_cases j:a=[]
 .exact concat_meets ⟨_,i,rfl⟩ ⟨_,c,rfl⟩ UN V9 R8 RY (RK _ _)
   (tuple_addW1 t b D.toArray a.toArray n r G d o f (by simpa using m) (by simp[j])) ⟨i,c,y j⟩
 .refine concat_meets ⟨_,i,rfl⟩ ⟨_,c,rfl⟩ UN V9 R8 RY (RK _ _)
   (tuple_addW2 t b D.toArray a.toArray n r G d o f (by simpa using m) (by simpa using j) (by rw[Nf,Nf];exact k)) ⟨i,c,?_⟩
  rw[e];exact B j
noncomputable def sIx(n d:Nat):a0u->Nat
 |none=>d
 |some v=>if v<0 then(v+(n:Int)).toNat else Rx v.toNat n
theorem sIx_none(n d:Nat):sIx n d ME=d:=rfl
theorem sIx_nat(n d k:Nat):sIx n d (My (k:Int))=Rx k n:=by
 show(if(k:Int)<0 then((k:Int)+(n:Int)).toNat else Rx (k:Int).toNat n)=Rx k n;rw[MS (by lia),Oh]
end
end HT
namespace L2
abbrev TO:=St->Hp->(a0u->Hp->Prop)->Prop
def PO(X:Cx)(e:Option Expr)(t:TO):Prop:=
 ∀(a:a0b) (s:MQ) (b:St) (H:Hp) (Q:a0u->Hp->Prop),cy X a b H s->t b H Q->
  M0 (Nj X.prog X.w) X.A (evalPart e X.env) (λu D=>∃o c,cy X a b c D/\IsPart u o/\Q o c) X.xe s
noncomputable def G8:TO:=λ_ H Q=>Q ME H
def Lf(t:TE):TO:=λa H Q=>t a H λx D=>∃i,x= .int i/\Q (My i) D
theorem qF{D:a0c}:∀{E:a0f},ar (D.map V.int) E->Va E D:=by
 induction D with
 |nil=>intro E r;rw[Pb]at r;cases r;exact .nil
 |cons n D G=>
  intro E r;rw[MZ]at r;cases r with
  |cons K a=>
   obtain⟨t,e⟩:=K;subst e;exact .cons n t (G a)
section
variable{X:Cx}{e:Expr}{Z:TE}{U Y:Option Expr}{tl th:TO}{aa p2:Ri}
theorem wT:PO X ME G8:=by
 intro a s b H Q I h;rw[V8];exact MF ⟨ME,H,I,.none,h⟩
theorem wS(h:PE X e Z):PO X (My e) (Lf Z):=by
 intro a s b H Q I c;rw[evalPart_some];refine d5 (h a s b H _ I c) λu f ⟨x,D,d,E,G⟩=>?_;obtain⟨i,rfl,q⟩:=G;obtain⟨t,rfl⟩:=E;exact⟨My i,D,d,.int i t,q⟩
def SlR(X:Cx)(r:V->a0u->a0u->Hp->VK->Prop):Prop:=
 ∀(a:a0b) (s:MQ) (b:St) (H:Hp) (x:V) (v c d:MO) (U Y:a0u) (f:MK) (Q:VK),cy X a b H s->aN x v->s.heap.IsSliceOf f c d .none->IsPart c U->IsPart d Y->r x U Y H Q->
  ∃T g,typeLookup (.type T) "__getitem__"=OW (My (.builtin g))/\s.TypeIs v T/\M0 (Nj X.prog X.w) X.A (getItem v (.ref f)) (EP X a b Q) X.xe s
def tSl(r:V->a0u->a0u->Hp->VK->Prop)(Z:TE)(tl th:TO):TE:=λa H Q=>Z a H λx e=>tl a e λl b=>th a b λu c=>r x l u c Q
theorem uX(j:SlR X r)(k:PE X e Z)(m:PO X U tl)(n:PO X Y th):PE X (.Subscript e (.Slice U Y ME p2) aa) (tSl r Z tl th):=by
 intro a s d H Q I h;refine Subscript_ (d5 (k a s d H _ I h) λv o ⟨x,D,p,E,G⟩=>?_);refine wpAny_Slice (d5 (m a o d D _ p G) λf t ⟨l,y,B,K,M⟩=>d5 (n a t d y _ B M) λg c ⟨u,i,C,F,S⟩=>?_);rw[V8];refine MF ?_;have J:cy X a d i {c with heap:=c.heap.push {cls:= .type "slice",data:= .fields #[f,g,.none]}}:=C.kept (t':=c.toks) λb P q=>MG _ q;obtain⟨T,R,L,N,O⟩:=j a {c with heap:=c.heap.push {cls:= .type "slice",data:= .fields #[f,g,.none]}} d i x v f g l u c.heap.objs.size Q J E (Ua ..) K F S;show M0 (Nj X.prog X.w) X.A (Wb e (.Slice U Y ME p2) v (.ref c.heap.objs.size)) (EP X a d Q) X.xe {c with heap:=c.heap.push {cls:= .type "slice",data:= .fields #[f,g,.none]}};exact tail_any (ops:=[.ref c.heap.objs.size,v]) N L O (by with_unfolding_all rfl)
noncomputable def mJ(e:a0i)(U Y:a0u):a0i:=(e.drop (HT.sIx e.length 0 U)).take (HT.sIx e.length e.length Y-HT.sIx e.length 0 U)
theorem wg(e:a0i)(U Y:a0u):(mJ e U Y).length<=e.length:=by
 unfold mJ;rw[PP,Sf];lia
def yd(K:M9):R2:=λx y H Q=>∃a b D e,x= .ref a/\y= .ref b/\hY K H a D/\hY K H b e/\D≠[]/\D.length+e.length<=M1/\
 (e=[]->Q (.ref a) H)/\(e≠[]->∀p,H p=ME->Q (.ref p) (upd H p (.tup (D++e))))
theorem ar.nil_iff(r:ar a b):b=[]↔a=[]:=by
 cases r with
 |nil=>simp
 |cons _ _=>simp
theorem HD:f0 X (PM .Add) (yd X.K):=by
 intro d s n H x y v u Q I i j h;obtain⟨a,b,D,E,rfl,rfl,G,k,l,f,M,S⟩:=h;cases i;cases j;obtain⟨U,e,m,_⟩:=I.tuple G;obtain⟨g,c,p2,_⟩:=I.tuple k;refine HT.cat_tup m p2 (λz=>l (e.nil_iff.mp z)) (λz=>⟨.ref a,H,I,rfl,M (c.nil_iff.mp z)⟩) (λz=>?_) (by rw[<-e.length,<-c.length];exact f);refine⟨.ref s.heap.objs.size,_,I.laid (t':=s.toks) (o:= .tup (D++E)) (λb p q=>MG _ q) (MW _) ?_,rfl,S (λw=>z (c.nil_iff.mpr w)) _ (I.hok.fresh (MW _))⟩;exact⟨by rw[Nb];exact f,_,e.append c,IsTup.new _ _⟩
noncomputable def li(n:Nat)(i:Int):a0I:=if 0<=i then(if i<n then My i.toNat else ME)else if -(n:Int)<=i then My (i+n).toNat else ME
def o_{e:Type}(xs:List e)(i:Int):Option e:=(li xs.length i).bind λj=>xs[j]?
theorem nJ(h:li n i=My j):seqIndex? i n=My j/\j<n/\-(n:Int)<=i/\i<n:=by
 unfold li at h;by_cases b:0<=i
 .rw[MU b]at h
  by_cases a:i<n
  .rw[MU a]at h
   have e:i.toNat=j:=Np h;exact⟨by rw[seqIndex_of b a,e],by lia,by lia,a⟩
  .rw[MS a]at h;cases h
 .rw[MS b]at h
  by_cases a:-(n:Int)<=i
  .rw[MU a]at h
   have e:(i+n).toNat=j:=Np h;exact⟨by rw[WO (by lia) a,e],by lia,a,by lia⟩
  .rw[MS a]at h;cases h
theorem xA{E:Type}{D:List E}{i:Int}{v:E}(h:o_ D i=My v):∃j,seqIndex? i D.length=My j/\D[j]?=My v/\j<D.length/\-(D.length:Int)<=i/\i<D.length:=by
 unfold o_ at h;cases e:li D.length i with
 |none=>rw[e]at h;cases h
 |some j=>
  rw[e]at h;obtain⟨a,b,c,d⟩:=nJ e;exact⟨j,a,h,b,c,d⟩
theorem Iw{E:Type}{D:List E}{j:Nat}{v:E}(h:D[j]?=My v):o_ D (j:Int)=My v:=by
 have a:j<D.length:=(MR.mp h).1;have e:li D.length (j:Int)=My j:=by
  unfold li;rw[MU (by lia),MU (by lia)];simp
 unfold o_;rw[e];exact h
def xD(b:Expr):Prop:=∀o i,subscripted b ML o i=operate [o,i] (getItem o i)
def Ic(X:Cx)(r:R2):Prop:=
 ∀(c a:Expr) (b:a0b) (s:MQ) (d:St) (H:Hp) (x y:V) (v u:MO) (Q:VK),cy X b d H s->aN x v->aN y u->r x y H Q->
  subscripted a ML v u=operate [v,u] (getItem v u)->M0 (Nj X.prog X.w) X.A (Wb c a v u) (EP X b d Q) X.xe s
def MtR(X:Cx)(c:String)(r:a0Q):Prop:=
 ∀(a:a0b) (s:MQ) (b:St) (H:Hp) (x:V) (e:a0i) (v:MO) (D:a0f) (Q:VK),cy X a b H s->aN x v->ar e D->r x e H Q->
  M0 (Nj X.prog X.w) X.A (SC (.builtin c) (v::D)) (EP X a b Q) X.xe s
variable{a b:Expr}{C B:TE}
theorem Ic.or(h:Ic X r)(b:Ic X k):Ic X (λx y H Q=>r x y H Q\/k x y H Q):=by
 intro c d f s g H x y v u Q I i j q a;rcases q with q|q
 .exact h c d f s g H x y v u Q I i j q a
 .exact b c d f s g H x y v u Q I i j q a
theorem dN(d:Ic X r)(e:PE X a C)(f:PE X b B)(D:xD b):PE X (.Subscript a b aa) (W5 r C B):=by
 intro c s g H Q I h;exact Subscript_ (FK e f I h λv u i x y j k l m q=>d a b c i g j x y v u Q k l m q (D _ _))
def yc(K:M9):R2:=λx y H Q=>∃p a i v,x= .ref p/\y= .int i/\et K H p a/\o_ a i=My v/\Q v H
def Ez(K:M9):R2:=λx y H Q=>∃p a i v,x= .ref p/\y= .int i/\hY K H p a/\o_ a i=My v/\Q v H
theorem cb:Ic X (yc X.K):=by
 intro g k c s n H x y v u Q I B C h e;obtain⟨p,E,i,z,rfl,rfl,F,J,q⟩:=h;cases B;obtain⟨t,rfl⟩:=C;obtain⟨a,r,b,P⟩:=I.list F;obtain⟨j,f,L,R,N,h5⟩:=xA J;obtain⟨w,o,l⟩:=r.get L;have O:=r.length;have G:=mx;have d:EP X c n Q w s:=⟨z,H,I,l,q⟩;by_cases A:0<=i
 .have m:i.toNat=j:=by
   rw[seqIndex_of A h5]at f;exact Np f
  exact item_listR b.isList A (by lia) (by rw[m];simpa using o) d e
 .have m:(i+(a.toArray.size:Int)).toNat=j:=by
   rw[WO (by lia) N]at f;rw[Nf,<-O];exact Np f
  exact SY (x:=w) b.isList.typeIs slot_list_getitem.lookup
   (wpAny_getItem_list_neg (Q:=λr D=>r=w/\EP X c n Q r D) b.isList (by lia) (by rw[Nf]<;>lia) (by lia) (by rw[m];simpa using o) ⟨rfl,d⟩) e
theorem Km:Ic X (Ez X.K):=by
 intro d f c s l H x y v u Q I m n h b;obtain⟨p,E,i,z,rfl,rfl,o,A,q⟩:=h;cases m;obtain⟨t,rfl⟩:=n;obtain⟨e,r,a,L⟩:=I.tuple o;obtain⟨j,B,C,N,O,h5⟩:=xA A;obtain⟨w,F,g⟩:=r.get C;have J:=r.length;have G:=mx;have k:EP X c l Q w s:=⟨z,H,I,g,q⟩;exact SY (x:=w) a.typeIs slot_tuple_getitem.lookup
  (getItem_tuple (j:=j) (Q:=λr D=>r=w/\EP X c l Q r D) a (by lia) (by lia) (by rw[Nf,<-J];exact B) (by simpa using F) ⟨rfl,k⟩) b
theorem yu(a:a0f)(n j:Nat)(u:MO):OF (·.setIfInBounds j u) {cls:= .type "list",data:= .seq a.toArray n}={cls:= .type "list",data:= .seq (a.set j u).toArray n}:=by
 simp[OF]
theorem cy.lst{s:MQ}{xs:a0i}(I:cy X ba c H s)(h:H p=My (.lst xs)):
  ∃(a:a0f) (n:Nat),ar xs a/\s.heap.get? p=My {cls:= .type "list",data:= .seq a.toArray n}/\xs.length<=M1:=by
 obtain⟨z,a,n,r,e⟩:=I.hok p _ h;exact⟨a,n,r,e,z⟩
theorem cy.lstUpd{s:MQ}{D C:a0i}{B a:a0f}(I:cy X ba j H s)(h:H p=My (.lst D))
  (d:s.heap.get? p=My {cls:= .type "list",data:= .seq B.toArray n}) (c:f {cls:= .type "list",data:= .seq B.toArray n}={cls:= .type "list",data:= .seq a.toArray n'}) (r:ar C a) (g:C.length<=M1) (t:Nat):
  cy X ba j (upd H p (.lst C)) {s with heap:=s.heap.update p f,toks:=t}:=by
 have e:(s.heap.update p f).get? p=My {cls:= .type "list",data:= .seq a.toArray n'}:=by
  rw[Oy f d (by rw[c]<;>rfl),c]
 refine I.write (x:=p) (e:=p) (by rw[h];trivial) (.inl rfl) (λb u i q=>(Pa _ _ (Ne.symm i)).trans q) ⟨_,e⟩ ?_;exact⟨g,a,n',r,e⟩
def yb:V->V->V->Hp->(Hp->Prop)->Prop:=λo i v H Q=>∃p a k j,o= .ref p/\i= .int k/\H p=My (.lst a)/\li a.length k=My j/\Q (upd H p (.lst (a.set j v)))
theorem ck:KY X yb:=by
 intro c s C H o i v P R u Q I F J L h;obtain⟨p,b,k,j,rfl,rfl,m,N,q⟩:=h;cases F;obtain⟨t,rfl⟩:=J;obtain⟨a,n,r,f,O⟩:=I.lst m;obtain⟨d,T,w,y⟩:=nJ N;have g:=r.length;have e:=mx;have A:cy X c C (upd H p (.lst (b.set j v))) {s with heap:=s.heap.update p (OF (·.setIfInBounds j u))}:=
  I.lstUpd m f (yu a n j u) (r.set L j) (by rw[NT];exact O) s.toks
 by_cases B:0<=k
 .have l:k.toNat=j:=by
   rw[seqIndex_of B y]at d;exact Np d
  exact PySem.W.ki_setAt f B (by lia) (by rw[Nf,<-g];exact y) (by rw[l];exact⟨_,A,q⟩)
 .have l:(k+(a.toArray.size:Int)).toNat=j:=by
   rw[WO (by lia) w]at d;rw[Nf,<-g];exact Np d
  exact PySem.W.ki_setBack f (by lia) (by rw[Nf,<-g];exact w) (by lia) (by rw[l];exact⟨_,A,q⟩)
theorem uI(U Y:a0u)(n:Nat):(Qz U Y ME n).1=((HT.sIx n 0 U:Nat):Int)/\(Qz U Y ME n).2.1=((HT.sIx n n Y:Nat):Int)/\(Qz U Y ME n).2.2=1:=by
 refine⟨?_,?_,rfl⟩
 .cases U with
  |none=>simp[Qz,HT.sIx]
  |some i=>
   simp only[Qz,HT.sIx,Wm,show(1:Int)>0 by decide,NN];by_cases h:i<0
   .simp only[h,NN]<;>lia
   .simp only[h,N1]<;>lia
 .cases Y with
  |none=>simp[Qz,HT.sIx]
  |some i=>
   simp only[Qz,HT.sIx,Wm,show(1:Int)>0 by decide,NN];by_cases h:i<0
   .simp only[h,NN]<;>lia
   .simp only[h,N1]<;>lia
theorem tE(a:a0f)(U Y:a0u):WD a.toArray U Y ME=((a.drop (HT.sIx a.length 0 U)).take (HT.sIx a.length a.length Y-HT.sIx a.length 0 U)).toArray:=by
 obtain⟨c,d,f⟩:=uI U Y a.toArray.size;unfold WD;rw[c,d,f];simp only[sliceRange_one,pick_run,Nf]<;>rfl
def Ys(K:M9):V->a0u->a0u->Hp->VK->Prop:=λx U Y H Q=>∃a b,x= .ref a/\et K H a b/\∀p,H p=ME->Q (.ref p) (upd H p (.lst (mJ b U Y)))
theorem wD:SlR X (Ys X.K):=by
 intro d s l H x v m n U Y p Q I g B C i h;obtain⟨a,e,rfl,j,q⟩:=h;cases g;obtain⟨D,r,f,k⟩:=I.list j;have c:=r.length;refine⟨"list",_,slot_list_getitem.lookup,f.isList.typeIs,?_⟩;refine Wc f.isList B C i .none (by simp) ?_ (by rw[Nf]<;>lia)
 rw[tE,<-c];refine⟨.ref s.heap.objs.size,_,I.laid (t':=s.toks) (o:= .lst (mJ e U Y)) (λb t q=>MG _ q) (MW _) ?_,rfl,q _ (I.hok.fresh (MW _))⟩;exact⟨Ng (wg e U Y) k,_,0,(r.drop (HT.sIx e.length 0 U)).take (HT.sIx e.length e.length Y-HT.sIx e.length 0 U),M7 _ rfl⟩
noncomputable def h9:V->Bool
 | .non=>MH
 | .bl _=>MH
 | .int _=>MH
 | .str _=>MH
 |_=>ML
noncomputable def L_:V->V->Bool
 | .non,.non=>MH
 | .bl a,.bl b=>a==b
 | .bl a,.int b=>(if a then 1 else 0)==b
 | .int a,.bl b=>a==(if b then 1 else 0)
 | .int a,.int b=>a==b
 | .str a,.str b=>a==b
 |_,_=>ML
theorem KD(d:aN y u)(c:aN x v)(g:h9 y=MH)(f:h9 x=MH):SeqAt.EqAt A s u v (L_ y x):=by
 cases y with
 |non=>
  cases d;cases x with
  |non=>cases c;exact SeqAt.EqAt.same _
  |bl b=>cases c;exact SeqAt.EqAt.none_bool b
  |int b=>obtain⟨t,rfl⟩:=c;exact SeqAt.EqAt.none_int b t
  |str b=>obtain⟨t,rfl⟩:=c;exact SeqAt.EqAt.none_str b t
  |_=>exact Nh (show ML=MH from f) MT
 |bl a=>
  cases d;cases x with
  |non=>cases c;exact SeqAt.EqAt.bool_none a
  |bl b=>cases c;exact SeqAt.EqAt.bool_bool a b
  |int b=>obtain⟨t,rfl⟩:=c;exact SeqAt.EqAt.bool_int a b t
  |str b=>obtain⟨t,rfl⟩:=c;exact SeqAt.EqAt.bool_str a b t
  |_=>exact Nh (show ML=MH from f) MT
 |int a=>
  obtain⟨e,rfl⟩:=d;cases x with
  |non=>cases c;exact SeqAt.EqAt.int_none a e
  |bl b=>cases c;exact SeqAt.EqAt.int_bool a e b
  |int b=>obtain⟨t,rfl⟩:=c;exact SeqAt.EqAt.int_int a e b t
  |str b=>obtain⟨t,rfl⟩:=c;exact SeqAt.EqAt.int_str a e b t
  |_=>exact Nh (show ML=MH from f) MT
 |str a=>
  obtain⟨e,rfl⟩:=d;cases x with
  |non=>cases c;exact SeqAt.EqAt.str_none a e
  |bl b=>cases c;exact SeqAt.EqAt.str_bool a e b
  |int b=>obtain⟨t,rfl⟩:=c;exact SeqAt.EqAt.str_int a e b t
  |str b=>obtain⟨t,rfl⟩:=c;exact SeqAt.EqAt.str_str a e b t
  |_=>exact Nh (show ML=MH from f) MT
 |_=>exact Nh (show ML=MH from g) MT
def s0(x:V)(u:MO):Bool:=match u with
 | .none=>L_ .non x
 | .bool b=>L_ (.bl b) x
 | .int i _=>L_ (.int i) x
 | .str z _=>L_ (.str z) x
 |_=>ML
theorem CS(r:aN y u)(f:h9 y=MH):s0 x u=L_ y x:=by
 cases y with
 |non=>cases r;rfl
 |bl b=>cases r;rfl
 |int i=>obtain⟨t,rfl⟩:=r;rfl
 |str z=>obtain⟨t,rfl⟩:=r;rfl
 |_=>exact Nh (show ML=MH from f) MT
theorem kI:∀{a:a0i} {b:a0f},ar a b->a.all h9=MH->b.any (s0 x)=a.any λy=>L_ y x
 |_,_,.nil,_=>rfl
 |y::a,u::b,.cons r t,f=>by
  rw[S8,No]at f;rw[R3,R3,CS r f.1,kI t f.2]
theorem jv(c:aN x v)(d:h9 x=MH):∀{a:a0i} {b:a0f},ar a b->a.all h9=MH->∀u∈b,SeqAt.EqAt A s u v (s0 x u)
 |_,_,.nil,_=>λu hu=>by cases hu
 |y::a,u::b,.cons r t,f=>λg hu=>by
  rw[S8,No]at f;rcases M4.mp hu with rfl|hu
  .rw[CS r f.1];exact KD r c f.1 d
  .exact jv c d t f.2 g hu
def XO(x:V)(a:a0i):Bool:=a.any λy=>L_ y x
def Yv(K:M9)(b:Bool):R2:=λx y H Q=>∃p a,y= .ref p/\(et K H p a\/hY K H p a)/\h9 x=MH/\a.all h9=MH/\Q (.bl (if b then !XO x a else XO x a)) H
theorem AN:f0 X (Od .In) (Yv X.K ML):=by
 intro d s k H x y v u Q I f i h;obtain⟨p,b,rfl,hq,g,a,q⟩:=h;cases i;rcases hq with hq|hq
 .obtain⟨its,r,pl,j⟩:=I.list hq
  refine SeqAt.in_listAt (s0 x) pl.isList (λw c=>jv f g r a w (by simpa using c)) ⟨.bl _,H,I,rfl,?_⟩;rw[show its.toArray.any (s0 x)=its.any (s0 x) by simp,kI r a];exact q
 .obtain⟨its,r,pl,j⟩:=I.tuple hq
  refine SeqAt.in_tupleAt (s0 x) pl (λw c=>jv f g r a w (by simpa using c)) ⟨.bl _,H,I,rfl,?_⟩;rw[show its.toArray.any (s0 x)=its.any (s0 x) by simp,kI r a];exact q
theorem uZ:f0 X (Od .NotIn) (Yv X.K MH):=by
 intro d s k H x y v u Q I f i h;obtain⟨p,b,rfl,hq,g,a,q⟩:=h;cases i;rcases hq with hq|hq
 .obtain⟨its,r,pl,j⟩:=I.list hq
  refine SeqAt.notIn_listAt (s0 x) pl.isList (λw c=>jv f g r a w (by simpa using c)) ⟨.bl _,H,I,rfl,?_⟩;rw[show its.toArray.any (s0 x)=its.any (s0 x) by simp,kI r a];exact q
 .obtain⟨its,r,pl,j⟩:=I.tuple hq
  refine SeqAt.notIn_tupleAt (s0 x) pl (λw c=>jv f g r a w (by simpa using c)) ⟨.bl _,H,I,rfl,?_⟩;rw[show its.toArray.any (s0 x)=its.any (s0 x) by simp,kI r a];exact q
theorem mQ:dP X (.builtin "len") (λb H Q=>∃p a,b=[.ref p]/\(et X.K H p a\/hY X.K H p a)/\Q (.int a.length) H):=by
 intro f s j H b e Q I r h;obtain⟨p,a,rfl,hq,q⟩:=h;obtain⟨u,rfl,g⟩:=kO r;cases g;have B:=mx;rcases hq with hq|hq
 .obtain⟨its,d,pl,i⟩:=I.list hq
  have c:=d.length;exact Calls.call_len_list pl.isList (by simp only[Nf]<;>lia) ⟨.int a.length,H,I.tok _,⟨s.toks+1,by rw[Nf,c]⟩,q⟩
 .obtain⟨its,d,pl,i⟩:=I.tuple hq
  have c:=d.length;exact len_tuple pl (by simp only[Nf]<;>lia) ⟨.int a.length,H,I.tok _,⟨s.toks+1,by rw[Nf,c]⟩,q⟩
theorem dA:dP X (.type "list") (λG H Q=>∃p C,G=[.ref p]/\(et X.K H p C\/hY X.K H p C)/\∀l,H l=ME->Q (.ref l) (upd H l (.lst C))):=by
 intro f s v H G M Q I r h;obtain⟨p,C,rfl,hq,q⟩:=h;obtain⟨u,rfl,y⟩:=kO r;cases y
 have g:∀(a:a0f),ar C a->C.length<=M1->∀(B:NS) (c:Nat),(∀b t,s.heap.get? b=My t->B.get? b=My t)->
   B.get? s.heap.objs.size=My {cls:= .type "list",dict:=ME,data:= .seq a.toArray c,slots:=#[]}->EP X f v Q (.ref s.heap.objs.size) {s with heap:=B}:=λa d i B c D e=>
  ⟨.ref s.heap.objs.size,_,I.laid (t':=s.toks) D (MW _) (show bX X.prog X.w _ B _ (.lst C)from⟨i,a,c,d,e⟩),rfl,q _ (I.hok.fresh (MW _))⟩
 rcases hq with hq|hq
 .obtain⟨a,d,pl,i⟩:=I.list hq
  have j:=d.length;obtain⟨o,k,m,n,E⟩:=pl.isList;exact call_list_seq p (.inl rfl) k m E (λB c D e=>g a d i B c D e) (by simp only[Nf]<;>lia)
 .obtain⟨a,d,pl,i⟩:=I.tuple hq
  have j:=d.length;obtain⟨o,k,m,n,E⟩:=pl;exact call_list_seq p (.inr rfl) k m E (λB c D e=>g a d i B c D e) (by simp only[Nf]<;>lia)
theorem bW:dP X (.type "tuple") (λC H Q=>∃p a,C=[.ref p]/\((et X.K H p a/\∀l,H l=ME->Q (.ref l) (upd H l (.tup a)))\/(hY X.K H p a/\Q (.ref p) H))):=by
 intro c s g H C E Q I r h;obtain⟨p,a,rfl,h⟩:=h;obtain⟨u,rfl,m⟩:=kO r;cases m;rcases h with⟨d,q⟩|⟨d,q⟩
 .obtain⟨its,f,pl,i⟩:=I.list d
  have j:=f.length;refine call_tuple_list pl.isList (λB D=>?_) (by simp only[Nf]<;>lia)
  have k:cy X c g H {s with heap:=B}:=I.kept (t':=s.toks) D;have n:cy X c g (upd H B.objs.size (.tup a)) {s with heap:=B.push {cls:= .type "tuple",data:= .seq its.toArray}}:=
   k.laid (t':=s.toks) (λb o e=>MG _ e) (MW _) (show bX X.prog X.w _ _ _ (.tup a)from⟨i,its,f,IsTup.new _ _⟩)
  exact⟨.ref B.objs.size,_,n,rfl,q _ (k.hok.fresh (MW _))⟩
 .obtain⟨its,f,pl,i⟩:=I.tuple d
  exact call_tuple_same pl ⟨.ref p,H,I,rfl,q⟩
def ZU(K:M9)(T:String)(x:V)(H:Hp):Prop:=match x with
 | .str _=>T="str"
 | .int _=>T="int"
 | .ref p=>(T="list"/\∃a,et K H p a)\/(T="tuple"/\∃o,K.lookup p=My o/\o.cls= .type "tuple"/\o.dict=ME)
 |_=>False
theorem ID{s:MQ}(I:cy X ba j H s)(r:aN x v)(b:ZU X.K T x H):
  s.TypeIs v T/\∀a,v= .ref a->∃d,s.heap.get? a=My d/\d.dict=ME:=by
 cases x with
 |str z=>
  obtain⟨t,rfl⟩:=r;cases(show T="str"from b);exact⟨typeIs_str s z t,λ_ e=>nomatch e⟩
 |int i=>
  obtain⟨t,rfl⟩:=r;cases(show T="int"from b);exact⟨typeIs_int s i t,λ_ e=>nomatch e⟩
 |ref p=>
  cases r;rcases b with⟨rfl,C,g⟩|⟨rfl,o,f,h,B⟩
  .obtain⟨its,_,pl,_⟩:=I.list g
   refine⟨pl.isList.typeIs,λa e=>?_⟩;cases e;obtain⟨o,n,e,c,B,_⟩:=pl;exact⟨o,e,B⟩
  .refine⟨⟨o,I.kIn p o f,h⟩,λa e=>?_⟩
   cases e;exact⟨o,I.kIn _ o f,B⟩
 |_=>exact OS b
def ZY(K:M9)(T:String)(r:a0Q)(b:TE)(t:TA):TE:=λc H Q=>b c H λx a=>ZU K T x a/\t c a λe d=>r x e d Q
variable{o:Expr}{F:List Expr}{L:TE}{t:TA}{b:NA}{z a:Ri}{T J:String}{r:a0Q}
theorem qo(n:PlainAttrs T)(D:Slot T b J)(j:WP (.builtin J)=OW (.type "method_descriptor"))(G:MtR X J r)(p:PE X o L)(M:PA X (e::F) t)
  (f:QS o b X.env (NW o X.env)=NW o X.env:=by rfl)
  (i:((OO a (MY (e::F) X.env)).all (λx=>!x.1)&&(PL a (OJ [] X.env)).all (λx=>x.1.isSome)
   &&decide ((e::F).length+([]:List TC).length+(if([]:List TC).isEmpty then 0 else 1)<30))=MH:=by rfl)
  (g:(z.endLine==a.line)=MH:=by rfl) (S:b0a X e F:=by rfl) (d:b0b X a F:=by rfl):
  PE X (.Call (.Attribute o b z) (e::F) [] a) (ZY X.K T r L t):=by
 intro c s k H Q I h;refine WQ f i g rfl (d5 (p c s k H _ I h) λv q ⟨x,U,l,E,V,Y⟩=>?_);obtain⟨u,w⟩:=ID l E V;refine⟨T,J,n,D,j,u,w,?_⟩;have m:=M a c q k U _ l Y;rw[S]at m⊢;refine Sj (by show(ML||(OO a (MY F X.env)).any (·.1))=ML;rw[d]<;>rfl) (Ve ?_)
 exact d5 m λZ y ⟨N,A,B,C,O⟩=>G c y k A x N v Z Q B E C O
def MtM(X:Cx)(J:String)(r:a0Q):Prop:=
 ∀(c:a0b) (s:MQ) (d:St) (H:Hp) (x:V) (a:a0i) (v:MO) (b:a0f) (Q:VK),cy X c d H s->aN x v->ar a b->r x a H Q->
  M0 (Nj X.prog X.w) X.A (SC (.builtin J) (v::b)) (EP X c d Q) X.xe s
theorem ar.one:∀{x:V} {a:a0f},ar [x] a->∃u,a=[u]/\aN x u
 |_,_,.cons r .nil=>⟨_,rfl,r⟩
theorem ar.reverse{a:a0i}{b:a0f}(h:ar a b):ar a.reverse b.reverse:=by
 induction h with
 |nil=>exact .nil
 |cons r t e=>rw[RX,RX];exact ar.append e (.cons r .nil)
theorem ar.rep(h:ar c d):∀k:Nat,ar (Nd k c).flatten (Nd k d).flatten
 |0=> .nil
 |k+1=>by
  rw[Ox,Ox,Pt,Pt];exact ar.append h (ar.rep h k)
theorem sQ(a:a0f):∀(k:Nat) (b:a0f),
  Wg (λo r=>o++r) b.toArray (Nd k a.toArray)=(b++(Nd k a).flatten).toArray
 |0,b=>by simp
 |k+1,b=>by
  have e:b.toArray++a.toArray=(b++a).toArray:=by simp
  have c:(b++a)++(Nd k a).flatten=b++(Nd (k+1) a).flatten:=by
   rw[Ox,Pt,N4]
  rw[<-c,<-sQ a k (b++a),<-e,Ox,List.foldl_cons]
end
section
variable{X:Cx}{O:a0b}{N:St}{H:Hp}{s:MQ}{l b:MK}{xs ys B:a0i}
theorem cy.lset{b its':a0f}(I:cy X O N H s)(a:H l=My (.lst xs))
  (e:s.heap.get? l=My {cls:= .type "list",data:= .seq b.toArray n}) (c:f b.toArray=its'.toArray) (d:ar ys its') (g:ys.length<=M1):
  cy X O N (upd H l (.lst ys)) {s with heap:=s.heap.update l (OF f),toks:=k}:=by
 have q:=PySem.IsL.update e f;rw[c]at q;refine I.write (x:=l) (e:=l) (by rw[a];exact trivial) (.inl rfl) (λj u h i=>(Pa s.heap (OF f) (Ne.symm h)).trans i) ⟨_,q⟩ ?_;exact⟨g,its',_,d,q⟩
theorem cy.lnew{its:a0f}(I:cy X O N H s)(a:ar ys its)(c:ys.length<=M1):
  cy X O N (upd H s.heap.objs.size (.lst ys)) {s with heap:=s.heap.push {cls:= .type "list",data:= .seq its.toArray},toks:=t'}:=
 I.laid (λ_ _ q=>MG _ q) (MW _) ⟨c,its,0,a,M7 _ rfl⟩
theorem cy.fresh(I:cy X O N H s):H s.heap.objs.size=ME:=I.hok.fresh (MW _)
theorem cy.lstM(I:cy X O N H s)(a:H l=My (.lst xs)):xs.length<=M1/\∃(b:a0f) (n:Nat),ar xs b/\xs.length=b.length/\s.heap.get? l=My {cls:= .type "list",data:= .seq b.toArray n}:=by
 obtain⟨z,b,n,r,e⟩:=I.hok l _ a;exact⟨z,b,n,r,r.length,e⟩
theorem ES(h:n<=M1):Rg n=ML:=by
 unfold Rg;exact Nw (by lia)
def wL:V->a0i->Hp->VK->Prop:=λx b H Q=>∃l xs y,x= .ref l/\b=[y]/\H l=My (.lst xs)/\xs.length<M1/\Q .non (upd H l (.lst (xs++[y])))
theorem ik:MtM X "list.append" wL:=by
 intro O s N H x B v D Q I c d h;obtain⟨l,xs,y,rfl,rfl,a,g,q⟩:=h;cases c;obtain⟨u,rfl,f⟩:=d.one;obtain⟨z,b,n,r,i,e⟩:=I.lstM a;refine Vq F.slot_list_append ⟨_,e,rfl⟩ F.entry_list_append (WF _ _) (Wu l b.toArray n u (by rw[Nf];lia)) ⟨e,?_⟩;refine⟨.non,_,I.lset (its':=b++[u]) a e (by simp) (r.append (.cons f .nil)) ?_,rfl,q⟩;rw[Nb,N7];lia
noncomputable def Yx:R2:=λx y H Q=>∃l b xs B,x= .ref l/\y= .ref b/\H l=My (.lst xs)/\H b=My (.lst B)/\xs.length+B.length<=M1/\∀p,H p=ME->Q (.ref p) (upd H p (.lst (xs++B)))
theorem JO:f0 X (PM .Add) Yx:=by
 intro O s N H x y v u Q I c d h;obtain⟨l,b,xs,B,rfl,rfl,f,hB,m,q⟩:=h;cases c;cases d;obtain⟨z,D,n,r,o,e⟩:=I.lstM f;obtain⟨p,a,t,g,i,j⟩:=I.lstM hB;refine V3 e j ?_ (by rw[Nf,Nf];lia);have k:D.toArray++a.toArray=(D++a).toArray:=by simp
 rw[k];exact⟨.ref _,_,I.lnew (t':=s.toks) (r.append g) (by rw[Nb];lia),rfl,q _ I.fresh⟩
noncomputable def Yt:R2:=λx y H Q=>∃l k xs,x= .ref l/\y= .int k/\H l=My (.lst xs)/\-(2^63)<=k/\k<2^63/\xs.length*k.toNat<=M1/\
 ∀p,H p=ME->Q (.ref p) (upd H p (.lst (Nd k.toNat xs).flatten))
theorem HR{b:Type}(xs:List b)(k:Nat):(Nd k xs).flatten.length=k*xs.length:=by
 induction k with
 |zero=>simp
 |succ k l=>rw[Ox,Pt,Nb,l,Nat.succ_mul,Nat.add_comm]
theorem JI:f0 X (PM .Mult) Yt:=by
 intro O s N H x y v u Q I o p h;obtain⟨l,k,xs,rfl,rfl,w,A,B,j,q⟩:=h;cases o;obtain⟨t,rfl⟩:=p;obtain⟨z,b,n,r,C,e⟩:=I.lstM w;have d:b.toArray.size*k.toNat<=M1:=by rw[Nf,<-C];exact j
 have f:¬b.toArray.size*k.toNat>(2^63-1)/8:=by
  have:(M1:Nat)<=(2^63-1)/8:=by decide
  lia
 have g:¬(!Builtin.List.listFitsIndex k)=MH:=by
  rw[fitsIndex_both A B];exact MT
 have c:¬Rg (b.toArray.size*k.toNat)=MH:=by
  rw[ES d];exact MT
 have i:Wg (λD E=>D++E) #[] (Nd (if b.toArray.isEmpty=MH then 0 else k.toNat) b.toArray)=(Nd k.toNat b).flatten.toArray:=by
  have J:∀m:Nat,Wg (λD E=>D++E) #[] (Nd m b.toArray)=(Nd m b).flatten.toArray:=λm=>by
   have:=sQ b m [];rw[Pp]at this;exact this
  rw[J];cases b with
  |nil=>simp
  |cons a L=>rw[MS (by simp)]
 refine wpAny_binaryOp_repeat_ref (T:="list") (U:="int") (by decide) ⟨_,e,rfl⟩ (λG=>typeIs_int G k t) noFill_list_mul F.fills_int_mul F.slot_int_rmul repeat_list F.slot_int_index.lookup
  (Vq F.slot_int_rmul (typeIs_int s k t) F.entry_int_rmul (F.args_int_rmul_2 _ _) (int___rmul___int_list k t l b.toArray n)
   ⟨e,rfl,⟨_,e,rfl⟩,Vq F.slot_list_mul ⟨_,e,rfl⟩ F.entry_list_mul (F.args_list_mul_2 _ _) (AutoListH.list___mul___list_int_3 l b.toArray n k t g f c) ⟨e,?_⟩⟩)
 rw[i];exact⟨.ref _,_,I.lnew (t':=s.toks) (r.rep k.toNat) (by rw[HR,P6];exact j),rfl,q _ I.fresh⟩
variable{a:Ny}{w:NC}{A:NX}{E:a0e}
end
end L2
namespace Att
open PySem.W PySem.Calls
theorem qD:∀(D:a0c) (E:a0f),WellAll P h E (D.map WData.int)->Va E D:=by
 intro D
 induction D with
 |nil=>
  intro E w;rw[Pb]at w;cases w;exact .nil
 |cons n D G=>
  intro E w;rw[MZ]at w;cases w with
  |cons a b=>
   cases a;exact .cons _ _ (G _ b)
theorem zU{l:OpenLaw}(G:l.most=My n){h:NS}
  (b:l.row.toRowW.claim.pre args=MH) (f:WellAll P h vals args):
  ∃a E D,vals=[M6 a]/\args=[WData.list (D.map WData.int)]/\h.get? a=My {cls:= .type "list",data:= .seq E.toArray}/\Va E D/\D.length<=n:=by
 have hsh:WShape.hasAll [] args [.list .int]=MH:=(pre_splitW b).1;have g:l.pre.holds [] {args:=args}=MH:=(pre_splitW b).2;obtain⟨d,r,rfl,i,j⟩:=hasAllW_cons hsh;obtain rfl:=hasAllW_nil j;obtain⟨K,rfl,k⟩:=hasW_list i;obtain⟨D,rfl⟩:=items_int k;have c:D.length<=n:=by
  unfold OpenLaw.pre at g;have e:(WTm.not (.lt (.lit (.int (n:Int))) (.len (.arg 0)))).holds [] {args:=[.list (D.map .int)]}=MH:=by
   have e:=(holds_andW g).1;rw[G]at e;exact e
  have h5:=condW_of e (w_not (w_lt w_lit (w_len_list (w_arg rfl))));rw[MD]at h5;refine Nat.le_of_not_lt λq=>?_;have m:(n:Int)<((D.length:Nat):Int):=by lia
  first
   |(rw[M3 m]at h5;exact Nh h5 (by decide))
   |(simp at h5;lia)
 cases f with
 |cons o p=>
  cases p;cases o with
  |list ho hall=>exact⟨_,_,D,rfl,rfl,ho,qD D _ hall,c⟩
theorem AH(l:OpenLaw)(args:List WData):l.row.toRowW.claim.post args (.bool MH) args=MH:=
 postW_of (r:=l.row.toRowW) (X:=(MH==MH))
  (show WShape.has [] (.bool MH) .bool=MH by first|rfl|decide|simp[WShape.has,WShape.arms,WShape.armsAll])
  (show(WTm.eq .res (.lit (.bool MH))).value [] {args:=args,res:=My (.bool MH),after:=args}=My (.bool (MH==MH))from w_eq_bool (w_res rfl) w_lit) rfl
theorem attach_call{l:OpenLaw}{d:DefRec}
  (z:l.most=My n) (k:d.params.defaults=[])
  (SC:∀(w:NC) (D b:MQ) (K m:a0j) (g:MK) (o:Oa) (p M c:MO) (a:MK) (E:a0f) (S:a0c),
   Ground q loose [] XP w D K m b.heap->YP w b.heap->
   b.heap.get? g=My o->o.data= .func (docDef d.name d.params d.body d.scope p M c)->b.heap.CodeRec M d.name->K d.name=My (.ref g)->
   b.heap.get? a=My {cls:= .type "list",data:= .seq E.toArray}->Va E S->S.length<=n->b.gens=#[]->
   P4 (Nj l.prog w) Uo (.call (.ref g) ⟨[.ref a],[]⟩) (λr V=>r= .ok (.ret (.bool MH))/\OldK b.heap V.heap/\V.os=b.os/\RU V.gens) b):
  WalkO q loose XP YP l.row.toRowW d [] (λf E=>V6 f E):=by
 intro w D b K m G Y g o p M c B C F Q t y u H s x T h A I v J;obtain rfl:B= .none:=Dflts.none y k;obtain rfl:C= .none:=Dflts.noKw y;obtain⟨a,E,S,rfl,rfl,i,e,j⟩:=zU z h v;refine enter_call (QH (SC w D b K m g o p M c a E S G Y F (fd_plain Q) t u i e j H) λr V L=>?_);obtain⟨rfl,N,O,P⟩:=L;exact⟨.inl ⟨.bool MH,.bool MH,[],rfl,λ_=>rfl,.bool MH,AH l _,λ_=>⟨Sy,λ_ R=>(nomatch R)⟩⟩,N,O,P⟩
section
variable{a:Ny}{w:NC}{A:NX}{E:a0e}{s:MQ}{K:M9}
end
end Att
namespace L2
theorem rY:∀{D:a0f} {E:a0c},Va D E->ar (E.map V.int) D
 |_,_,.nil=> .nil
 |_,_,.cons n t h=> .cons ⟨t,rfl⟩ (rY h)
def FR(H:Hp):Prop:=∀b,H b=ME\/∃o D,H b=My (.frz o (.lst D))
theorem Fb{K:M9}{c:MQ}{G:a0f}{M:a0c}
  (R:K.In c.heap) (p:c.heap.Ns O0 mg) (g:c.heap.Ns Vo mb) (I:∀x:NA,x≠"__name__"->mb x=Qh x) (t:c.heap.NoLimit) (hg:c.gens=#[])
  (ha:c.heap.get? a=My {cls:= .type "list",data:= .seq G.toArray}) (T:Va G M) (U:M.length<=M1) (hr:d4 k Uo)
  (F:∀D:NS,K.In D->D.Ns O0 mg->eg P w K mg D CX k fa fd [x] sp) (l:∀(s:MQ) (u:MO),Tu s fd ⟨[u],[]⟩ [(x,u)])
  (J:∀H:Hp,FR H->et K H a (M.map V.int)->sp [.ref a] H (λv _=>v= .bl MH) λ_ _ _=>False)
  (L:∀H e E,CX [] H c (λ_ _ _=>False) e E->False):
  P4 (Nj P w) Uo (.call (.ref fa) ⟨[.ref a],[]⟩) (λr E=>r= .ok (.ret (.bool MH))/\OldK c.heap E.heap/\E.os=c.os/\RU E.gens) c:=by
 have W:=rY T;have y:=T.length
 --from an abstract heap in which nothing but the script may be tracked
 have j:∀H:Hp,FR H->et K H a (M.map V.int)->j_ P w H c.heap->(∀b,H b≠ME->b=a)->(H a≠ME->K.lookup a=ME)->
   P4 (Nj P w) Uo (.call (.ref fa) ⟨[.ref a],[]⟩) (λr E=>r= .ok (.ret (.bool MH))/\OldK c.heap E.heap/\E.os=c.os/\RU E.gens) c:=by
  intro H X hS S Y hK;have f:∀{b:MK} {o:Oa},c.heap.get? b=My o->H b=ME->(lf c.heap H).get? b=My o:=λe n=>Fk e n;have N:∀{b:MK} {o:Oa} {es:Array QZ} {ep:Nat},c.heap.get? b=My o->o.data= .dict es ep->H b=ME:=λ{b o es ep} e d=>by
   cases q:H b with
   |none=>rfl
   |some u=>
    have O:b=a:=Y b (by rw[q];simp);subst O;rw[ha]at e;cases e;have d':Data.seq G.toArray _=Data.dict es ep:=d;cases d'
  have i:∀{b:MK} {m:a0j},c.heap.Ns b m->(lf c.heap H).Ns b m:=λ{b m} ⟨o,es,ep,e,d,r⟩=>⟨o,es,ep,f e (N e d),d,r⟩;have A:K.In (lf c.heap H):=λb o e=>f (R b o e) (by
   cases q:H b with
   |none=>rfl
   |some u=>
    have O:b=a:=Y b (by rw[q];simp);subst O;rw[hK (by rw[q];simp)]at e;cases e)
  have hM:Mod K mg (lf c.heap H):=⟨A,i p,⟨mb,i g,I⟩,let ⟨mc,h1,h2⟩:=t;⟨mc,i h1,h2⟩⟩
  have e0:up P w K mg (lf c.heap H) Uo [] c H:=⟨rfl,hM,λb o e=>HG e,Vi (CF _ _),trivial,λb g=>Nh (show b∈([]:a0n)from g) (by simp),S,.of_eq hg⟩;refine QH ((F _ A (i p)).run Uo [] c H ⟨[.ref a],[]⟩ [.ref a] [.ref a] _ _ hr e0 (l c (.ref a)) (.cons rfl .nil) (J H X hS)) λr E h=>?_;cases r with
  |error e=>exact(L H e E h).elim
  |ok fl=>
   cases fl with
   |next=>exact OS h
   |brk=>exact OS h
   |cont=>exact OS h
   |ret u=>
    obtain⟨v,H',os,aa,un,B,r',q⟩:=h;have q':v= .bl MH:=q;subst q';obtain rfl:u=Ta MH:=r';refine⟨rfl,OldK.of_keep λb o e=>?_,os,aa⟩;cases q:H b with
    |none=>exact un.keep b o e q (by intro z;exact Nh (show b∈([]:a0n)from z) (by simp)) (by simp)
    |some u=>
     rcases X b with z|⟨ob,xs,z⟩
     .rw[q]at z;cases z
     .have z2:=un.frzs b ob _ z
      obtain⟨Z,_⟩:=S b _ z;obtain⟨e2,_⟩:=B b _ z2;rw[e]at Z;cases Z;exact e2
 cases Q:K.lookup a with
 |some o=>
  --the script is one of the module's own objects
  have e:=R a o Q;rw[ha]at e;cases e;refine j (λ_=>ME) (λ_=> .inl rfl) (.inr ⟨_,G.toArray,_,Q,rfl,rfl,rfl,by rw[Nf,y];exact U,by simpa using W⟩) (λb u z=>by have C:(ME:Option HO)=My u:=z;cases C) (λb z=>Nh rfl z) λz=>Nh rfl z
 |none=>
  refine j (λb=>if b=a then My (.frz {cls:= .type "list",data:= .seq G.toArray} (.lst (M.map V.int)))else ME) (λb=>?_) (.inl (.inr ⟨{cls:= .type "list",data:= .seq G.toArray},MU rfl⟩)) (λb u z=>?_) (λb z=>?_) λ_=>Q
  .by_cases g:b=a
   .exact .inr ⟨_,_,MU g⟩
   .exact .inl (MS g)
  .by_cases g:b=a
   .have C:=(MU g).symm.trans z
    cases C;subst g;exact⟨ha,by rw[MD];exact U,G,_,W,ha⟩
   .have C:=(MS g).symm.trans z
    cases C
  .by_cases g:b=a
   .exact g
   .exact Nh (MS g) z
theorem walk_of{l:PySem.W.OpenLaw}{n k:Nat}{q:Ny}{E:a0h}{XP:(NA->Option MO)->NS->Prop}{YP:NC->NS->Prop}{d:DefRec}{K:UJ->M9}{CX:NC->E_}{sp:NC->Sp}{x:NA}
  (hn:l.most=My n) (r:n<=M1) (t:d.params.defaults=[]) (J:d4 k Uo)
  (L:∀(w:NC) (h:NS),YP w h->(K w.params).In h)
  (F:∀(w:NC) (M:a0j) (p:MK) (h:NS),(K w.params).In h->h.Ns O0 M->M d.name=My (.ref p)->
   ∃B:Nk,(∀(s:MQ) (u:MO),Tu s B ⟨[u],[]⟩ [(x,u)])/\
    ∀D:NS,(K w.params).In D->D.Ns O0 M->eg l.prog w (K w.params) M D (CX w) k p B [x] (sp w))
  (y:∀(w:NC) (H:Hp) (a:MK) (S:a0c),S.length<=n->FR H->et (K w.params) H a (S.map V.int)->sp w [.ref a] H (λv _=>v= .bl MH) λ_ _ _=>False)
  (A:∀(w:NC) (H:Hp) (s:MQ) (e:MO) (z:MQ),CX w [] H s (λ_ _ _=>False) e z->False):
  PySem.W.WalkO q E XP YP l.row.toRowW d [] (λf vs=>V6 f vs):=by
 refine Att.attach_call hn t λw aa j M X p o Z cd N a vs S G Y ho hd O C m i c P=>?_;have I:=L w _ Y;obtain⟨B,Q,hF⟩:=F w M p _ I G.T.g C;exact Fb I G.T.g G.T.b G.T.builtins G.T.nolimit P m i (Ng c r) J hF Q (λH R U=>y w H a S c R U) λH e z=>A w H j e z
noncomputable def cz(s:N3)(j:Nat):N3:=match s with
 | .ClassDef _ _ _ body _ _ _ _ _ _ _=>body.getD j (.Pass ⟨0,0,0,0⟩)
 |_=> .Pass ⟨0,0,0,0⟩
noncomputable def jd(s:N3):Arguments:=match s with
 | .FunctionDef _ a _ _ _ _ _ _ _ _=>a
 |_=>{posonlyargs:=[],args:=[],vararg:=ME,kwonlyargs:=[],kw_defaults:=[],kwarg:=ME,defaults:=[]}
noncomputable def cA(s:N3):a0R:=match s with
 | .FunctionDef _ _ b _ _ _ _ _ _ _=>b
 |_=>[]
noncomputable def af(s:N3):Scope:=match s with
 | .FunctionDef _ _ _ _ _ _ sc _ _ _=>sc
 |_=>{kind:= .function,names:=[],isGenerator:=ML,isCoroutine:=ML}
abbrev CX0:E_:=λ_ _ _ _ _ _=>False
abbrev E0:St->XK:=λ_ _ _ _=>False
structure Fun (K:M9) (x qual:NA) (st:N3) (f:MK) (fd:Nk):Prop where
 ex:∃(oc:MO) (od:a0B) (kV doc pm:MO) (an:a0B) (cdv ct:MO) (osl:Array (Option MO)),
  fd=QP x qual (jd st) (cA st) (af st) .none kV doc pm an cdv ct/\K.lookup f=My ⟨oc,od,.func fd,osl⟩/\Ro K cdv qual=MH
 kp:Sd K (.ref f)=MH
section
variable{P:Ny}{w:NC}{K:M9}{u:a0j}{base:NS}
theorem Fun.ok{G:N3}{N M:a0h}(F:Fun K x v G f y)(S:b4 N M (af G))(V:∀vs H Q E,sp vs H Q E->vs.length=M.length)
  (b:∀(a:MO) (A:NX) (D:a0C) (s:MQ) (H:Hp) (vs:a0i) (Q:VK) (E:XK),d4 k (A.deeper (QR v (af G) s.heap.objs.size f a))->sp vs H Q E->
   ∃t,PSs (dz CX0 P w K u base N v (af G) f a A D s H E).nox (cA G) t/\t {nx:=λ_ e=>Q .non e,rt:=Q} (fK N vs) H):eg P w K u base CX0 (k+1) f y M sp:=by
 obtain⟨m,n,o,g,p,r,a,z,i,rfl,j,c⟩:=F.ex;refine yR j c S V λA D s H vs Q E l d=>?_;obtain⟨t,h,q⟩:=b a A D s H vs Q E l d;exact⟨t,h.nox,q⟩
theorem ue{A:NX}(a:d4 k A):A.units+1<Sa:=ON (Wl (by decide:1<=64) _) a.units
theorem sr(h:n<=1000):n<M1:=ON h (by decide)
variable{X:Cx}
theorem pv(i:Nat)(b:X.N[i]?=My x:=by rfl)(c:Xq X.env.scope x:=by first|exact OC rfl|exact O6 (OC rfl)|exact O6 (O6 rfl))(u:b0c x:=by decide)
  (a:(x==("__classdict__":NA))=ML:=by decide):PE X (.Name x d) (oM i):=JA b c u a
theorem Y8{A B:Prop}(h:A):if MH=MH then A else B:=by
 rw[MU rfl];exact h
theorem Y9{c A B:Prop} [Decidable c](a:c->A)(b:¬c->B):if c then A else B:=by
 by_cases h:c
 .rw[MU h]
  exact a h
 .rw[MS h]
  exact b h
def bS(H a:Hp):Prop:=∀b o,H b=My o->a b=My o
theorem bS.refl(H:Hp):bS H H:=λ_ _ h=>h
theorem bS.trans(a:bS H H1)(b:bS H1 H2):bS H H2:=λc o h=>b c o (a c o h)
theorem bS.free(e:bS H H')(h:H' l=Option.none):H l=Option.none:=by
 cases q:H l with
 |none=>rfl
 |some o=>
  rw[e l o q]at h;cases h
theorem dH:∀(u:a0L) (n:Nat) (acc:a0m),OG n u acc=OG n u []++acc
 |[],_,_=>rfl
 |(x,k)::r,n,acc=>by
  unfold OG;split
  .rw[dH r (n+1) ((x,n)::acc),dH r (n+1) [(x,n)],N4]
   rfl
  .exact dH r n acc
theorem iG:∀{u:a0L} {n:Nat} {x:NA} {c:MK},(x,c)∈OG n u []->(x,Ue)∈u
 |[],_,_,_,h=>by cases h
 |(y,k)::r,n,x,c,h=>by
  unfold OG at h;split at h
  .rename_i a
   rw[dH]at h;rcases NP.mp h with h|h
   .exact MJ _ (iG h)
   .obtain⟨rfl,_⟩:x=y/\c=n:=by simpa using h
    obtain rfl:k= .cell:=by simpa using a
    exact MP
  .exact MJ _ (iG h)
noncomputable def dC(cells:a0m):a0L->a0m->a0m
 |[],acc=>acc
 |(x,k)::r,acc=>if k== .free then dC cells r ((x,(cells.lookup x).getD 0)::acc)else dC cells r acc
theorem ln{cells:a0m}:∀{u:a0L} {acc:a0m} {x:NA} {c:MK},(x,c)∈dC cells u acc->(x,c)∈acc\/((x,Pn)∈u/\c=(cells.lookup x).getD 0)
 |[],_,_,_,h=> .inl h
 |(y,k)::r,acc,x,c,h=>by
  unfold dC at h;split at h
  .rename_i a
   obtain rfl:k= .free:=by simpa using a
   rcases ln h with h|⟨h,e⟩
   .rcases M4.mp h with h|h
    .cases h
     exact .inr ⟨MP,rfl⟩
    .exact .inl h
   .exact .inr ⟨MJ _ h,e⟩
  .rcases ln h with h|⟨h,e⟩
   .exact .inl h
   .exact .inr ⟨MJ _ h,e⟩
theorem pi:∀{u:a0L} {w:a0m} {p:NA×MK},p∈w->p∈dC cells u w
 |[],_,_,h=>h
 |(y,k)::r,w,p,h=>by
  unfold dC;split
  .exact pi (MJ _ h)
  .exact pi h
theorem ph{cells:a0m}:∀{u:a0L} {acc:a0m} {x:NA},(x,Pn)∈u->(x,(cells.lookup x).getD 0)∈dC cells u acc
 |[],_,_,h=>by cases h
 |(y,k)::r,acc,x,h=>by
  unfold dC;rcases M4.mp h with h|h
  .cases h
   rw[MU (by decide)];exact pi MP
  .split
   .exact ph h
   .exact ph h
theorem lR{u:Type}:∀{l:List (NA×u)} {x:NA} {c:u},(x,c)∈l->∃d,l.lookup x=My d
 |[],_,_,h=>by cases h
 |(y,d)::r,x,c,h=>by
  rw[Qs];cases a:x==y with
  |true=>exact⟨d,rfl⟩
  |false=>
   rcases M4.mp h with h|h
   .cases h
    simp at a
   .exact lR h
theorem dm{u:Type}:∀{l:List (NA×u)} {x:NA} {c:u},(l.map (·.1)).Nodup->(x,c)∈l->l.lookup x=My c
 |[],_,_,_,h=>by cases h
 |(y,d)::r,x,c,nd,h=>by
  rw[MZ]at nd;obtain⟨a,b⟩:=Nz.mp nd;rw[Qs];rcases M4.mp h with h|h
  .cases h
   simp
  .have:x≠y:=λe=>a (e▸List.mem_map_of_mem (f:=(·.1)) h)
   rw[beq_eq_false_iff_ne.mpr this];exact dm b h
theorem rP{env:TZ}(f:NA×Qw->a0m->Sem (ForInStep a0m))
  (g:∀w D G,f (w,D) G=if D== .free then(do let a <-cellOf env w;OW (.yield ((w,a)::G)))else OW (.yield G)):
  ∀(u:a0L) (E:a0m),(∀y∈u,y.2= .free->∃c,env.cells.lookup y.1=My c)->forIn u E f=OW (dC env.cells u E)
 |[],_,_=>by rw[Ql];rfl
 |(x,k)::r,E,h=>by
  rw[P9,g];unfold dC;have i:∀y∈r,y.2= .free->∃c,env.cells.lookup y.1=My c:=λy j=>h y (MJ _ j);by_cases b:(k==Pn)=MH
  .rw[MU b,MU b]
   obtain⟨c,l⟩:=h (x,k) MP (by simpa using b);have d:env.cells.lookup x=My c:=l;have e:cellOf env x=OW c:=by unfold cellOf;rw[d]
   rw[e,d];simp only[pure_bind];exact rP f g r _ i
  .rw[MS b,MS b]
   simp only[pure_bind];exact rP f g r _ i
theorem y7{u:Scope}{env:TZ}(h:∀y∈u.names,y.2= .free->∃c,env.cells.lookup y.1=My c):closureFor u env=OW (dC env.cells u.names []):=by
 simp only[closureFor];rw[rP (env:=env) _ (λD w E=>by cases a:w==Pn<;>simp[a]) u.names [] h]
 rfl
theorem FA{M:TW}{E:a0e}{s:MQ}{u:Scope}
  (f:∀D:NS,D.Ns s.heap.objs.size (λ_=>ME)->(∀b o,s.heap.get? b=My o->D.get? b=My o)->
   (∀n c,(n,c)∈OG (s.heap.objs.size+1) u.names []->D.IsCell c ME/\s.heap.objs.size+1<=c)->
   ((OG (s.heap.objs.size+1) u.names []).Pairwise λx y=>x.2≠y.2)->
   Q (newEnv u s.heap.objs.size globals (OG (s.heap.objs.size+1) u.names cl) g ME .none (My h) Vo) {s with heap:=D}):
  M0 M A (Vy u globals cl [] g ME .none (My h)) Q E s:=by
 simp only[Vy,Option.isSome_some,NN];refine MC (wpAny_alloc ?_);refine MC (wpAny_layCells _ (λP w G=>by cases a:w==Ue<;>simp[a]) _ _ _ _ ?_)
 have K:=cellsFrom_ok u.names (s.heap.push {cls:= .type "dict",data:= .dict #[]}) (s.heap.objs.size+1) [] ⟨λ_ _ S=>(nomatch S),Sy⟩ (by rw[Og];exact MW _);rw[Og]at K;rw[show({s with heap:=s.heap.push {cls:= .type "dict",data:= .dict #[]}}:MQ).heap.objs.size=s.heap.objs.size+1 from Og ..];have d:=f (pushCells (s.heap.push {cls:= .type "dict",data:= .dict #[]}) u.names) ((Heap.Ns.new s.heap (.type "dict")).keeps (pushCells_keeps _ _)) (λb o e=>pushCells_keeps _ _ b o (MG _ e)) K.empty K.apart;exact MC (MF (MF d))
noncomputable abbrev aI(X:Cx)(a:a0h)(u:Scope)(w:a0m)(C:MK)(b:a0n)(s:MQ)(H:Hp):Cx:=
 {X with N:=a,s₀:=s,H₀:=H,env:=compEnvC u w C X.env,outer:=X.stack,stack:=X.stack,ex:=b,fn:=λx=>u.names.lookup x !=My .free,pn:=[],xe:=λ_ _=>False}
theorem jn{u:Scope}{y:NA×Qw}(h:y∈(relabel u b).names):y∈u.names\/(y.2= .cell/\(y.1,Pn)∈u.names):=by
 obtain⟨⟨n,k⟩,w,e⟩:=M8.mp h
 dsimp only at e
 split at e
 .rename_i a
  cases e;simp only[No,PV]at a;obtain⟨⟨a,_⟩,_⟩:=a;subst a;exact .inr ⟨rfl,w⟩
 .cases e
  exact .inl w
theorem Fh{X:Cx}{R:St}{s:MQ}{Nc G:a0h}{K:a0a}{w:Scope}{h':NS}(I:cy X ba R H s)
  (hk:w.kind= .function) (g:(w.names.map (·.1)).Nodup) (f:∀y∈w.names,y.2= .free->X.env.kindOf y.1=My .cell\/X.env.kindOf y.1=My .free)
  (T:Nc=G++K.map (λj=>X.N.getD j Qe)) (U:∀j∈K,j<X.N.length/\w.names.lookup (X.N.getD j Qe)=My .free)
  (F:∀b∈fp,fX X ba H b) (W:∀b∈fp,∃o,s.heap.get? b=My o) (ns:h'.Ns s.heap.objs.size λ_=>ME) (D:∀b o,s.heap.get? b=My o->h'.get? b=My o)
  (O:∀n c,(n,c)∈OG (s.heap.objs.size+1) w.names []->h'.IsCell c ME/\s.heap.objs.size+1<=c) (ca:(OG (s.heap.objs.size+1) w.names []).Pairwise λx y=>x.2≠y.2):
  cy (aI X Nc w (OG (s.heap.objs.size+1) w.names (dC X.env.cells w.names [])) s.heap.objs.size fp s H) [] (Nd G.length ME++K.map (λj=>R.getD j ME)) H {s with heap:=h'}:=by
 --the cells
 have aa:∀{x:NA} {c:MK},(x,c)∈dC X.env.cells w.names []->X.env.cells.lookup x=My c/\(x,Pn)∈w.names:=λ{x c} h=>by
  rcases ln h with h|⟨hm,e⟩
  .cases h
  .obtain⟨d,hd⟩:=I.ok.has x (f _ hm rfl)
   rw[hd]at e;exact⟨by rw[hd,e];rfl,hm⟩
 have a:∀{x:NA} {c:MK},(OG (s.heap.objs.size+1) w.names (dC X.env.cells w.names [])).lookup x=My c->
   (x,c)∈OG (s.heap.objs.size+1) w.names []\/(X.env.cells.lookup x=My c/\(x,Pn)∈w.names):=λ{x c} h=>by
  have h:=Ol h;rw[dH]at h;rcases NP.mp h with h|h
  .exact .inl h
  .exact .inr (aa h)
 have E:∀{x:NA},(x,Pn)∈w.names->∃c,X.env.cells.lookup x=My c/\(OG (s.heap.objs.size+1) w.names (dC X.env.cells w.names [])).lookup x=My c:=λ{x} hm=>by
  obtain⟨d,hd⟩:=I.ok.has x (f _ hm rfl);have e:=ph (cells:=X.env.cells) (acc:=[]) hm;obtain⟨c,Q⟩:=lR (l:=OG (s.heap.objs.size+1) w.names (dC X.env.cells w.names [])) (x:=x) (c:=(X.env.cells.lookup x).getD 0) (by rw[dH];exact NF _ e);rcases a Q with z|⟨z,_⟩
  .have B:=dm g (iG z)
   rw[dm g hm]at B;cases B
  .exact⟨c,z,Q⟩
 have k:∀{x:NA} {c:MK},X.env.cells.lookup x=My c->c<s.heap.objs.size:=λ{x c} h=>let ⟨v,q⟩:=I.cell x c h;q.lt
 have M:H s.heap.objs.size=ME:=I.hok.fresh (MW _);have Y:∀b∈eX X.stack,b∈X.env.locals::X.fs:=I.stkSub;refine⟨⟨I.ok.mod,hk,I.ok.glob,I.ok.blt,MW _,λx y c h1 h2=>?_,λx hx=>?_,λx c hf h=>?_,I.ok.hd,I.ok.frames,.inl rfl,λb J=>⟨?_,λx c h e=>?_⟩,I.bs,Ng I.ok.bsz I.sz,λb o e J=>?_,λb J hf=>?_,I.stack,I.stkFree⟩,
  rfl,I.bare,Un.kept D,⟨_,ns,λi x v e1 A e3=>?_⟩,λx c h=>?_,M,λx c h=>?_,λp hp=>Nh hp (by simp),I.hok.kept D,?_⟩
 .rcases a h1 with B|⟨B,_⟩<;>rcases a h2 with Z|⟨Z,_⟩
  .exact name_of_addr ca B Z
  .exact Nh (Nm (k Z) (Ng (Re _) (O _ _ B).2)) (NU _)
  .exact Nh (Nm (k B) (Ng (Re _) (O _ _ Z).2)) (NU _)
  .exact I.ok.inj _ _ _ B Z
 .--has
  have hx:(relabel w X.env).names.lookup x=My .cell\/(relabel w X.env).names.lookup x=My .free:=hx;have hm:(x,Ue)∈w.names\/(x,Pn)∈w.names:=by
   rcases hx with hx|hx
   .rcases jn (Ol hx)with z|⟨_,z⟩
    .exact .inl z
    .exact .inr z
   .rcases jn (Ol hx)with z|⟨_,z⟩
    .exact .inr z
    .exact .inr z
  rcases hm with hm|hm
  .have q:=Vr w.names (s.heap.objs.size+1) (dC X.env.cells w.names []) (x:=x) (.inl (dm g hm))
   exact Uy.mp q
  .obtain⟨c,_,Q⟩:=E hm
   exact⟨c,Q⟩
 .--cab
  rcases a h with z|⟨_,z⟩
  .exact Ng (Re _) (O _ _ z).2
  .have z':(w.names.lookup x !=My .free)=MH:=hf
   rw[dm g z]at z';exact Nh z' (by decide)
 .obtain⟨o,e⟩:=W b J
  exact NM (Nl e)
 .rcases a h with z|⟨z,_⟩
  .obtain⟨o,e'⟩:=W b J
   subst e;exact Nh (Nm (Nl e') (Ng (Re _) (O _ _ z).2)) (NU _)
  .exact(F b J).2.2.2.2.1 x c z e
 .obtain⟨_,_,_,h4,_⟩:=F b J
  rcases h4 with z|z
  .exact I.ok.noex b o e z
  .exact Nh (Nm (Nl (I.ok.bs b o e).1) z) (NU _)
 .obtain⟨_,h2,h3,_⟩:=F b J
  rcases M4.mp (Y b hf)with z|z
  .exact h2 z
  .exact h3 z
 .--the names' values
  have hi:¬i<G.length:=λhi=>by
   rw[Qv (by simpa using hi),O7]at A;split at A<;>cases A
  have L:(G++K.map (λj=>X.N.getD j Qe))[i]?=My x:=by rw[<-T];exact e1
  rw[OU (by lia)]at L;rw[OU (by simpa using hi)]at A;rw[Oz]at A;cases q:K[i-G.length]? with
  |none=>rw[MM,q]at A;cases A
  |some j=>
   rw[MM,q]at L A;have C:X.N.getD j Qe=x:=Np L;have P:R.getD j ME=My v:=Np A;obtain⟨hj,t⟩:=U j (M2 q);rw[C]at t;obtain⟨c,Q,ab⟩:=E (Ol t);have ac:X.N[j]?=My x:=by
    rw[<-C,MN,MI hj];rfl
   have S:R[j]?=My (My v):=by
    have hl:j<R.length:=by rw[I.len];exact hj
    rw[MN,MI hl]at P;rw[MI hl];exact N6 My P
   have V:=f _ (Ol t) rfl;obtain⟨m,hn,hl⟩:=I.loc;obtain⟨u,r,l⟩:=hl j x v ac S (V.elim (λz=> .inr (.inl z)) λz=> .inr (.inr z));refine⟨u,r,.inr ⟨?_,c,ab,?_⟩⟩
   .rcases e3 with z|z|z
    .exfalso
     rcases jn (Ol z)with y|⟨y,_⟩
     .rw[dm g y]at t;cases t
     .cases y
    .exact .inl z
    .exact .inr z
   .rcases l with⟨l,_⟩|⟨_,c',e,z⟩
    .exfalso
     rcases V with y|y
     .have y':X.env.kindOf x=My .cell:=y
      rw[l]at y';cases y'
     .have y':X.env.kindOf x=My .free:=y
      rw[l]at y';cases y'
    .rw[Q]at e
     cases e;exact z.keeps D
 .rcases a h with z|⟨z,_⟩
  .exact⟨ME,(O _ _ z).1⟩
  .obtain⟨v,q⟩:=I.cell x c z
   exact⟨v,q.keeps D⟩
 .rcases a h with z|⟨z,_⟩
  .exact I.hok.fresh (Ng (Re _) (O _ _ z).2)
  .exact I.freeC x c z
 .show _=Nc.length
  rw[T,Nb,Nb,Oz,MD,MD]
abbrev TB:=St->Hp->(St->Hp->Prop)->Prop
abbrev a0W:=MK->TB
inductive W4 where
 |L (e:Expr)|S (e:Expr)|D (k v:Expr)
instance:Coe Expr W4:=⟨.L⟩
noncomputable def q_(c:W4)(gens:a0P)(u:Scope)(w:Ri):Expr:=match c with
 | .L e=> .ListComp e gens u w
 | .S e=> .SetComp e gens u w
 | .D k v=> .DictComp k v gens u w
noncomputable def XS(c:W4)(w:MO)(u:TZ):Sem Unit:=match c with
 | .L e=>do let _ <-SC (.builtin "list.append") [w,<-NW e u]
 | .S e=>do let v <-NW e u;Qi e.pos;let _ <-SC (.builtin "set.add") [w,v]
 | .D k v=>do
   let kv <-NW k u
   let vv <-QI [kv] (NW v u)
   match w with
   | .ref d=>do
    Qi {k.pos with endLine:=v.pos.endLine,endCol:=v.pos.endCol}
    QI [kv,vv] (dictSet d kv vv)
   |_=>unsupported "internal:dictcomp"
noncomputable def iu(c:W4)(w:a0P)(D:Scope)(K:Ri)(d:Nat)(G:MO)(u:TZ)(k:Sem R9):Sem R9:=
 match w[d+1]? with
 |some E=>do
  let x <-NW E.iter u
  Qi E.iter.pos
  let x <-if E.is_async !=0 then foldedIterable E.iter x else NO E.iter u x
  let _ <-runOwn (.compStart (q_ c w D K) (d+1) (<-QI [x] (if E.is_async !=0 then asyncIter x else Tl x)) G u) u
  k
 |none=>do
  XS c G u
  k
theorem vX{a b:Expr}(e:f[d]?=My ⟨a,b,l,0⟩):
  compTurn (q_ c f g i) d k j h=(do
   Qi b.pos
   match <-Ra k with
   |none=>OW (.done .next)
   |some v=>
    RN a k v
    RM a h v
    let mut ok:=MH
    for y in l do
     if ok then ok <-isTrue y h (NW y h)
    if ok then iu c f g i d j h (UV (.compLoop (q_ c f g i) d k j h))
    else UV (.compLoop (q_ c f g i) d k j h)):=by
 cases c<;>(
  unfold compTurn iu q_ XS
  dsimp only
  rw[e]
  dsimp only
  cases f[d+1]?<;>rfl)
variable{O:Ny}{A:NX}{R:Result->MQ->Prop}{s:MQ}
theorem E5(F:L[d]?=My ⟨b_,W,U,0⟩)(I:Nat->MQ->Prop)
  (q:∀n s,I n s->M0 (Nj O w) A (Ra T) (λr a=>match r with
   |none=>R (.ok .next) a
   |some v=>M0 (Nj O w) A (RN b_ T v) (λ_ b=>M0 (Nj O w) A (RM b_ H v) (λ_ j=>
    M0 (Nj O w) A (forIn U MH λy r=>if r=MH then do let E <-isTrue y H (NW y H);OW (R1 E)else OW (R1 r)) (λE g=>
     if E=MH then ∀(k:Sem R9) (B:R9->MQ->Prop) (C:a0e),(∀i m,m<n->I m i->M0 (Nj O w) A k B C i)->M0 (Nj O w) A (iu c L J N d Q H k) B C g
     else ∃m,m<n/\I m g) (λ_ _=>False) j) (λ_ _=>False) b) (λ_ _=>False) a) (λ_ _=>False) s)
  (n:Nat) (h:I n s):
  P4 (Nj O w) A (.compLoop (q_ c L J N) d T Q H) R s:=by
 refine codeAny_loop rfl I (λn s hI=>?_) n h
 suffices z:M0 (Nj O w) A ((compTurn (q_ c L J N) d T Q H).onRaise (λx=>do WC x H;theTreesLotGoes x)) (λu G=>match u with
   |Fin.done f=>R (Oq f) G
   |Fin.again c'=>c'=Code.compLoop (q_ c L J N) d T Q H/\∃m,m<n/\I m G) (λe G=>R (Except.error e) G) s by cases c<;>exact z
 refine wpAny_noted ?_;rw[vX F];refine MC (OQ (MC (NI (q n s hI) (λr a l=>?_) λ_ _ D=>D.elim)));cases r with
 |none=>exact MF l
 |some v=>
  refine MC (NI l (λ_ b p=>?_) λ_ _ D=>D.elim);refine MC (NI p (λ_ j t=>MC (NI t (λE g o=>?_) λ_ _ D=>D.elim)) λ_ _ D=>D.elim);cases E with
  |false=>exact MF ⟨rfl,o⟩
  |true=>exact o _ _ _ λi m K hI=>MF ⟨rfl,m,K,hI⟩
theorem zL(j:l[d]?=My ⟨b_,o,q,0⟩)
  (i:P4 (Nj O w) A (.compLoop (q_ c l k m) d r p n) R s)
  (h:M0 (Nj O w) A (Tl r) (λa u=>P4 (Nj O w) A (.compLoop (q_ c l k m) d a p n) R u) (λ_ _=>False) s):
  P4 (Nj O w) A (.compStart (q_ c l k m) d r p n) R s:=by
 refine U3 ?_
 suffices z:M0 (Nj O w) A ((compStart (q_ c l k m) d r p n).onRaise (λx=>do WC x n;Qi theWindowsPlace)) (λg u=>match g with
   |Fin.done f=>R (Oq f) u
   |Fin.again c'=>c'.quiet=MH/\P4 (Nj O w) A c' R u) (λe u=>R (Except.error e) u) s by cases c<;>exact z
 refine wpAny_notedAt ?_;unfold compStart;have b:(clausesOf (q_ c l k m))[d]?=My ⟨b_,o,q,0⟩:=by cases c<;>exact j
 generalize (clausesOf (q_ c l k m))[d]?=og at b⊢;subst b;show M0 _ _ (ask>>=_) _ _ s;refine MC (Rt (wpAny_ite ?_));split
 .first
   |exact MC (MF (MF (U6 rfl i)))
   |exact MF (U6 rfl i)
 .first
   |exact MC (QB (MC (OQ (MC (NI h (λa u D=>MF (U6 rfl D)) λ_ _ x=>x.elim)))))
   |(refine MC (QB ?_);show M0 _ _ (Qi o.pos>>=_) _ _ s;exact MC (OQ (MC (NI h (λa u D=>MF (U6 rfl D)) λ_ _ x=>x.elim))))
def eD(X:Cx)(b:List Expr)(t:TT):Prop:=
 ∀(a:a0b) (s:MQ) (d:St) (H:Hp) (Q:a0U),cy X a d H s->t d H Q->
  M0 (Nj X.prog X.w) X.A (forIn b MH λc r=>if r=MH then do let ok <-isTrue c X.env (NW c X.env);OW (R1 ok)else OW (R1 r)) (TP X a d Q) X.xe s
noncomputable def IM:TT:=λ_ H Q=>Q MH H
theorem uV{X:Cx}:eD X [] IM:=λ_ _ _ H _ I h=>MF ⟨H,I,h⟩
theorem EE{X:Cx}(d:PT X c t):eD X [c] t:=λa s e H Q I h=>by
 simp only[P9,Ql,NN];exact MC (MC (NI (d a s e H Q I h) (λb u f=>MF (MF f)) λ_ _ x=>x))
def PB(X:Cx)(c:W4)(gens:a0P)(u:Scope)(E:Ri)(d:Nat)(D:MK)(t:TB):Prop:=
 ∀(a:a0b) (s:MQ) (e:St) (H:Hp) (Q:a0E),cy X a e H s->t e H Q->
  ∀(k:Sem R9) (f:R9->MQ->Prop) (g:a0e),(∀G b h,cy X a b h G->Q b h->M0 (Nj X.prog X.w) X.A k f g G)->M0 (Nj X.prog X.w) X.A (iu c gens u E d (.ref D) X.env k) f g s
def dB(J:It)(g:TG)(s:TT)(j:TB):TB:=λc H Q=>∃W:Nat->Nat->St->Hp->Prop,(∃m,W 0 m c H)/\∀i m c H,W i m c H->
 (J.stop i H/\Q c H)\/(J.go i H/\∃N:St->Hp->Prop,(∀d e,N d e->∃f,f<m/\W (i+1) f d e)/\∀x e,J.yld i H x e->g x c e λa k=>s a k λb h=>if b=MH then j a h N else N a h)
def ze(D:MK)(b:TE):TB:=λa H Q=>b a H λv u=>∃s,u D=My (.lst s)/\s.length<M1/\Q a (upd u D (.lst (s++[v])))
def zd(b:TI)(c:It->TB):TB:=λa H Q=>b a H λJ s=>c J a s Q
variable{c:W4}{ac b_ P:Expr}{ab:List Expr}{gens:a0P}{scope:Scope}{aa:Ri}{d:Nat}{D:MK}
theorem sW(hg:gens[d]?=My ⟨b_,P,ab,0⟩)(hc:X.calm=MH)(F:X.xe=λ_ _=>False)(R:PG X b_ g)(S:eD X ab tt)(j:PB X c gens scope aa d D tb)
  {s:MQ}
  (I:cy X ba σ H s) (T:nw X.prog X.w X.K b_ J fp it tn) (st:tn 0 s.heap) (hf:∀b∈fp,fX X ba H b) (h:dB J g tt tb σ H Q):
  P4 (Nj X.prog X.w) X.A (.compStart (q_ c gens scope aa) d (.ref it) (.ref D) X.env) (λr E=>r= .ok .next/\∃a f,cy X ba a f E/\Q a f) s:=by
 obtain⟨W,⟨m0,w0⟩,L⟩:=h;have l:∀{f:Hp},(∀b∈fp,f b=ME)->∀b∈fp,fX X ba f b:=λhn b j=>⟨hn b j,(hf b j).2⟩;have t:P4 (Nj X.prog X.w) X.A (.compLoop (q_ c gens scope aa) d (.ref it) (.ref D) X.env) (λr E=>r= .ok .next/\∃a f,cy X ba a f E/\Q a f) s:=by
  refine E5 hg (λn E=>∃i a f,cy X ba a f E/\tn i E.heap/\(∀b∈fp,f b=ME)/\W i n a f) ?_ m0 ⟨0,σ,H,I,st,λb j=>(hf b j).1,w0⟩;rintro n s3 ⟨i,p,Z,I3,O,U,w3⟩;rcases L i n p Z w3 with⟨G,qn⟩|⟨go,N,hN,step⟩
  .refine d5 (T.done X rfl rfl rfl hc i ba s3 p Z _ I3 (l U) O G) λr s4 ⟨V,I4⟩=>?_
   subst V;exact⟨rfl,p,Z,I4,qn⟩
  .refine d5 (T.item X rfl rfl rfl hc i ba s3 p Z _ I3 (l U) O go) λr s4 ⟨u,V,h4⟩=>?_
   subst V;refine d5 h4 λ_ s5 ⟨x,H5,I5,r5,y5,v,ac⟩=>?_;have ad:=I5.pinned (l ac) (T.obj _ _ v);have UV:∀{q:St} {y:Hp} {B:MQ},cy X (ba++mq fp s5.heap) q y B->N q y->∃m,m<n/\∃i a f,cy X ba a f B/\tn i B.heap/\(∀b∈fp,f b=ME)/\W i m a f:=λ{q y B} C n7=>by
    obtain⟨m',hm,w7⟩:=hN q y n7;refine⟨m',hm,i+1,q,y,C.unpinned,T.keep _ _ _ v λb j o e=>(C.pin (b,o) (NF _ (NF _ (i5 j e)))).1,λb j=>?_,w7⟩;obtain⟨o,e,d⟩:=T.obj _ _ v b j;exact(C.pin (b,o) (NF _ (NF _ (i5 j e)))).2.1
   have h6:=R _ s5 p H5 x u _ ad r5 (step x H5 y5);rw[F]at h6;refine d5 h6 λ_ s6 ⟨Y,H6,I6,q6⟩=>?_;have h7:=S _ s6 Y H6 _ I6 q6;rw[F]at h7;refine d5 h7 λb B ⟨y,C,M⟩=>?_;cases b with
   |true=>
    rw[MU rfl]at M⊢;intro k Q' E' hk;refine j _ B Y y N C M k Q' E' λs8 ae H8 I8 n8=>?_;obtain⟨m,hm,z⟩:=UV I8 n8;exact hk s8 m hm z
   |false=>
    rw[MS MT]at M⊢;exact UV C M
 exact zL hg t (T.self X.A 0 s _ _ st t)
theorem aM(m:gens[d+1]?=ME)(o:PE X ac x)(b:X.xe=λ_ _=>False):PB X ac gens scope aa d D (ze D x):=by
 intro a s g H Q I h k y B p;unfold iu;rw[m];show M0 _ _ ((do let _ <-SC (.builtin "list.append") [.ref D,<-NW ac X.env])>>=λ_=>k) _ _ _
 have i:=o a s g H _ I h;rw[b]at i;refine MC (MC (NI i (λu C ⟨v,w,j,r,A,l,J,q⟩=>?_) λ_ _ f=>f.elim));obtain⟨z,c,n,t,L,e⟩:=j.lstM l;refine MC (Vq F.slot_list_append ⟨_,e,rfl⟩ F.entry_list_append (WF _ _) (Wu D c.toArray n u (by rw[Nf];lia)) ⟨e,?_⟩);refine MF (p _ g _ (j.lset (its':=c++[u]) l e (by simp) (t.append (.cons r .nil)) ?_) q);rw[Nb,N7];lia
theorem rm(o:gens[d+1]?=My ⟨target',iter',ifs',0⟩)(p:X.calm=MH)(a:X.xe=λ_ _=>False)(t:PI X target' iter' wi)
  (j:PG X target' g) (l:eD X ifs' tt) (u:PB X c gens scope aa (d+1) D tb) (w:∀x,NO iter' X.env x=OW x:=by intro _;rfl):PB X c gens scope aa d D (zd wi λJ=>dB J g tt tb):=by
 intro b s y H Q I h k Y Z B;unfold iu;rw[o];have i:=t b s y H _ I h;rw[a]at i;refine MC (NI i (λv E i=>MC (OQ ?_)) λ_ _ f=>f.elim);show M0 _ _ (NO iter' X.env v>>=_) _ _ _;refine MC (QA (w v) ?_);show M0 _ _ (QI [v] (Tl v)>>=_) _ _ _;refine MC (Om (NI i (λC G F=>?_) λ_ _ f=>f.elim));obtain⟨K,M,P,J,R,e,L,T,m,f2,q⟩:=F;subst e;refine MC (wpAny_runOwn (QH (sW o p a j l u L T m f2 q) λr A ⟨N,z⟩=>?_));subst N;obtain⟨n,O,U,W⟩:=z;exact B A n O U W
noncomputable def kH(c:a0h)(d:a0a)(a:St):St:=Nd c.length ME++d.map (λj=>a.getD j ME)
def X0(X:Cx)(mk:Sem MO)(g:MK->HO):Prop:=∀(a:a0b) (s:MQ) (f:St) (H:Hp) (E:a0e) (Q:a0e),cy X a f H s->
 (∀e:MQ,cy X a f (upd H s.heap.objs.size (g s.heap.objs.size)) e->(∀b o,s.heap.get? b=My o->e.heap.get? b=My o)->Q (.ref s.heap.objs.size) e)->M0 (Nj X.prog X.w) X.A mk Q E s
theorem vf{X:Cx}:X0 X (newList []) λ_=> .lst []:=λa s f H E Q I h=>Oj (h _ (I.lnew (t':=s.toks) .nil (N2 _)) λb o e=>MG _ e)
def pM(d:a0h)(s:a0a)(b:TI)(e:MK->It->TB):TE:=λa H Q=>b a H λJ c=>∀D,c D=ME->e D J (kH d s a) (upd c D (.lst [])) λ_ f=>Q (.ref D) f
structure db (X:Cx) (scope:Scope) (Nc c_:a0h) (cx:a0a):Prop where
 kind:scope.kind= .function
 nd:(scope.names.map (·.1)).Nodup
 free:∀y∈scope.names,y.2= .free->X.env.kindOf y.1=My .cell\/X.env.kindOf y.1=My .free
 names:Nc=c_++cx.map (λj=>X.N.getD j Qe)
 cap:∀j∈cx,j<X.N.length/\scope.names.lookup (X.N.getD j Qe)=My .free
variable{R:a0P}{Nc c_:a0h}{cx:a0a}{g:TG}{tt:TT}{tb:a0W}{wi:TI}
def KZ(X:Cx)(a:a0b)(H:Hp)(C:MK):Prop:=H C=ME/\C≠X.env.locals/\X.s₀.heap.objs.size<=C/\(∀x c,X.env.cells.lookup x=My c->c≠C)/\∀p∈X.pn++a,p.1≠C
theorem ir{c:W4}{mk:Sem MO}{B:MK->HO}(O:X0 X mk B){f:a0b}{F:St}{H:Hp}{s:MQ}{it:MK}{h:a0n}{Q:Nat->NS->Prop}{J:It}{E:a0e}{QQ:MK->Hp->Prop}{RR:MO->MK->Result->MQ->Prop}
  (hc:X.calm=MH) (S:db X scope Nc c_ cx)
  (L:∀(cl:a0m) (C:MK) (h:a0n) (s:MQ) (H:Hp),PG (aI X Nc scope cl C h s H) b_ g/\eD (aI X Nc scope cl C h s H) ab tt/\∀D,PB (aI X Nc scope cl C h s H) c (⟨b_,P,ab,0⟩::R) scope aa 0 D (tb D))
  (I:cy X f F H s) (T:nw X.prog X.w X.K b_ J h it Q) (st:Q 0 s.heap) (U:∀b∈h,fX X f H b)
  (q:∀D,H D=ME->dB J g tt (tb D) (kH c_ cx F) (upd H D (B D)) λ_ k=>QQ D k)
  (W:∀(D C:MK) (M:MQ) (k:Hp) (m:a0j),cy X f F k M->M.heap.Ns C m->KZ X f k C->QQ D k->RR (.ref D) C (.ok .next) M):
  M0 (Nj X.prog X.w) X.A mk (λV t=>M0 (Nj X.prog X.w) X.A (Vy scope X.env.globals (dC X.env.cells scope.names []) [] X.env.qual ME .none (My X.env)) (λj u=>
   P4 (Nj X.prog X.w) X.A (.compStart (q_ c (⟨b_,P,ab,0⟩::R) scope aa) 0 (.ref it) V {j with scope:=relabel scope X.env}) (RR V j.locals) u) E t) E s:=by
 refine O f s F H _ _ I λi l y=>?_;have hD:H s.heap.objs.size=ME:=I.fresh;have q3:=q s.heap.objs.size hD;have Y:∀b∈h,∃o,i.heap.get? b=My o:=λb L=>let ⟨o,e,_⟩:=T.obj _ _ st b L;⟨o,y b o e⟩
 have Z:∀b∈h,fX X f (upd H s.heap.objs.size (B s.heap.objs.size)) b:=λb a=>⟨by
  rw[bt]
  .exact(U b a).1
  .obtain⟨o,e,_⟩:=T.obj _ _ st b a
   exact NM (Nl e),(U b a).2⟩
 generalize ac:upd H s.heap.objs.size (B s.heap.objs.size)=H3 at l q3 Z;generalize s.heap.objs.size=D at hD ac q3⊢;refine FA λh' ns G ce ca=>?_;have N:=Fh l S.kind S.nd S.free S.names S.cap Z Y ns G ce ca;obtain⟨b1,b2,b3⟩:=L (OG (i.heap.objs.size+1) scope.names (dC X.env.cells scope.names [])) i.heap.objs.size h i H3;have ad:Q 0 h':=T.keep _ _ _ st λb L o e=>G b o (y b o e);have f4:∀b∈h,fX (aI X Nc scope (OG (i.heap.objs.size+1) scope.names (dC X.env.cells scope.names [])) i.heap.objs.size h i H3) [] H3 b:=λb a=>
  ⟨(Z b a).1,(N.ok.exf b a).1,N.ok.exfs b a,.inl a,(N.ok.exf b a).2,λp hp=>Nh hp (by simp)⟩
 refine QH (sW (X:=aI X Nc scope (OG (i.heap.objs.size+1) scope.names (dC X.env.cells scope.names [])) i.heap.objs.size h i H3) (gens:=⟨b_,P,ab,0⟩::R) (d:=0) rfl hc rfl b1 b2 (b3 D) N T ad f4 q3) λr M ⟨hr,ae,k,n,q'⟩=>?_;subst hr;obtain⟨m,hm,_⟩:=n.loc;have C1:X.env.locals<i.heap.objs.size:=l.lt;refine W D _ M k m (l.call' (ch:=h) n.os n.base n.hok n.bare λb a=>?_) hm ⟨n.free,Pe C1,l.sz,λx c e z=>?_,λp hp z=>?_⟩ q'
 .obtain⟨_,h2,h3,h4,h5,h6⟩:=U b a
  exact⟨h4,h2,h5,h6⟩
 .obtain⟨v,e'⟩:=l.cell x c e
  exact Nh (z▸e'.lt) (NU _)
 .have:=Nl (l.pin p hp).1
  rw[z]at this;exact Nh this (NU _)
theorem cy.letgo{s:MQ}(I:cy X ba h H s)(o:KZ X ba H C)(c:Nx C s.heap i):cy X ba h H {s with heap:=i}:=
 I.turned (t':=s.toks) (λb f a e=>(c.2 b a).trans e) o.1 (Ne.symm (Ne.symm o.2.1)) (.inr o.2.2.1) o.2.2.2.1 o.2.2.2.2
theorem db.clo(S:db X scope Nc c_ cx)(c:X.Ok):closureFor scope X.env=OW (dC X.env.cells scope.names []):=y7 λy a b=>c.has y.1 (S.free y a b)
theorem db.loc(S:db X scope Nc c_ cx):∀x∈scope.names,x.2= .local->scope.names.lookup x.1=My .local:=λx a b=>dm S.nd (by rw[<-b];exact a)
theorem nh(j:X.calm=MH)(S:db X scope Nc c_ cx)(k:PI X b_ P wi)
  (l:∀(d:a0m) (C:MK) (b:a0n) (s:MQ) (H:Hp),PG (aI X Nc scope d C b s H) b_ g/\eD (aI X Nc scope d C b s H) ab tt/\∀D,PB (aI X Nc scope d C b s H) ac (⟨b_,P,ab,0⟩::R) scope aa 0 D (tb D))
  (G:∀x,NO P X.env x=OW x:=by intro _;rfl):PE X (.ListComp ac (⟨b_,P,ab,0⟩::R) scope aa) (pM c_ cx wi λD J=>dB J g tt (tb D)):=by
 intro a s n H Q I h;rw[eval_ListComp];refine PX (use:=ME) rfl G (S.clo I.ok) S.kind S.loc (NI (k a s n H _ I h) (λv N o=>NI o (λp O r=>?_) λ_ _ x=>x) λ_ _ x=>x);obtain⟨M,b,U,J,W,e,t,T,f,f2,q⟩:=r;subst e;refine ir (c:= .L ac) vf (RR:=λE C=>Vs (Nj X.prog X.w) X.A X.xe ME _ E C) j S l t T f f2 q λD C V u m y K B F=>?_;exact⟨m,K,λz i=>⟨.ref D,u,y.letgo B i,rfl,F⟩⟩
theorem wQ{b f:Ri}(y:X.N.Nodup)(l:X.N[i]?=My x)(B:B3 X.env.scope x)(F:X.calm=MH)(S:db X scope Nc c_ cx)(O:PI X b_ P wi)
  (U:∀(d:a0m) (C:MK) (k:a0n) (s:MQ) (H:Hp),PG (aI X Nc scope d C k s H) b_ g/\eD (aI X Nc scope d C k s H) ab tt/\∀D,PB (aI X Nc scope d C k s H) ac (⟨b_,P,ab,0⟩::R) scope aa 0 D (tb D))
  (n:Q1 (.ListComp ac (⟨b_,P,ab,0⟩::R) scope aa) (My (.Name x b)) f.line X.env=OW MH:=by rfl)
  (G:∀x,NO P X.env x=OW x:=by intro _;rfl) (W:b0d X x:=by first|exact .inl rfl|exact .inr rfl|assumption):
  PS X (.Assign [.Name x b] (.ListComp ac (⟨b_,P,ab,0⟩::R) scope aa) f) (iC (pM c_ cx wi λD J=>dB J g tt (tb D)) (fQ i)):=by
 intro j s Y H D I h;rw[exec_Assign_Name_used _ _ _ _ n];refine MC (OQ (MC ?_));show M0 _ X.A (do let _ <-comprehension (.ListComp ac (⟨b_,P,ab,0⟩::R) scope aa) scope X.env _ (newList []) ML (NW P X.env) (My (RM (.Name x b) X.env))) _ _ s
 refine MC (NI (PX (use:=My (RM (.Name x b) X.env)) (Q:=λ_ s'=>SP X j D .next s') rfl G (S.clo I.ok) S.kind S.loc
  (NI (O j s Y H _ I h) (λv s1 Z=>NI Z (λK M V=>?_) λ_ _ e=>e) λ_ _ e=>e)) (λ_ s' hq=>MF (MF hq)) λ_ _ e=>e)
 obtain⟨it,k,tn,J,H2,e,o,T,p,f2,q⟩:=V;subst e;refine ir (c:= .L ac) vf (RR:=λE C=>Vs (Nj X.prog X.w) X.A X.xe (My (RM (.Name x b) X.env)) _ E C) F S U o T p f2 q λA C s' H' m I' ns r q'=>?_;show M0 _ X.A (RM (.Name x b) X.env (.ref A)) _ _ s';refine Uu (l3 I' y l B (v:= .ref A) rfl (λM o ⟨a,sb,ha⟩=>?_) W);have t:C≠a:=by
  rcases ha with rfl|ha
  .exact r.2.1
  .exact λz=>r.2.2.2.1 x a ha z.symm
 exact⟨m,ns.sameBut sb t,λh' u=>⟨_,H',o.letgo r u,q'⟩⟩
end
end L2
namespace L2
open Sem (wp)
open Builtin Builtin.ObjectAttr
noncomputable abbrev dy(C:MK)(D:a0B)(t:MK):Oa:={cls:= .ref C,dict:=D,data:= .fields #[.ref t,.none,.none,.none,.bool ML,.none]}
structure j2 (h:NS) (C:MK) (bm:a0f):Prop where
 at_:∃(nm q:NA) (N:MK) (bs:a0f) (hdct:Bool) (sn:a0h) (sub:a0f) (ab:Bool) (col:a0S) (dd:a0B) (k0 k1 k2 k3 k5:Option MO),
  h.get? C=My (excClassObj nm q C N bs bm hdct sn sub ab col dd k0 k1 k2 k3 k5 "ValueError.__new__")
 val:bm.contains (.type "ValueError")=MH
 bas:bm.contains (.type "BaseException")=MH
 att:bm.contains (.type "AttributeError")=ML
 nam:bm.contains (.type "NameError")=ML
section
variable{O:Ny}{w:NC}{A:NX}{E:a0e}{h:NS}{g:Array GenState}{d:Drawn}{t:Nat}{I:Pi}{C:MK}{bm z:a0f}
theorem Ii(S:j2 h C bm)
  (l:R (.ok (.ret (.ref (h.objs.size+1)))) ⟨(h.push {cls:= .type "tuple",data:= .seq z.toArray}).push (dy C ME h.objs.size),g,d,t,I⟩) (b:z.length<=M1):
  P4 (Nj O w) A (.builtin "ValueError.__new__" ⟨.ref C::z,[]⟩) R ⟨h,g,d,t,I⟩:=by
 obtain⟨⟨K,q,N,M,D,V,E,r,G,s,u,v,x,y,B,c⟩,m,hB,n,o⟩:=S;have a:=Qg;have e:=a.ends;have f:(M6 C::bm).contains (.type "ValueError")=MH:=by rw[PZ,m,Tw]
 have i:(M6 C::bm).contains (.type "AttributeError")=ML:=by rw[PZ,n];rfl
 have j:(M6 C::bm).contains (.type "NameError")=ML:=by rw[PZ,o];rfl
 refine codeAny_builtinAt a.entry ?_;unfold Builtin.«BaseException.__new__»;refine PySem.wpAt_bind ?_;show PySem.wpAt _ _ _ (stack>>=_) _ _ _;refine PySem.wpAt_bind (PySem.wpAt_stack λp k=>PySem.wpAt_of_wpAny ?_)
 wp_walk
 refine wpAt_of_wpAny ?_;rw[a.owner]
 repeat (first|with_reducible refine wpAny_madeHere_exc a.canon c ?_|with_reducible refine Pc c ?_|(with_reducible refine RT c ?_;first|rw[f]|rw[i]|rw[j])|wp_step)
 show R _ _;rw[Og];exact l
theorem tM{K:M9}(X:K.In h)(S:j2 h C bm)(m:O8 K (.ref C) "__init__"=My (My (.ref fI)))(n:isFn K (.ref fI)=MH)(a:z.length<=M1)
  (p:M0 (Nj O w) A (SC (.ref fI) (.ref (h.objs.size+1)::z)) (λr G=>r= .none/\Q (.done (.ret (.ref (h.objs.size+1)))) G) E
   ⟨(h.push {cls:= .type "tuple",data:= .seq z.toArray}).push {cls:= .ref C,data:= .fields #[.ref h.objs.size,.none,.none,.none,.bool ML,.none]},g,d,t,I⟩):
  M0 (Nj O w) A (Builtin.«type.__call__» ⟨.ref C::z,[]⟩) Q E ⟨h,g,d,t,I⟩:=by
 have u:=S;obtain⟨⟨J,q,N,L,M,P,V,R,s,T,U,W,Y,Z,k5,f⟩,v,hB,F,H⟩:=S;have k:=Qg
 repeat (first|with_reducible refine Pc f ?_|with_reducible refine wpAny_madeBy_exc f ?_|wp_step)
 refine codeAny_call_builtin_code (Tf _ k.quiet) (wpAny_check_new_subU k v (OwnTail.base (bmB:=bm)) f ?_);refine Ii u ?_ a;show M0 _ _ _ _ _ _;have D:∀b o,h.get? b=My o->((h.push {cls:= .type "tuple",data:= .seq z.toArray}).push {cls:= .ref C,data:= .fields #[.ref h.objs.size,.none,.none,.none,.bool ML,.none]}).get? b=My o:=λb o e=>MG _ (MG _ e);have i:=D _ _ f;have l:=X.keeps D;have c:((h.push {cls:= .type "tuple",data:= .seq z.toArray}).push {cls:= .ref C,data:= .fields #[.ref h.objs.size,.none,.none,.none,.bool ML,.none]}).get? (h.objs.size+1)=My {cls:= .ref C,data:= .fields #[.ref h.objs.size,.none,.none,.none,.bool ML,.none]}:=by heap_get
 have j:(M6 C::bm).contains (.ref C)=MH:=by simp
 unfold Sb
 repeat (first|with_reducible refine Pc c ?_|(with_reducible refine RT i ?_;rw[j])|wp_step)
 show M0 _ _ (typeLookup (.ref C) _) _ _ _;refine(Uq l m).here ?_;refine Om (MC ((Wp l (.ref (h.objs.size+1)) (beq_iff_eq.mp n)).here ?_));refine MC (NI p (λr G y=>?_) λ_ _ x=>x);obtain⟨rfl,B⟩:=y
 wp_walk
 exact B
theorem Fz{K:M9}(X:K.In h)(S:j2 h C bm)(c:O8 K (.ref C) "__init__"=My (My (.ref fI)))(e:isFn K (.ref fI)=MH)(a:z.length<=M1)
  (f:M0 (Nj O w) (A.under (.builtin "type.__call__" ⟨.ref C::z,[]⟩)) (SC (.ref fI) (.ref (h.objs.size+1)::z)) (λr G=>r= .none/\Q (.ref (h.objs.size+1)) G) E
   ⟨(h.push {cls:= .type "tuple",data:= .seq z.toArray}).push {cls:= .ref C,data:= .fields #[.ref h.objs.size,.none,.none,.none,.bool ML,.none]},g,d,t,I⟩):
  M0 (Nj O w) A (SC (.ref C) z) Q E ⟨h,g,d,t,I⟩:=by
 have i:=S;obtain⟨⟨n,q,N,o,D,p,M,s,V,u,v,x,y,B,F,b⟩,j,hB,k,l⟩:=S;have f1:=tc_lookup;have f2:=tc_bind (.ref C);have m:(⟨h,g,d,t,I⟩:MQ).TypeIs (.ref C) "type":=⟨_,b,rfl⟩;refine Se (U3 ?_);show M0 _ _ (callAny (.ref C) _) _ _ _
 repeat (any_goals (first|assumption|with_reducible refine Pc b ?_|wp_step))
 refine⟨rfl,?_⟩;exact codeAny_call_builtin_at (Tf _ (by decide +kernel)) entry_typeCall (wpAny_check_type_call_sub b (tM X i c e a f))
theorem rK{l:Oa}{M:TW}(S:j2 h C bm)(o:h.get? e=My l)(c:l.cls= .ref C)(p:Q () ⟨h,g,d,t,I⟩):
  M0 M A (UM "ValueError.__init__" ⟨.ref e::z,[]⟩) Q E ⟨h,g,d,t,I⟩:=by
 obtain⟨⟨K,q,N,O,w,V,D,s,G,y,B,F,H,J,L,m⟩,r,hB,u,v⟩:=S;have i:=Qg;have k:(M6 C::bm).contains (.type "ValueError")=MH:=by rw[PZ,r,Tw]
 have j:=i.noStar;simp only[UM,i.initKind,i.initSplit,i.initRow]
 repeat (first|(with_reducible refine Pc o ?_;rw[c])|with_reducible refine Pc m ?_|(with_reducible refine RT m ?_;rw[k])|wp_step)
 refine SE ?_;have f:∀(a b:String) (n:Nat),Bind.check ⟨.positional,"*","ValueError",.self,[⟨"args",.varPos,ML⟩]⟩ a b n (NZ (λx=>x.fst) ({pos:=M6 e::z}:Args).kw)=OW ():=λa b n=>check_star_args _ _ _ _ _ _;rw[f];exact MF p
theorem CN(S:j2 h C bm)(f:h.get? e=My (dy C m t0))(a:z.length<=M1)
  (j:∀D:NS,D.get? e=My (dy C m h.objs.size)->(∀b o,b≠e->h.get? b=My o->D.get? b=My o)->Q .none ⟨D,g,d,t,I⟩):
  M0 (Nj O w) A (SC (.builtin "ValueError.__init__") (.ref e::z)) Q E ⟨h,g,d,t,I⟩:=by
 have i:=Qg;refine Se (RA i.init.plain i.initEntry (rK S f rfl ?_));have c:=MG {cls:= .type "tuple",data:= .seq z.toArray} f;unfold Builtin.«BaseException.__init__»
 dsimp only
 refine MC ?_;refine Ts ?_ a;unfold VR;refine MC (MC (Oe c rfl (x:= .ref t0) rfl ?_));refine MC (Ps c rfl (by simp) ?_)
 dsimp only
 refine Tq (MF ?_);refine j _ ?_ λb o k l=>?_
 .rw[Oy _ c rfl]
  rfl
 .rw[Pa _ _ (Ne.symm k)]
  exact MG _ l
noncomputable def fR:a0f->Bool
 |[.type a,.type b,.type c,.type d]=>a=="ValueError"&&b=="Exception"&&c=="BaseException"&&d=="object"
 | .ref _::r=>fR r
 |_=>ML
theorem uT(d:MO):refuseLoop d "__setattr__" [.type "ValueError",.type "Exception",.type "BaseException",.type "object"]=OW ():=by kernel_rfl
theorem qf(g:MO):∀{l:a0f},fR l=MH->refuseLoop g "__setattr__" l=OW ()
 |[.type a,.type b,.type c,.type d],e=>by
  simp only[fR,No,PV]at e;obtain⟨⟨⟨rfl,rfl⟩,rfl⟩,rfl⟩:=e;exact uT g
 | .ref c::r,e=>by rw[refuseLoop_ref];exact qf g (by cases r<;>exact e)
theorem xo:∀{l:a0f},fR l=MH->l.contains (.type "object")=MH
 |[.type a,.type b,.type c,.type d],e=>by
  simp only[fR,No,PV]at e;obtain⟨⟨⟨rfl,rfl⟩,rfl⟩,rfl⟩:=e;decide
 | .ref c::r,e=>by rw[PZ,xo (l:=r) (by cases r<;>exact e),Tw]
variable{s:MQ}{e:MK}{K:M9}{g:ClassData}{d:NA}{v:MO}
theorem Fy{k:Oa}(X:K.In s.heap)(m:s.heap.get? e=My k)(a:k.cls= .ref C)(l:clsIn K C=My g)(i:fR g.mro=MH)(n:O8 K (.ref C) d=My ME)
  (h:∀b,M0 (Nj O w) A.in1 (storeInOwnDict (.ref e) (.ref C) (.str d o) d v b)
   (λj t=>match j with| .done f=>R (.ok f) t| .again p=>p.quiet=MH/\P4 (Nj O w) A p R t) (λx t=>R (.error x) t) s):
  P4 (Nj O w) A (.call (.builtin "object.__setattr__") ⟨[.ref e,.str d o,v],[]⟩) R s:=by
 have c:=PySem.F.store_object;have tp:O9 (Nj O w) s.heap (WP (.ref e)) (.ref C):=by
  have:=(SJ (M:=Nj O w) (part:=My headPart) m);exact this.andThen (by rw[a];exact .now)
 have D:g.mro.isEmpty=ML:=by cases q:g.mro with|nil=>rw[q]at i;cases i|cons _ _=>rfl
 have z:O9 (Nj O w) s.heap (Sb (.ref e) (.type "object")) MH:=tp.andThen (PySem.W.looks_mroIn X (by unfold mroIn;rw[l,PD,MS (by rw[D];decide),xo i]));refine RA c.slot.plain c.entry (@PySem.W.check_slot (Nj O w) _ _ s "object.__setattr__" "object" "__setattr__" (.ref e) [.str d o,v] [] _ c.kind c.split z (c.args (.ref e) (.str d o) v) ?_);have E:O9 (Nj O w) s.heap (mroOf (.ref C)) g.mro:=(looks_clsIn X l).andThen .now;rw[PySem.W.osa_eq,refuse_eq];refine MC (MC (tp.here (MC (E.here ?_))));rw[qf _ i];refine MF (MC (tp.here (MC ((Uq X n).here (MC (MF ?_))))));exact h _
theorem CP{b:Oa}(X:K.In s.heap)(c:s.heap.get? e=My b)(a:b.cls= .ref C)(t:O8 K (.ref C) "__setattr__"=My (My (.builtin "object.__setattr__")))
  (h:P4 (Nj O w) A (.call (.builtin "object.__setattr__") ⟨[.ref e,.str d s.toks,v],[]⟩) (λr g=>match r with| .ok (.ret _)=>Q () g| .ok _=>False| .error x=>E x g) {s with toks:=s.toks+1}):
  M0 (Nj O w) A (setAttr (.ref e) d v) Q E s:=by
 have tp:O9 (Nj O w) s.heap (WP (.ref e)) (.ref C):=by
  have:=(SJ (M:=Nj O w) (part:=My headPart) c);exact this.andThen (by rw[a];exact .now)
 refine MC (wpAny_mkText (MC (MC (MC (tp _ _ _ _ (λ_ _ e=>e) (Uq X t _ _ _ _ (λ_ _ e=>e) (Om ?_)))))));rw[PySem.F.store_object.slot.bind];refine MC (MF (MC (Se (QH h λr g z=>?_))));rcases r with x|(v|_|_|_)<;>first|exact z|exact MF (MF z)
theorem Fu(X:K.In s.heap)(a:s.heap.get? e=My (dy C ME t0))
  (h:O8 K (.ref C) "__setattr__"=My (My (.builtin "object.__setattr__"))) (p:clsIn K C=My g) (t:g.hasDict=MH) (r:fR g.mro=MH) (u:O8 K (.ref C) d=My ME)
  (B:∀h':NS,h'.get? e=My (dy C (My s.heap.objs.size) t0)->h'.Ns1 s.heap.objs.size (λy=>if y=d then My v else ME)->
   (∀b o,b≠e->s.heap.get? b=My o->h'.get? b=My o)->Q () {s with heap:=h',toks:=s.toks+2}):
  M0 (Nj O w) A (setAttr (.ref e) d v) Q E s:=by
 refine CP X a rfl h (Fy (s:={s with toks:=s.toks+1}) X a rfl p r u λb=>?_);refine MC (MF (MC (MC (VD a (MC (Ul (s:={s with toks:=s.toks+1}) (looks_clsIn X p) ?_))))));rw[t];refine MC (wpAny_alloc ?_);have c:=MG {cls:= .type "dict",data:= .dict #[]} a;refine MC (wpAny_update c (MF ?_));have F:((s.heap.push {cls:= .type "dict",data:= .dict #[]}).update e λo=>{o with dict:=My s.heap.objs.size}).get? e=My (dy C (My s.heap.objs.size) t0):=Oy _ c rfl;have f:s.heap.objs.size≠e:=Pe (Nl a);have z:((s.heap.push {cls:= .type "dict",data:= .dict #[]}).update e λo=>{o with dict:=My s.heap.objs.size}).Ns1 s.heap.objs.size λ_=>ME:=by
  refine Vf ((Heap.Ns.new s.heap (.type "dict")).sameBut (Os ..) f)
 refine MC (MF (MC ?_));refine wpAny_nsSet1 z λh' i j=>?_;obtain⟨L,H,I,k,l,m⟩:=i.count (UL d v Rp.nil);refine MC (wpAny_lookBehind k (by rw[l];exact pastItsLine_dict (Ng m (by show 1<=M1+1;decide))) ?_);refine MF (B h' ((j.2 _ (Ne.symm f)).trans F) i λb o J q=>?_);have n:b≠s.heap.objs.size:=NM (Nl q);refine(j.2 _ n).trans ?_;rw[Pa _ _ (Ne.symm J)];exact MG _ q
theorem CQ{f:Oa}{b:Bool}{M:TW}(X:K.In s.heap)(i:s.heap.get? e=My f)(a:f.cls= .ref C)(j:Vu K (.ref C) c=My b)(k:Q b s):
  M0 M A (excMatches (.ref e) c) Q E s:=by
 have tp:O9 M s.heap (WP (.ref e)) (.ref C):=by
  have:=(SJ (M:=M) (part:=My headPart) i);exact this.andThen (by rw[a];exact .now)
 exact(PySem.W.exm_one X tp j).here k
theorem CO{bm:a0f}{dx:a0B}{t0:MK}{env:TZ}{M:TW}{x:Sem MO}{Q:Flow->MQ->Prop}(j:A.handled=ME)
  (h:M0 M A x (λv a=>∃e t0 dx C bm,v= .ref e/\j2 a.heap C bm/\a.heap.get? e=My (dy C dx t0)/\E (.ref e) a) E s):M0 M A (raiseStmt env (My x) ME) Q E s:=by
 unfold raiseStmt;refine MC (NI h (λv a b=>?_) λ_ _ x=>x);obtain⟨e,t0,dx,C,bm,rfl,S,k,l⟩:=b;obtain⟨⟨D,q,N,G,t,K,w,O,z,V,u,y,B,F,H,i⟩,m,hB,n,o⟩:=S;have c:(M6 C::bm).contains (.type "BaseException")=MH:=by rw[PZ,hB,Tw]
 have f:a.heap.get? e=My {cls:= .ref C,dict:=dx,data:= .fields #[.ref t0,.none,.none,.none,.bool ML,.none]}:=k;obtain⟨p,g,d,r,I⟩:=a
 repeat (first|with_reducible refine Pc f ?_|with_reducible refine Pc i ?_|(with_reducible refine RT i ?_;rw[c])|wp_step)
 exact wpAny_raiseNew_none j l
end
end L2
namespace L2
noncomputable def eL(C x:MK)(D:a0B):HO:= .ext λh=>∃t,h.get? x=My (dy C D t)
theorem bX.there{h:NS}(x:bX P w H h a o):∃b,h.get? a=My b:=by
 cases o with
 |lst xs=>obtain⟨_,_,_,_,e⟩:=x;exact⟨_,e⟩
 |tup xs=>obtain⟨_,_,_,_,e,_⟩:=x;exact⟨_,e⟩
 |ins C dx fs=>obtain⟨_,_,_,e,_⟩:=x;exact⟨_,e⟩
 |own y=>exact x
 |xd fs=>obtain⟨_,⟨_,_,_,e,_⟩,_⟩:=x;exact⟨_,e⟩
 |rng lo hi=>obtain⟨_,_,_,e⟩:=x;exact⟨_,e⟩
 |frz b u=>obtain⟨e,_⟩:=x;exact⟨_,e⟩
 |tbl ps=>exact⟨_,(show h.get? a=My _ from x)⟩
 |met f y=>exact⟨_,(show h.get? a=My _ from x)⟩
 |ext φ=>obtain⟨_,e,_⟩:=x;exact e
theorem rL{h:NS}(e:h.get? x=My (dy C b t)):bX P w H h x (eL C x b):=
 ⟨⟨t,e⟩,⟨_,e⟩,λ_ _ ⟨t,a⟩ k=>⟨t,k _ a⟩⟩
theorem ly{h:NS}(q:bX P w H h x (eL C x dx)):∃t,h.get? x=My (dy C dx t):=q.1
noncomputable def gq(H:Hp)(x:MK):Hp:=λb=>if b=x then ME else H b
theorem CY:gq H x x=ME:=by unfold gq;rw[MU rfl]
theorem jc(h:b≠x):gq H x b=H b:=by unfold gq;rw[MS h]
theorem CW(h:gq H x b=My o):b≠x/\H b=My o:=by
 unfold gq at h;split at h
 .cases h
 .exact⟨by assumption,h⟩
structure g8 (P:Ny) (w:NC) (outer:a0C) (H:Hp) (s:MQ) (E:XK) (x C:MK) (H':Hp) (s':MQ):Prop where
 os:s'.os=s.os
 bare:RU s'.gens
 un:Un (eX outer) [] H H' s.heap s'.heap
 hok:j_ P w H' s'.heap
 tr:∃(oe:Oa) (vs:a0J) (T:MK) (oT:Oa) (ts:a0J) (a0:MO),s'.heap.get? x=My oe/\(oe.cls= .ref C/\vs[0]?=My a0)/\oe.data= .fields vs/\vs[1]?=My (.ref T)/\T≠x/\s'.heap.get? T=My oT/\oT.data= .fields ts/\ts[3]?=My .none/\H' T=ME/\s.heap.get? T=ME
 xn:H' x=ME
 xs:s.heap.get? x=ME
 wish:E (.ref C) ME H'
def fh(P:Ny)(w:NC):E_:=λD H s E e G=>∃x C a,e= .ref x/\g8 P w D H s E x C a G
theorem sL{X:Cx}{s G:MQ}{E:XK}(I:cy X ba σ H s)(g:X.stack=X.env::X.outer)(i:X.env.frame=My X.env.locals)(R:X.ex=[])
  (os:G.os=X.s₀.os) (M:RU G.gens) (d:Un (eX X.stack) [] X.H₀ H' X.s₀.heap G.heap) (S:j_ X.prog X.w H' G.heap) (y:∀b∈eX X.stack,H' b=ME)
  (c:∀b∈ext,X.s₀.heap.get? b=ME/\H' b=ME) (O:x∈ext) (V:E (.ref C) ME H')
  (L:Heap.LeftW (SW G.heap (ext++eX X.stack)) (X.env::X.outer) x (.ref C) a0 G.heap h'):g8 X.prog X.w X.outer X.H₀ X.s₀ E x C H' {G with heap:=h'}:=by
 obtain⟨U,L2,W,Y⟩:=L;have j:∀b∈eX X.outer,b∈eX X.stack:=λb hb=>by
  rw[g];unfold eX;rw[Ov,i];exact MJ _ hb
 have h:∀b∈eX X.stack,b=X.env.locals\/b∈eX X.outer:=λb hb=>by
  rw[g]at hb;unfold eX at hb;rw[Ov,i]at hb;exact M4.mp hb
 have A:∀b o,X.s₀.heap.get? b=My o->b≠X.env.locals:=λb o e=>NM (Nm (Nl e) I.ok.above);have D:∀b o,G.heap.get? b=My o->b∉ext->b∉eX X.stack->h'.get? b=My o:=λb o e B Z=>
  U b o (Tk _ e λhm=>(NP.mp hm).elim B Z)
 have k:∀b o,X.s₀.heap.get? b=My o->b∉ext:=λb o e hb=>by rw[(c b hb).1]at e;cases e
 have f:∀b∈eX X.stack,∃o,h'.get? b=My o/\∀vs,o.data≠ .fields vs:=λb hb=>(L2.mem (by rw[<-g];exact hb)).2;obtain⟨oe,vs,T,oT,P,he,hc,hd,B,l,F,Q,m,h3⟩:=W;have p:H' T=ME/\X.s₀.heap.get? T=ME:=by
  by_cases hm:T∈ext++eX X.stack
  .rcases NP.mp hm with hm|hm
   .exact⟨(c T hm).2,(c T hm).1⟩
   .obtain⟨o,e,K⟩:=f T hm
    rw[Q]at e;cases e;exact Nh m (K P)
  .have hs:G.heap.get? T=ME:=by
    cases q:G.heap.get? T with
    |none=>rfl
    |some o=>rw[Tk _ q hm]at l;cases l
   constructor
   .cases q:H' T with
    |none=>rfl
    |some o=>obtain⟨ob,e⟩:=(S T o q).there;rw[hs]at e;cases e
   .cases q:X.s₀.heap.get? T with
    |none=>rfl
    |some o=>obtain⟨ob,e⟩:=d.there T o q (by simp);rw[hs]at e;cases e
 refine⟨os,M,⟨λb o e n hb _=>?_,λb o e n hb _=>?_,λb o e n hb=>d.free b o e n hb,λb o e _=>?_,d.tups,d.frzs,d.tbls⟩,λa o e=>?_,⟨oe,vs,T,oT,P,a0,he,hc,hd,B,F,Q,m,h3,p.1,p.2⟩,(c x O).2,(c x O).1,V⟩
 .have K:b∉eX X.stack:=λz=>(h b z).elim (A b o e) hb
  exact D b o (d.keep b o e n K (by simp)) (k b o e) K
 .obtain⟨sl,r⟩:=d.slot b o e n (j b hb) (by simp)
  obtain⟨_,J,v,K⟩:=I.ok.funs.mem hb;rw[e]at v;cases v;obtain⟨N,e3⟩:=Y b _ r K;exact⟨N,e3⟩
 .obtain⟨J,r⟩:=d.there b o e (by simp)
  by_cases hb:b∈eX X.stack
  .obtain⟨o2,v,_⟩:=f b hb
   exact⟨o2,v⟩
  .exact⟨J,D b J r (k b o e) hb⟩
 .refine(S a o e).stay (λb u hb r=>?_) (λ_ q=>q) λ_ _ q=>q
  have t:H' b≠ME:=by
   rcases hb with rfl|hb
   .rw[e];simp
   .rw[hb];simp
  exact D b u r (λz=>t (c b z).2) λz=>t (y b z)
theorem mE{h base:NS}(d:h.FunFrames base l)(c:∀b∈eX l,b∈as):h.FunFrames (SW h as) l:=
 PySem.W.funFrames_hide d λD e a E=>c a (by unfold eX;exact RE.mpr ⟨D,e,E⟩)
theorem HB{X:Cx}{E F:XK}(a:X.stack=X.env::X.outer)(d:X.env.frame=My X.env.locals)(f:X.ex=[])(Q:∀D dx H,F D dx H->E D dx H)
  (I:cy X ba σ H s) (h:fh X.prog X.w X.stack H s F e s'):
  M0 (Nj X.prog X.w) X.A (leaving X.env e) (λ_ j=>fh X.prog X.w X.outer X.H₀ X.s₀ E e j) E1 s':=by
 obtain⟨x,C,J,rfl,os,G,S,V,⟨R,vs,T,U,W,a0,Y,Z,hd,h1,k,hT,m,h3,n,p⟩,xn,xs,K⟩:=h;have M:∀b∈X.fs,b∈eX X.stack:=λb hb=>by
  rw[a];unfold eX;rw[Ov,d];exact MJ _ hb
 have N:Un (eX X.stack) [] X.H₀ H X.s₀.heap s.heap:=by
  have b:=I.base;rw[f]at b;exact b.mono M λ_ z=>z
 have U0:=N.trans S;have g:∀b,s.heap.get? b=ME->X.s₀.heap.get? b=ME:=λb e=>by
  cases q:X.s₀.heap.get? b with
  |none=>rfl
  |some o=>obtain⟨o',O⟩:=N.there b o q (by simp);rw[e]at O;cases O
 have c:=I.stack;have i:s'.heap.FunFrames X.base X.stack:=by
  have aa:∀(l:a0C),(∀b∈eX l,b∈eX X.stack)->s.heap.FunFrames X.base l->s'.heap.FunFrames X.base l:=by
   intro l
   induction l with
   |nil=>intro _ _;trivial
   |cons ab r ih=>
    intro hs hl;obtain⟨hk,⟨L,o,t,hn,u,v⟩,hr⟩:=hl;have P:L∈eX X.stack:=hs L (by unfold eX;rw[Ov,t];exact MP);obtain⟨sl,e⟩:=S.slot L o u (I.stkFree L P) P (by simp);exact⟨hk,⟨L,_,t,hn,e,v⟩,ih (λb hb=>hs b (by unfold eX;rw[Ov,t];exact MJ _ hb)) hr⟩
  exact aa X.stack (λ_ hb=>hb) c
 have y:∀b∈eX X.stack,J b=ME:=λb hb=>by
  obtain⟨_,o,u,_⟩:=c.mem hb;exact S.free b o u (I.stkFree b hb) (by simp)
 have B:∀b∈eX X.stack,b∈[x,T]++eX X.stack:=λb hb=>NF _ hb;have hF:s'.heap.FunFrames (SW s'.heap ([x,T]++eX X.stack)) (X.env::X.outer):=by
  have z:=mE i B;rw[a]at z⊢;exact z
 refine wpAny_leaving_nextW (base:=SW s'.heap ([x,T]++eX X.stack)) (by rw[<-a];exact I.ok.frames) hF d ⟨R,vs,T,U,W,Y,Z,hd,h1,RZ _ (by simp),k,hT,m,h3⟩ (λb o q=>VA _ q) (RZ _ (by simp)) λh' L=>?_;refine⟨x,C,J,rfl,sL I a d f (os.trans I.os) G U0 V y (λb hb=>?_) (by simp) (Q _ _ _ K) L⟩;rcases M4.mp hb with rfl|hb
 .exact⟨g _ xs,xn⟩
 .obtain rfl:b=T:=by simpa using hb
  exact⟨g _ p,n⟩
theorem EO{X:Cx}{E:XK}(c:X.stack=X.env::X.outer)(g:X.env.frame=My X.env.locals)(h:X.ex=[])
  (I:cy X ba O H s) (j:H x=My (eL C x dx)) (m:X.H₀ x=ME) (D:E (.ref C) ME (gq H x)):
  M0 (Nj X.prog X.w) X.A (leaving X.env (.ref x)) (λ_ k=>fh X.prog X.w X.outer X.H₀ X.s₀ E (.ref x) k) E1 s:=by
 obtain⟨t,p⟩:=ly (I.hok x _ j);have G:∀b∈X.fs,b∈eX X.stack:=λb d=>by
  rw[c];unfold eX;rw[Ov,g];exact MJ _ d
 have f:Un (eX X.stack) [] X.H₀ H X.s₀.heap s.heap:=by
  have b:=I.base;rw[h]at b;exact b.mono G λ_ z=>z
 have V:X.s₀.heap.get? x=ME:=by
  cases q:X.s₀.heap.get? x with
  |none=>rfl
  |some o=>have:=f.free x o q m (by simp);rw[j]at this;cases this
 have K:∀b o,H b=My o->(∀r,o≠ .ext r)->b≠x:=λb o e F z=>by subst z;rw[j]at e;cases e;exact F _ rfl
 have v:Un (eX X.stack) [] X.H₀ (gq H x) X.s₀.heap s.heap:=by
  refine⟨f.keep,f.slot,λb o e n d=>?_,f.there,λb S q=>?_,λb o u q=>?_,λb J q=>?_⟩
  .unfold gq;split
   .rfl
   .exact f.free b o e n d
  .have:=f.tups b S q
   rw[jc (K b _ this λ_ z=>by cases z)];exact this
  .have:=f.frzs b o u q
   rw[jc (K b _ this λ_ z=>by cases z)];exact this
  .obtain⟨more,this⟩:=f.tbls b J q
   exact⟨more,by rw[jc (K b _ this λ_ z=>by cases z)];exact this⟩
 have M:j_ X.prog X.w (gq H x) s.heap:=λa o e=>by
  obtain⟨B,y⟩:=CW e;refine(I.hok a o y).stay (λ_ _ _ q=>q) (λb q=>?_) λb S q=>?_
  .rw[jc (K b _ q λ_ z=>by cases z)];exact q
  .rw[jc (K b _ q λ_ z=>by cases z)];exact q
 have i:=I.stack;have l:∀b∈eX X.stack,gq H x b=ME:=λb d=>by
  unfold gq;split
  .rfl
  .exact I.stkFree b d
 have hF:s.heap.FunFrames (SW s.heap ([x]++eX X.stack)) (X.env::X.outer):=by
  have z:=mE i (as:=[x]++eX X.stack) λb d=>NF _ d;rw[c]at z⊢;exact z
 refine wpAny_leaving_firstW (base:=SW s.heap ([x]++eX X.stack)) (a0:= .ref t) (by rw[<-c];exact I.ok.frames) hF g p (λb o q=>VA _ q) (RZ _ (by simp)) rfl rfl rfl λN L=>?_;refine⟨x,C,gq H x,rfl,sL (ext:=[x]) I c g h I.os I.bare v M l (λb d=>?_) (by simp) D L⟩;obtain rfl:b=x:=by simpa using d
 exact⟨V,CY⟩
theorem xU{P:Ny}{w:NC}{c ext:a0n}{H f:Hp}{s s':MQ}{h':NS}(D:Un c [] H f s.heap s'.heap)(E:j_ P w f s'.heap)(d:∀b∈ext,s.heap.get? b=ME/\f b=ME)(l:∀b∈c,f b=ME)
  (h:∀b∈c,∃o,s'.heap.get? b=My o/\∀K,o.data≠ .fields K) (G:∀b o,s'.heap.get? b=My o->b∉ext->b∉c->h'.get? b=My o)
  (S:∀b o,s'.heap.get? b=My o->(∀K,o.data≠ .fields K)->∃m,h'.get? b=My {o with slots:=m}):Un c [] H f s.heap h'/\j_ P w f h':=by
 have i:∀b o,s.heap.get? b=My o->b∉ext:=λb o e hb=>by rw[(d b hb).1]at e;cases e
 refine⟨⟨λb o e n hb _=>G b o (D.keep b o e n hb (by simp)) (i b o e) hb,λb o e n hb _=>?_,λb o e n hb=>D.free b o e n hb,λb o e _=>?_,D.tups,D.frzs,D.tbls⟩,λa o e=>?_⟩
 .obtain⟨m,g⟩:=D.slot b o e n hb (by simp)
  obtain⟨o2,k,M⟩:=h b hb;rw[g]at k;cases k;obtain⟨p,r⟩:=S b _ g M;exact⟨p,r⟩
 .obtain⟨t,g⟩:=D.there b o e (by simp)
  by_cases hb:b∈c
  .obtain⟨o2,k,M⟩:=h b hb
   obtain⟨m,r⟩:=S b o2 k M;exact⟨_,r⟩
  .exact⟨t,G b t g (i b o e) hb⟩
 .refine(E a o e).stay (λb u hb g=>?_) (λ_ q=>q) λ_ _ q=>q
  have j:f b≠ME:=by
   rcases hb with rfl|hb
   .rw[e];simp
   .rw[hb];simp
  exact G b u g (λz=>j (d b z).2) λz=>j (l b z)
section
variable{X:Cx}{ba:a0b}{σ:St}{H H':Hp}{s s':MQ}{E:XK}{x C:MK}
theorem g8.inv(I:cy X ba σ H s)(F:g8 X.prog X.w X.stack H s E x C H' s'):cy X ba σ H' s':=
 I.call' (ch:=[]) F.os F.un F.hok F.bare λb a=>Nh a (by simp)
theorem g8.frames(I:cy X ba σ H s)(F:g8 X.prog X.w X.stack H s E x C H' s'):s'.heap.FunFrames X.base X.stack/\(∀b∈eX X.stack,H' b=ME)/\∀b∈eX X.stack,∃o,s'.heap.get? b=My o/\∀D,o.data≠ .fields D:=by
 have a:=F.inv I;exact⟨a.stack,a.stkFree,λb c=>(a.stack.mem c).2⟩
theorem g8.noted(m:X.stack=X.env::X.outer)(O:X.env.frame=My X.env.locals)(I:cy X ba σ H s)(F:g8 X.prog X.w X.stack H s E x C H' s'){M:TW}
  (h:∀s2,g8 X.prog X.w X.stack H s E x C H' s2->Q () s2):M0 M X.A (WC (.ref x) X.env) (λ_ s1=>M0 M A2 (SK (.ref x) ME) Q E2 s1) E1 s':=by
 obtain⟨p,r,P⟩:=F.frames I;obtain⟨os,D,un,G,⟨oe,K,T,oT,ts,a0,he,hc,hd,h1,R,hT,U,h3,W,Y⟩,xn,xs,S⟩:=F;have hF:s'.heap.FunFrames (SW s'.heap ([x,T]++eX X.stack)) (X.env::X.outer):=by
  have z:=mE p (as:=[x,T]++eX X.stack) λb hb=>NF _ hb;rw[m]at z⊢;exact z
 refine wpAny_noteFrame_onW (base:=SW s'.heap ([x,T]++eX X.stack)) (by rw[<-m];exact I.ok.frames) hF O ⟨oe,K,T,oT,ts,he,hc,hd,h1,RZ _ (by simp),R,hT,U,h3⟩ (λb o q=>VA _ q) (RZ _ (by simp)) λh' L=>?_;obtain⟨L1,L2,L3,L4⟩:=L;have d:∀b∈[x,T],s.heap.get? b=ME/\H' b=ME:=λb hb=>by
  rcases M4.mp hb with rfl|hb
  .exact⟨xs,xn⟩
  .obtain rfl:b=T:=by simpa using hb
   exact⟨Y,W⟩
 have k1:∀b o,s'.heap.get? b=My o->b∉[x,T]->b∉eX X.stack->h'.get? b=My o:=λb o e Z n2=>L1 b o (Tk _ e λhm=>(NP.mp hm).elim Z n2);obtain⟨aa,t⟩:=xU un G d r P k1 L4;have j:∀b∈eX X.stack,∃o,h'.get? b=My o/\∀K,o.data≠ .fields K:=λb hb=>(L2.mem (by rw[<-m];exact hb)).2;obtain⟨ab,ac,a,ah,u,v,ad,y,B,k,l,g,c,ae⟩:=L3;have i:H' a=ME/\s.heap.get? a=ME:=by
  by_cases hm:a∈[x,T]++eX X.stack
  .rcases NP.mp hm with hm|hm
   .exact⟨(d a hm).2,(d a hm).1⟩
   .obtain⟨o,e,V⟩:=j a hm
    rw[g]at e;cases e;exact Nh c (V u)
  .have hs:s'.heap.get? a=ME:=by
    cases q:s'.heap.get? a with
    |none=>rfl
    |some o=>rw[Tk _ q hm]at k;cases k
   constructor
   .cases q:H' a with
    |none=>rfl
    |some o=>obtain⟨ob,e⟩:=(G a o q).there;rw[hs]at e;cases e
   .cases q:s.heap.get? a with
    |none=>rfl
    |some o=>obtain⟨ob,e⟩:=un.there a o q (by simp);rw[hs]at e;cases e
 --SK
 have J:3<u.size:=(NL.mp ae).1;unfold SK;refine MC (Oe v y B ?_);rw[MU (show(M6 a !=NK)=MH from by simp)];refine Ps g c J (h _ ?_);have n:∀b,b≠a->(h'.update a (R7 (·.setIfInBounds 3 ((ME:a0B).elim NK λf=>Qn f)))).get? b=h'.get? b:=λb hb=>Pa _ _ (Ne.symm hb);have af:∀b o,h'.get? b=My o->(∀K,o.data≠ .fields K)->b≠a:=λb o e V z=>by subst z;rw[g]at e;cases e;exact V _ c
 obtain⟨ag,N⟩:=xU (s':={s' with heap:=h'}) (ext:=[a]) (h':=h'.update a (R7 (·.setIfInBounds 3 ((ME:a0B).elim NK λf=>Qn f)))) aa t (λb hb=>by
  obtain rfl:b=a:=by simpa using hb
  exact⟨i.2,i.1⟩) r j (λb o e Z _=>by rw[n b (by simpa using Z)];exact e) λb o e V=>⟨o.slots,by rw[n b (af b o e V)];exact e⟩
 refine⟨os,D,ag,N,⟨ab,ac,a,_,_,a0,?_,ad,y,B,l,Oy _ g (Qf (Oi c _)),Oi c _,by simp[J],i.1,i.2⟩,xn,xs,S⟩;rw[n x (Ne.symm l)];exact v
theorem g8.landed(I:cy X ba σ H s)(F:g8 X.prog X.w X.stack H s E x C H' s'){M:TW}
  (h:∀O,g8 X.prog X.w X.stack H s E x C H' O->Q () O):M0 M A2 (SK (.ref x) ME) Q E2 s':=by
 obtain⟨P,r,t⟩:=F.frames I;obtain⟨V,D,U,K,⟨u,v,c,R,y,W,j,A,k,l,d,g,a,B,m,n⟩,Y,Z,G⟩:=F;have p:3<y.size:=(NL.mp B).1;unfold SK;refine MC (Oe j k l ?_);rw[MU (show(M6 c !=NK)=MH from by simp)];refine Ps g a p (h _ ?_);have i:∀b,b≠c->(s'.heap.update c (R7 (·.setIfInBounds 3 ((ME:a0B).elim NK λf=>Qn f)))).get? b=s'.heap.get? b:=λb J=>Pa _ _ (Ne.symm J);have L:∀b o,s'.heap.get? b=My o->(∀vs,o.data≠ .fields vs)->b≠c:=λb o e S z=>by subst z;rw[g]at e;cases e;exact S _ a
 obtain⟨N,q⟩:=xU (ext:=[c]) (h':=s'.heap.update c (R7 (·.setIfInBounds 3 ((ME:a0B).elim NK λf=>Qn f)))) U K (λb J=>by
  obtain rfl:b=c:=by simpa using J
  exact⟨n,m⟩) r t (λb o e T _=>by rw[i b (by simpa using T)];exact e) λb o e S=>⟨o.slots,by rw[i b (L b o e S)];exact e⟩
 refine⟨V,D,N,q,⟨u,v,c,_,_,W,?_,A,k,l,d,Oy _ g (Qf (Oi a _)),Oi a _,by simp[p],m,n⟩,Y,Z,G⟩;rw[i x (Ne.symm d)];exact j
theorem g8.cls(F:g8 X.prog X.w X.stack H s E x C H' s'):∃a,s'.heap.get? x=My a/\a.cls= .ref C:=by obtain⟨a,_,_,_,_,_,b,c,_⟩:=F.tr;exact⟨a,b,c.1⟩
abbrev Cx.inA(X:Cx)(A:NX):Cx:={X with A:=A,calm:=ML,xe:=λ_ _=>False}
theorem cy.inA{X:Cx}{ba:a0b}{σ:St}{H:Hp}{s:MQ}(I:cy X ba σ H s)(A:NX)(a:A.frames=X.A.frames):cy (X.inA A) ba σ H s:=
 ⟨⟨I.ok.mod,I.ok.kind,I.ok.glob,I.ok.blt,I.ok.above,I.ok.inj,I.ok.has,I.ok.cab,λh=>Nh h (by simp),a.trans I.ok.frames,I.ok.stk,I.ok.exf,I.ok.bs,I.ok.bsz,I.ok.noex,I.ok.exfs,I.ok.funs,I.ok.frf⟩,I.os,I.bare,I.base,I.loc,I.cell,I.free,I.freeC,I.pin,I.hok,I.len⟩
theorem cy.outA{X:Cx}{ba:a0b}{σ:St}{H:Hp}{s:MQ}(x:X.Ok)(I:cy (X.inA A) ba σ H s):cy X ba σ H s:=
 ⟨x,I.os,I.bare,I.base,I.loc,I.cell,I.free,I.freeC,I.pin,I.hok,I.len⟩
theorem SP.outA{X:Cx}{ba:a0b}{D:l5}{s:MQ}(x:X.Ok)(h:SP (X.inA A) ba D f s):SP X ba D f s:=by
 cases f with
 |next=>obtain⟨a,H',I,q⟩:=h;exact⟨a,H',I.outA x,q⟩
 |brk=>obtain⟨a,H',I,q⟩:=h;exact⟨a,H',I.outA x,q⟩
 |cont=>obtain⟨a,H',I,q⟩:=h;exact⟨a,H',I.outA x,q⟩
 |ret u=>obtain⟨v,a,H',I,r,q⟩:=h;exact⟨v,a,H',I.outA x,r,q⟩
def PHd(X:Cx)(K:List ExceptHandler)(t:MK->TS):Prop:=
 ∀(ba:a0b) (σ:St) (G H:Hp) (a s:MQ) (E:XK) (x C:MK) (D:l5),cy X ba σ G a->g8 X.prog X.w X.stack G a E x C H s->t C D σ H->M0 (Nj X.prog X.w) X.A (handleBy (.ref x) X.env K) (SP X ba D) X.xe s
def Ml:MK->TS:=λ_ _ _ _=>False
def Mn(K:M9)(a:MK)(c:TS)(r:MK->TS):MK->TS:=λC D σ H=>∃b,Vu K (.ref C) (.ref a)=My b/\if b=MH then c D σ H else r C D σ H
theorem Hv:PHd X [] Ml:=λ_ _ _ _ _ _ _ _ _ _ _ _ h=>h.elim
theorem EH(c:Gl X cn)(G:X.mg cn=My (.ref Dc))(M:∀A,PSs (X.inA A) (b0::suite) ts)(d:PHd X rest r)
  (S:b0c cn:=by decide):PHd X (.ExceptHandler (My (.Name cn np)) ME (b0::suite) t::rest) (Mn X.K Dc ts r):=by
 intro ba σ V H e s E x C D a F h;obtain⟨b,g,h⟩:=h;have I:=F.inv a;obtain⟨o,i,j⟩:=F.cls;have k:=I.inA (X.A.mark (My (.ref x))) rfl;refine wpAny_handleBy_cons (codeAny_handlers_test (i9 (X:=X.inA (X.A.mark (My (.ref x)))) k c G ?_ S)) (by intro q;cases q);refine CQ I.kIn i j g ?_;cases b with
 |true=>
  rw[MU rfl]at h;refine codeAny_handlers_suite (F.landed a λl m=>?_);have n:=(m.inv a).inA (X.A.mark (My (.ref x))) rfl;exact NI (M _ ba l σ H D n h) (λf p q=>q.outA I.ok) λ_ _ z=>z.elim
 |false=>
  rw[MS MT]at h;exact d ba σ V H e s E x C D a F h
abbrev Cx.inTry(X:Cx)(pn:a0b)(xe:a0e):Cx:={X with pn:=pn,xe:=xe}
theorem cy.inTry{X:Cx}{ba:a0b}{σ:St}{H:Hp}{s:MQ}(I:cy X ba σ H s)(x:a0e):cy (X.inTry (X.pn++ba) x) [] σ H s:=
 ⟨⟨I.ok.mod,I.ok.kind,I.ok.glob,I.ok.blt,I.ok.above,I.ok.inj,I.ok.has,I.ok.cab,I.ok.hd,I.ok.frames,I.ok.stk,I.ok.exf,I.ok.bs,I.ok.bsz,I.ok.noex,I.ok.exfs,I.ok.funs,I.ok.frf⟩,I.os,I.bare,I.base,I.loc,I.cell,I.free,I.freeC,λp a=>I.pin p (by simpa using a),I.hok,I.len⟩
theorem cy.outTry{X:Cx}{ba a:a0b}{σ:St}{H:Hp}{s:MQ}(x:X.Ok)(I:cy (X.inTry (X.pn++ba) xe) a σ H s):cy X ba σ H s:=
 ⟨x,I.os,I.bare,I.base,I.loc,I.cell,I.free,I.freeC,λp b=>I.pin p (O4 _ b),I.hok,I.len⟩
def Ye(b:(St->XK)->TS)(c:MK->TS):TS:=λD σ H=>∃E:St->XK,(∀a C s H',E a (.ref C) s H'->c C D a H')/\b E D σ H
theorem Jr(j:X.stack=X.env::X.outer)(k:X.env.frame=My X.env.locals)
  (o:∀(E:a0r) (G:a0b) (K:a0e),cc (fh X.prog X.w) (X.inTry G K) E->PSs (X.inTry G K) body (R E)) (p:PHd X (h0::Q) th):PS X (.Try body (h0::Q) [] [] T) (Ye R th):=by
 intro ba s σ H D I h;obtain⟨E,t,y⟩:=h;rw[arm_exec_Try];refine MC (OQ ?_);unfold tryStmt;show M0 _ _ ((execs body X.env).attempt>>=_) _ _ s;have g:cc (fh X.prog X.w) (X.inTry (X.pn++ba) λe s'=>M0 (Nj X.prog X.w) X.A (WC e X.env) (λ_ b=>M0 (Nj X.prog X.w) X.A (SK e ME) (λ_ i=>M0 (Nj X.prog X.w) X.A (handleBy e X.env (h0::Q)) (SP X ba D) X.xe i) X.xe b) X.xe s') E:=by
  intro l a M b e s' B L;obtain⟨x,C,m,rfl,F⟩:=L;have J:=B.outTry I.ok;have N:g8 X.prog X.w X.stack M b (E a) x C m s':=F;exact N.noted j k J λi n=>p ba a M m b i (E a) x C D J n (t a C ME m n.wish)
 refine MC (QT (NI (o E _ _ g [] s σ H D (I.inTry _) y) (λf b c=>?_) λe b c=>?_))
 .have d:SP X ba D f b:=by
   cases f with
   |next=>obtain⟨a,H',J,q⟩:=c;exact⟨a,H',J.outTry I.ok,q⟩
   |brk=>obtain⟨a,H',J,q⟩:=c;exact⟨a,H',J.outTry I.ok,q⟩
   |cont=>obtain⟨a,H',J,q⟩:=c;exact⟨a,H',J.outTry I.ok,q⟩
   |ret u=>obtain⟨v,a,H',J,r,q⟩:=c;exact⟨v,a,H',J.outTry I.ok,r,q⟩
  cases f with
  |next=>exact RO d
  |brk=>exact MF d
  |cont=>exact MF d
  |ret u=>exact MF d
 .refine MC (NI c (λ_ i d=>?_) λ_ _ z=>z)
  show M0 _ _ (SK e ME>>=_) _ _ i;exact MC (NI d (λ_ P O=>O) λ_ _ z=>z)
structure XC (K:M9) (C:MK):Prop where
 sh:∃bm,∀h:NS,K.In h->j2 h C bm
 sa:O8 K (.ref C) "__setattr__"=My (My (.builtin "object.__setattr__"))
 cd:∃cd,clsIn K C=My cd/\cd.hasDict=MH/\fR cd.mro=MH
theorem FV{K:M9}{C N:MK}{bs bm:a0f}{hdct:Bool}{ab:Bool}{cd:ClassData}
  (l:K.lookup C=My (excClassObj nm q C N bs bm hdct sn sub ab col dd k0 k1 k2 k3 k5 "ValueError.__new__")) (s:O8 K (.ref C) "__setattr__"=My (My (.builtin "object.__setattr__"))) (c:clsIn K C=My cd)
  (g:(bm.contains (.type "ValueError")&&bm.contains (.type "BaseException")&&!bm.contains (.type "AttributeError")&&!bm.contains (.type "NameError")&&cd.hasDict&&fR cd.mro)=MH):XC K C:=by
 simp only[No,Tv]at g;obtain⟨⟨⟨⟨⟨a,b⟩,i⟩,d⟩,e⟩,f⟩:=g;exact⟨⟨bm,λh X=>⟨⟨nm,q,N,bs,hdct,sn,sub,ab,col,dd,k0,k1,k2,k3,k5,X _ _ l⟩,a,b,i,d⟩⟩,s,cd,c,e,f⟩
structure XT (K:M9) (C f:MK):Prop where
 xc:XC K C
 init:O8 K (.ref C) "__init__"=My (My (.ref f))
 fn:isFn K (.ref f)=MH
 kp:Sd K (.ref C)=MH
end
section
variable{X:Cx}{CX:E_}{k:Nat}{f C:MK}{fd:Nk}{ps:a0h}{sp:Sp}{ab:a0i}{ds:a0f}{E:a0r}{x m:NA}{p aa z:Ri}{e o:Expr}{L:List Expr}{ta:TE}{t:TA}
def IN(C:MK)(sp:Sp)(ab:a0i)(E:a0r)(t:TA):TE:=λa H Q=>t a H λe f=>e.length<=M1/\∀x,f x=ME->
 sp (.ref x::(e++ab)) (upd f x (eL C x ME)) (λv b=>v= .non/\Q (.ref x) b) (E a)
theorem Hj{m:a0i}(M:XT X.K C f)(F:eg X.prog X.w X.K X.mg X.base CX k f fd ps sp)(y:d4 (k+1) X.A)(B:ci X.K fd ps ds)(t:ar ab ds)
  (J:cc CX X E) (I:cy X ba σ H s) (r:ar m us) (L:m.length<=M1)
  (h:∀x,H x=ME->sp (.ref x::(m++ab)) (upd H x (eL C x ME)) (λv N=>v= .non/\Q (.ref x) N) (E σ)):
  M0 (Nj X.prog X.w) X.A (SC (.ref C) us) (EP X ba σ Q) X.xe s:=by
 have l:=h (s.heap.objs.size+1) (I.hok.fresh (Re _));obtain⟨G,z⟩:=M.xc.sh;have O:cy X ba σ H {s with heap:=s.heap.push {cls:= .type "tuple",data:= .seq us.toArray}}:=I.kept (t':=s.toks) λb o q=>MG _ q;have P:((s.heap.push {cls:= .type "tuple",data:= .seq us.toArray}).push (dy C ME s.heap.objs.size)).get? (s.heap.objs.size+1)=My (dy C ME s.heap.objs.size):=by
  have:=M7 (s.heap.push {cls:= .type "tuple",data:= .seq us.toArray}) (o:=dy C ME s.heap.objs.size) rfl;rwa[Og]at this
 have j:cy X ba σ (upd H (s.heap.objs.size+1) (eL C (s.heap.objs.size+1) ME)) {s with heap:=(s.heap.push {cls:= .type "tuple",data:= .seq us.toArray}).push (dy C ME s.heap.objs.size)}:=
  O.laid (a:=s.heap.objs.size+1) (o:=eL C (s.heap.objs.size+1) ME) (t':=s.toks) (λb u q=>MG _ q) (Vi (Og _ _)) (rL P)
 have n:ar (V.ref (s.heap.objs.size+1)::(m++ab)) (M6 (s.heap.objs.size+1)::(us++ds)):= .cons rfl (r.append t);have R:(M6 (s.heap.objs.size+1)::us++ds).length=ps.length:=by
  have e:=n.length;rw[F.len _ _ _ _ l]at e;exact e.symm
 have i:M0 (Nj X.prog X.w) (X.A.under (.builtin "type.__call__" ⟨.ref C::us,[]⟩)) (SC (.ref f) (.ref (s.heap.objs.size+1)::us)) (λr p=>r= .none/\EP X ba σ Q (.ref (s.heap.objs.size+1)) p) X.xe
   {s with heap:=(s.heap.push {cls:= .type "tuple",data:= .seq us.toArray}).push (dy C ME s.heap.objs.size)}:=by
  refine Se (QH (F.run _ X.stack _ _ ⟨M6 (s.heap.objs.size+1)::us,[]⟩ (M6 (s.heap.objs.size+1)::(us++ds)) _ _ (E σ) (y.make C us [])
   (j.env0.make C us []) (B _ (M6 (s.heap.objs.size+1)::us) j.kIn R) n l) λr p c=>?_)
  cases r with
  |error e=>exact J ba σ _ _ e p j c
  |ok fl=>
   cases fl with
   |ret u=>
    obtain⟨v,T,U,W,Y,D⟩:=j.after c;subst Y;exact⟨W,⟨V.ref (s.heap.objs.size+1),T,U,rfl,D⟩⟩
   |next=>exact OS c
   |brk=>exact OS c
   |cont=>exact OS c
 obtain⟨Z,g,d,S,os⟩:=s;exact Fz I.kIn (z _ I.kIn) M.init M.fn (by rw[<-r.length];exact L) i
theorem ql(M:XT X.K C f)(F:eg X.prog X.w X.K X.mg X.base CX k f fd ps sp)(g:d4 (k+1) X.A)(i:Gl X x)(m:X.mg x=My (.ref C))(j:ci X.K fd ps ds)(o:ar ab ds)(l:cc CX X E)
  (z:PA X (e::L) t) (b:b0c x:=by decide) (n:b0a X e L:=by rfl) (c:b0b X aa L:=by rfl):
  PE X (.Call (.Name x p) (e::L) [] aa) (IN C sp ab E t):=by
 intro a s u H Q I h;refine QY (i9 I i m ?_ b);refine Vp (h₀:=X.base) I.ok.mod.kin M.kp (d5 (z aa a s u H _ I h) λD y ⟨G,S,d,r,v,q⟩=>⟨d.kIn,?_⟩) n c;exact Hj M F g j o l d r v q
structure WS (K:M9) (D:MK) (m:NA) (f:MK):Prop where
 ga:specialIn K (.ref D) "__getattribute__"=My (My (.builtin "type.__getattribute__"))
 rd:PySem.W.readsIn K D (.type "type")=MH
 fnd:Wq K (.ref D) (.type "type") m=My (.val (.ref f))
 kp:Sd K (.ref f)=MH
theorem qm{D:MK}(c:WS X.K D m f)(F:eg X.prog X.w X.K X.mg X.base CX k f fd ps sp)(j:d4 k X.A)(l:Gl X x)(o:X.mg x=My (.ref D))(n:ci X.K fd ps ds)(C:ar ab ds)(q:cc CX X E)
  (G:PA X (e::L) t) (b:b0c x:=by decide) (d:b0a X e L:=by rfl) (g:b0b X aa L:=by rfl)
  (u:NW (.Call (.Attribute (.Name x p) m z) (e::L) [] aa) X.env=(do
   let N <-NW (.Name x p) X.env
   Qi z.atName
   let (f,first) <-QI [N] (R5 N m pl)
   Um aa f first (OO aa (MY (e::L) X.env)) (PL aa (OJ [] X.env))):=by rfl):
  PE X (.Call (.Attribute (.Name x p) m z) (e::L) [] aa) (Gd sp ab E t):=by
 intro a s v H Q I h;refine TX (pl:=pl) (i9 I l o ?_ b) u;refine PySem.W.method_cls I.kIn c.ga (PySem.W.cls_value I.kIn c.rd c.fnd rfl ?_);have y:=I.tok (s.toks+1);refine Vp (first:=[]) (h₀:=X.base) I.ok.mod.kin c.kp (d5 (G aa a _ v H _ y h) λS B ⟨V,J,i,r,M⟩=>⟨i.kIn,?_⟩) d g
 exact qe F j n C q i r M
def Yc(K:M9)(t:TA):TE:=λa H Q=>t a H λm f=>∃x C k e,m= .ref x::e/\e.length<=M1/\f x=My (eL C x k)/\XC K C/\Q .non (upd f x (eL C x k))
theorem zb(I:cy X ba J H s)(r:ar N O)
  (h:∃x C m f,N= .ref x::f/\f.length<=M1/\H x=My (eL C x m)/\XC X.K C/\Q .non (upd H x (eL C x m))):M0 (Nj X.prog X.w) X.A (SC (.builtin "ValueError.__init__") O) (EP X ba J Q) X.xe s:=by
 obtain⟨x,C,m,f,rfl,l,a,c,q⟩:=h;cases r with
 |cons o n=>
  cases o;obtain⟨D,v⟩:=ly (I.hok x _ a);obtain⟨E,p⟩:=c.sh;obtain⟨F,g,d,i,t⟩:=s;refine CN (p _ I.kIn) v (by rw[<-n.length];exact l) λz j k=>?_;have y:cy X ba J (upd H x (eL C x m)) ⟨z,g,d,i,t⟩:=I.write (t':=i) (x:=x) (e:=x) (by rw[a];exact RF) (.inl rfl) (λb u B q=>k b u B q) ⟨_,j⟩ (rL j);exact⟨.non,_,y,rfl,q⟩
theorem GY:WP (.type "ValueError")=OW (.type "type"):=by kernel_rfl
theorem GZ:Manifest.isStub "ValueError"=ML:=by decide +kernel
theorem G0{K:M9}:Wq K (.type "ValueError") (.type "type") "__init__"=My (.val (.builtin "ValueError.__init__")):=by kernel_rfl
set_option maxHeartbeats 4000000 in
theorem EJ(d:Gl X "ValueError")(k:X.mg "ValueError"=ME)(o:PA X (e::L) t)(b:b0a X e L:=by rfl)(c:b0b X aa L:=by rfl)
  (g:NW (.Call (.Attribute (.Name "ValueError" p) "__init__" z) (e::L) [] aa) X.env=(do
   let q <-NW (.Name "ValueError" p) X.env
   Qi z.atName
   let (f,first) <-QI [q] (R5 q "__init__" pl)
   Um aa f first (OO aa (MY (e::L) X.env)) (PL aa (OJ [] X.env))):=by rfl):
  PE X (.Call (.Attribute (.Name "ValueError" p) "__init__" z) (e::L) [] aa) (Yc X.K t):=by
 intro a s i H Q I h;obtain⟨m,F⟩:=I.fr;refine TX (pl:=pl) (f9 I d k Boot.«ValueError» ?_) g;refine PySem.W.method_type (v:= .builtin "ValueError.__init__") F I.mod.kin GY GZ G0 rfl ?_;have j:=I.tok (s.toks+1);exact SS (d5 (o aa a _ i H _ j h) λD n ⟨E,G,l,x,C⟩=>zb l x C) b c
def Jb(K:M9)(ta g:TE)(f:NA):TS:=λD b H=>g b H λy e=>ta b e λx c=>∃a C,x= .ref a/\c a=My (eL C a ME)/\XC K C/\O8 K (.ref C) f=My ME/\
 ∀d,c d=ME->d≠a->D.nx b (upd (upd c d (.xd [(f,y)])) a (eL C a (My d)))
theorem ED{o d:Expr}{f:NA}(t:PE X o ta)(R:PE X d tv)(E:Q1 d (My (.Attribute o f pos')) aa.line X.env=OW ML):PS X (.Assign [.Attribute o f pos'] d aa) (Jb X.K ta tv f):=by
 intro l s B H D I h;refine UB (d5 (R l s B H _ I h) λu T F=>?_) E;obtain⟨y,G,U,W,q⟩:=F;refine d5 (t l T B G _ U q) λY r Z=>?_;obtain⟨x,L,w,M,a,C,S,A,c,n,V⟩:=Z;subst S;obtain rfl:Y=M6 a:=M;obtain⟨t0,N⟩:=ly (w.hok a _ A);obtain⟨cd,c1,c2,c3⟩:=c.cd;refine Fu w.kIn N c.sa c1 c2 c3 n λh' O P k=>?_;have m:L r.heap.objs.size=ME:=w.fresh;have J:r.heap.objs.size≠a:=Pe (Nl N);have od:∃o,h'.get? r.heap.objs.size=My o:=let ⟨o,_,_,e,_⟩:=P;⟨o,e⟩
 have i:∀b o,L b=My o->(∀φ,o≠ .ext φ)->b≠a:=λb o e hn z=>by subst z;rw[A]at e;cases e;exact hn _ rfl
 refine⟨B,_,w.un (h':=h') (t':=r.toks+2) ⟨λb o e j _ _=>k b o (λz=>by subst z;rw[A]at j;cases j) e,λb o e j _ _=>⟨o.slots,k b o (λz=>by subst z;rw[A]at j;cases j) e⟩,λb o e j _=>?_,λb o e _=>?_,λb p e=>?_,λb o p e=>?_,λb p e=>?_⟩ λb o e=>?_,V _ m J⟩
 .rw[bt (λz=>by subst z;rw[A]at j;cases j),bt (NM (Nl e))];exact j
 .by_cases z:b=a
  .subst z;exact⟨_,O⟩
  .exact⟨o,k b o z e⟩
 .rw[bt (i b _ e λ_ z=>by cases z),bt (b5 e m)];exact e
 .rw[bt (i b _ e λ_ z=>by cases z),bt (b5 e m)];exact e
 .exact⟨#[],by rw[bt (i b _ e λ_ z=>by cases z),bt (b5 e m),e];simp⟩
 .by_cases z:b=a
  .subst z
   rw[ao]at e;cases e;exact rL O
  .rw[bt z]at e
   by_cases Q:b=r.heap.objs.size
   .subst Q
    rw[ao]at e;cases e;refine⟨_,P,λg=>?_⟩;by_cases q:g=f
    .subst q
     simp only[Qs,TN,NN];exact W
    .have hb:(g==f)=ML:=beq_eq_false_iff_ne.mpr q
     simp only[Qs,hb,List.lookup_nil,MS q];trivial
   .rw[bt Q]at e
    refine(w.hok b o e).stay (λc v hc q=>k c v ?_ q) (λc q=>?_) λc p q=>?_
    .rcases hc with rfl|hc
     .exact z
     .exact i c _ hc λ_ z=>by cases z
    .rw[bt (i c _ q λ_ z=>by cases z),bt (b5 q m)];exact q
    .rw[bt (i c _ q λ_ z=>by cases z),bt (b5 q m)];exact q
def zE(e:Hp)(K:M9)(E:XK)(a:TE):TS:=λ_ b H=>a b H λv f=>∃x C k,v= .ref x/\f x=My (eL C x k)/\e x=ME/\XC K C/\E (.ref C) ME (gq f x)
end
section
variable{P:Ny}{w:NC}{K:M9}{J:a0j}{base:NS}{N:a0h}{y:NA}{F:Scope}{f:MK}{L:MO}{A:NX}{B:a0C}{s:MQ}{H:Hp}{E:XK}
theorem cf:cc (fh P w) (dz (fh P w) P w K J base N y F f L A B s H E) (λ_=>E):=λa b D c e G I h=>HB (X:=dz (fh P w) P w K J base N y F f L A B s H E) rfl rfl rfl (λ_ _ _ z=>z) I h
theorem iY:cc (fh P w) X E0:=λ_ _ _ _ _ _ _ h=>by
 obtain⟨_,_,_,_,F⟩:=h;exact F.wish.elim
theorem cQ:Wo (Nj P w) (A.deeper (QR y F s.heap.objs.size f L)) (QR y F s.heap.objs.size f L) (dz (fh P w) P w K J base N y F f L A B s H E).xe:=PassesOwn.leaving
theorem kW(M:A.handled=ME)(g:PE (dz (fh P w) P w K J base N y F f L A B s H E) e p):PS (dz (fh P w) P w K J base N y F f L A B s H E) (.Raise (My e) ME t) (zE H K E p):=by
 intro a i j S D I h;rw[arm_exec_Raise];refine MC (OQ ?_);refine CO (env:=(dz (fh P w) P w K J base N y F f L A B s H E).env) (bm:=[]) (dx:=ME) (t0:=0) M ?_;refine MC (d5 (g a i j S _ I h) λu n k=>?_);obtain⟨v,o,b,r,x,C,dx,l,G,m,c,q⟩:=k;refine MC (OQ (MF ?_));subst l;obtain rfl:u=M6 x:=r;obtain⟨t0,d⟩:=ly (b.hok x _ G);obtain⟨bm,V⟩:=c.sh;exact⟨x,t0,dx,C,bm,rfl,V _ b.kIn,d,EO (X:=dz (fh P w) P w K J base N y F f L A B s H E) rfl rfl rfl b G m q⟩
structure g_ (K:M9) (x y:NA) (st:N3) (f:MK) (fd:Nk):Prop where
 ex:∃(oc:MO) (od:a0B) (dV kV doc pm:MO) (an:a0B) (cdv ct:MO) (osl:Array (Option MO)),
  fd=QP x y (jd st) (cA st) (af st) dV kV doc pm an cdv ct/\K.lookup f=My ⟨oc,od,.func fd,osl⟩/\Ro K cdv y=MH
 kp:Sd K (.ref f)=MH
theorem Id{K:M9}{x y:NA}{s:N3}{f:MK}(l:K.lookup f=My ⟨oc,od,.func (QP x y (jd s) (cA s) (af s) dV kV doc pm an a ct),b⟩)
  (c:Ro K a y=MH) (k:Sd K (.ref f)=MH):g_ K x y s f (QP x y (jd s) (cA s) (af s) dV kV doc pm an a ct):=⟨⟨oc,od,dV,kV,doc,pm,an,a,ct,b,rfl,l,c⟩,k⟩
theorem g_.okE{x y:NA}{G:N3}{f:MK}{N L:a0h}(F:g_ K x y G f u)(S:b4 N L (af G))(M:∀D H Q E,r D H Q E->D.length=L.length)
  (b:∀(a:MO) (A:NX) (B:a0C) (s:MQ) (H:Hp) (D:a0i) (Q:VK) (E:XK),d4 k (A.deeper (QR y (af G) s.heap.objs.size f a))->r D H Q E->
   ∃t,PSs (dz (fh P w) P w K J base N y (af G) f a A B s H E) (cA G) t/\t {nx:=λ_ e=>Q .non e,rt:=Q} (fK N D) H):eg P w K J base (fh P w) (k+1) f u L r:=by
 obtain⟨l,m,n,o,g,p,q,a,V,h,rfl,i,c⟩:=F.ex;exact yR i c S M λA B s H D Q E j d=>b a A B s H D Q E j d
theorem g_.ok{x y:NA}{D:N3}{f:MK}{N G:a0h}(F:g_ K x y D f v)(S:b4 N G (af D))(L:∀vs H Q E,sp vs H Q E->vs.length=G.length)
  (b:∀(a:MO) (A:NX) (B:a0C) (s:MQ) (H:Hp) (vs:a0i) (Q:VK) (E:XK),d4 k (A.deeper (QR y (af D) s.heap.objs.size f a))->sp vs H Q E->
   ∃t,PSs (dz (fh P w) P w K J base N y (af D) f a A B s H E).nox (cA D) t/\t {nx:=λ_ e=>Q .non e,rt:=Q} (fK N vs) H):eg P w K J base (fh P w) (k+1) f v G sp:=by
 obtain⟨m,n,o,p,g,r,u,a,M,i,rfl,j,c⟩:=F.ex;refine yR j c S L λA B s H vs Q E l d=>?_;obtain⟨t,h,q⟩:=b a A B s H vs Q E l d;exact⟨t,h.nox,q⟩
abbrev TJ:=St->Hp->Nat->(Nat->Hp->Prop)->Prop
def PJ(X:Cx)(y:List Expr)(t:TJ):Prop:=
 ∀(a:a0b) (s:MQ) (b:St) (H:Hp) (f:NA) (Q:VK),cy X a b H s->f.length<=M1->(t b H f.length λn c=>n<=M1/\∀z:NA,z.length<=n->Q (.str z) c)->
  M0 (Nj X.prog X.w) X.A (joinParts f (Qy y X.env)) (EP X a b Q) X.xe s
noncomputable def Y5:TJ:=λ_ H n Q=>Q n H
def Y4(m:Nat)(t:TJ):TJ:=λa H n Q=>n+m<=M1/\t a H (n+m) Q
def Y6(b:TE)(t:TJ):TJ:=λa H n Q=>b a H λv f=>∃i,v= .int i/\i.natAbs.log2<1920/\n+1921<=M1/\∀m,m<=n+1921->t a f m Q
def Lh(t:TJ):TE:=λa H Q=>t a H 0 λn b=>n<=M1/\∀z:NA,z.length<=n->Q (.str z) b
variable{X:Cx}{es:List Expr}{t:TJ}{d:Ri}
theorem Jw:PJ X [] Y5:=λa s c H d Q I b h=>joinParts_nil ⟨.str d,H,I.tok _,⟨_,rfl⟩,h.2 d (MW _)⟩ b
theorem Jv{x:NA}(h:PJ X es t)(c:Qy (.Constant (.str x) j p::es) X.env=NW (.Constant (.str x) j p) X.env::Qy es X.env:=by rfl):PJ X (.Constant (.str x) j p::es) (Y4 x.length t):=by
 intro a s d H f Q I k g;rw[c];obtain⟨b,i⟩:=g;refine Vx (VS ?_);have e:(f++x).length=f.length+x.length:=Wa f x;exact⟨by rw[e];exact b,h a _ d H (f++x) Q (I.tok _) (by rw[e];exact b) (by rw[e];exact i)⟩
theorem Jx(g:PE X v x)(h:PJ X es t)(j:Qy (.FormattedValue v (-1) ME p::es) X.env=NW (.FormattedValue v (-1) ME p) X.env::Qy es X.env:=by rfl):PJ X (.FormattedValue v (-1) ME p::es) (Y6 x t):=by
 intro a s c H f Q I n k;rw[j];refine Vx (FormattedValue_plain (d5 (g a s c H _ I k) λu o ⟨y,w,l,r,i,m,d,B,q⟩=>?_));subst m;obtain⟨C,rfl⟩:=r;refine wpAny_formatField_int d ?_;have e:(f++N9 (toString i)).length=f.length+(N9 (toString i)).length:=Wa f _;have F:=int_text_len_1921 d;have b:(f++N9 (toString i)).length<=M1:=by rw[e];lia
 refine⟨b,h a _ c w _ Q (l.tok _) b ?_⟩;rw[e];exact q _ (by lia)
theorem Hz(h:PJ X (v1::v2::rest) t):PE X (.JoinedStr (v1::v2::rest) d) (Lh t):=λa s b H Q I c=>
 JoinedStr_many (h a s b H Qe Q I (by decide) c)
theorem sY(i:X.calm=MH):dP X (.builtin "sum") (λf H Q=>∃(a:MK) (t:a0c),f=[.ref a]/\et X.K H a (t.map V.int)/\Q (.int t.sum) H):=by
 intro b s o H f B Q I r h;obtain⟨a,t,rfl,j,q⟩:=h;cases r with
 |cons A k=>
  cases A;cases k;obtain⟨w,l,p,u⟩:=I.list j;have c:=qF l;obtain⟨f,y⟩:=c.allInts.items;have d:=p.isList;rw[y]at d;refine sum_intListG (I.ok.hd i) d λD v E m=>?_;have e:preSum (numAt f) f.size=t.sum:=by
   have g:=c.numsOf;have n:w=(Vv f).toList:=by rw[<-y]
   rw[n,nums_intItems]at g;rw[preSum_eq,P3 (by simp),g]
  rw[e];exact⟨.int t.sum,H,I.kept m,⟨_,rfl⟩,q⟩
def GS(i j:Int):Prop:=0<j/\j.natAbs.log2<9000
def Xn(C:a0V)(f:a0K):XW:=λx y H Q=>∃i j,x= .int i/\y= .int j/\C i j/\Q (.int (f i j)) H
theorem xa:Xs X .FloorDiv (Xn GS λi j=>i/j):=by
 intro a s d H x y v u Q I f b h;obtain⟨i,j,rfl,rfl,c,q⟩:=h;obtain⟨t,rfl⟩:=f;obtain⟨w,rfl⟩:=b;have e:(0:Int)<j:=c.1;refine ifloordiv_int (by lia) ?_ (.inl (PyProof.noPylong_of_log2 c.2));rw[UD _ (by lia)];exact⟨.int _,H,I.tok _,⟨_,rfl⟩,q⟩
theorem y8{K:M9}{xs:a0i}{H:Hp}(Pv:Nat->St->Hp->Prop)(u:Pv 0 c H)(k:∀i c H,i<=xs.length->Pv i c H->et K H a xs)
  (h:∀i x c H,xs[i]?=My x->Pv i c H->g x c H λd v=>z d v λb r=>if b=MH then C d r (Pv (i+1))else Pv (i+1) d r) (l:∀c H,Pv xs.length c H->Q c H):dB (Xv K a) g z C c H Q:=by
 refine⟨λi m c H=>i<=xs.length/\m+i=xs.length/\Pv i c H,⟨xs.length,N2 _,by lia,u⟩,λi m c H ⟨n,f,j⟩=>?_⟩;by_cases o:i<xs.length
 .refine .inr ⟨⟨xs,xs[i],k i c H n j,MI o⟩,Pv (i+1),λy p q=>⟨m-1,by lia,by lia,by lia,q⟩,λx p ⟨e,B⟩=>?_⟩
  subst e;exact h i x c p (B xs (k i c p n j)) j
 .obtain rfl:i=xs.length:=by lia
  exact .inl ⟨⟨xs,k _ c H n j,MW _⟩,l c H j⟩
theorem db.plain{X:Cx}{F:Scope}(k:F.kind= .function)(d:(F.names.map (·.1)).Nodup)(f:∀y∈F.names,y.2≠ .free):db X F c_ c_ []:=
 ⟨k,d,λy a e=>Nh e (f y a),by simp,λj b=>Nh b (by simp)⟩
def ur(i j:Int):Prop:=i.natAbs<2^1000/\j.natAbs<2^1000
theorem jZ{k:Int}(h:k.natAbs<2^1000):Uw k<=2^20:=by
 unfold Uw;split
 .exact N2 _
 .rename_i a
  have b:k.natAbs≠0:=by
   intro z;have:k=0:=Int.natAbs_eq_zero.mp z;subst this;simp at a
  have:=(Uf b).mpr h;have e:(2:Nat)^20=1048576:=by decide
  lia
theorem rn{X:Cx}:f0 X (PM .Mult) (rI ur λi j=> .int (i*j)):=o1 λ_ _ _ _ _ _ _ a q=>mul_int q (VG (jZ a.1) (jZ a.2))
theorem bS.upd{H:Hp}(h:H a=ME):bS H (upd H a o):=λb u e=>by rw[bt (b5 e h)];exact e
abbrev f_:=Int×a0c
abbrev a0w:=List (f_×MK×V)
abbrev a0G:=List (f_×MK×MO)
noncomputable def hI(k:a0c):Int:=reduceHash (Q7 (k.map hashInt))
def hB:Bool->f_->Int
 |true,k=>reduceHash (Q7 [hashInt k.1,hI k.2])
 |false,k=>hI k.2
def zi(a:MK)(b:Bool)(f:Nat)(s:a0w)(h:NS):Prop:=
 ∃o es,∃d:a0G,h.get? a=My o/\o.ExactDict/\o.data= .dict es f/\es.toList=d.map (λy=>⟨hB b y.1,.ref y.2.1,y.2.2⟩)/\(d.map (·.1)).Nodup/\(a==T4)=ML/\d.length<=M1/\
  T3 (λ(x:f_×MK×V) (y:f_×MK×MO)=>x.1=y.1/\x.2.1=y.2.1/\aN x.2.2 y.2.2) s d
noncomputable def dU(a:MK)(b:Bool)(d:Nat)(f:a0w):HO:= .ext (zi a b d f)
theorem xu{P:Ny}{w:NC}{b:Bool}{H:Hp}(S:zi a b g i h):bX P w H h a (dU a b g i):=by
 refine⟨S,?_,λc d z k=>?_⟩
 .obtain⟨o,_,_,e,_⟩:=S
  exact⟨o,e⟩
 .obtain⟨o,es,ys,e,r⟩:=z
  exact⟨o,es,ys,k _ e,r⟩
end
end L2
namespace L2.Pu
theorem ko{D d e:Sort _}{P Q R:D->d->e->Prop}{C:Prop}(h:∃a b c,P a b c/\Q a b c/\R a b c)(k:∀a b c,P a b c->Q a b c->R a b c->C):C:=by
 obtain⟨a,b,c,x,y,z⟩:=h;exact k a b c x y z
theorem oa{D c:Sort _}{P Q R:D->c->Prop}{C:Prop}(h:∃a b,P a b/\Q a b/\R a b)(k:∀a b,P a b->Q a b->R a b->C):C:=by
 obtain⟨a,b,x,y,z⟩:=h;exact k a b x y z
inductive D where
 |non|bl (b:Bool)|int (i:Int)|str (x:NA)|ty (n:String)|txt
 |lst (xs:List D)|tup (xs:List D)|scr (xs:a0c)|obj (C:MK) (ns:a0h) (xs:List D)|bag|adr (a:MK)|dct (b:Bool) (ks:List f_) (vs:List D)
abbrev a0d:=List D
abbrev a0k:=Option D
abbrev a0o:=List a0d
abbrev a0z:=Option a0d
abbrev a0H:=D->D->a0k
structure Bg where
 cells:a0c
 i:Int
 j:Int
structure Fx where
 A:MK->Prop
 bg:a0s
def KL(K:M9)(a:MK)(E:a0i):Prop:=
 ∃(o:Oa) (D:a0J) (n:Nat),K.lookup a=My o/\o.cls= .type "list"/\o.dict=ME/\o.data= .seq D n/\D.size<=M1/\ar E D.toList
def KT(K:M9)(a:MK)(E:a0i):Prop:=
 ∃(o:Oa) (D:a0J) (n:Nat),K.lookup a=My o/\o.cls= .type "tuple"/\o.data= .seq D n/\D.size<=M1/\ar E D.toList
def TQ(K:M9)(F:Fx)(H:Hp)(c:MK)(D:a0i):Prop:=(¬F.A c/\Rd H c (.tup D))\/KT K c D
def gW(K:M9)(F:Fx)(H:Hp):Bool->f_->MK->Prop
 |true,k,c=>∃e,TQ K F H c [.int k.1,.ref e]/\TQ K F H e (k.2.map V.int)
 |false,k,c=>k.1=0/\TQ K F H c (k.2.map V.int)
mutual
noncomputable def c4(K:M9)(F:Fx)(H:Hp):D->V->Prop
 | .non,v=>v= .non
 | .bl b,v=>v= .bl b
 | .int i,v=>v= .int i
 | .str x,v=>v= .str x
 | .ty n,v=>v= .ty n
 | .txt,v=>∃z,v= .str z
 | .lst ds,v=>∃a E,v= .ref a/\(¬F.A a/\Rd H a (.lst E))/\bb K F H ds E
 | .scr ns,v=>∃a,v= .ref a/\((¬F.A a/\Rd H a (.lst (ns.map V.int)))\/KL K a (ns.map V.int))
 | .tup ds,v=>∃a E,v= .ref a/\((¬F.A a/\Rd H a (.tup E))\/KT K a E)/\bb K F H ds E
 | .obj C ns ds,v=>∃a G E,v= .ref a/\¬F.A a/\H a=My (.ins C G (ns.zip E))/\ns.length=E.length/\bb K F H ds E
 | .bag,v=>∃b l,F.bg=My (b,l)/\v= .ref b
 | .adr a,v=>v= .ref a
 | .dct b ks vs,v=>∃a M E,v= .ref a/\(¬F.A a/\H a=My (dU a b M E))/\ks=E.map (·.1)/\(∀x∈E,gW K F H b x.1 x.2.1)/\bb K F H vs (E.map (·.2.2))
noncomputable def bb(K:M9)(F:Fx)(H:Hp):a0d->a0i->Prop
 |[],xs=>xs=[]
 |d::ds,xs=>∃x r,xs=x::r/\c4 K F H d x/\bb K F H ds r
end
structure Tr (F:Fx) (H:Hp) (F2:Fx) (H2:Hp):Prop where
 av:∀a,¬F.A a->H a≠ME->¬F2.A a
 kp:∀a o,¬F.A a->H a=My o->H2 a=My o
 bg:F2.bg=F.bg
theorem Tr.refl(F:Fx)(H:Hp):Tr F H F H:=⟨λ_ h _=>h,λ_ _ _ h=>h,rfl⟩
theorem Tr.trans(a:Tr F H F1 H1)(b:Tr F1 H1 F2 H2):Tr F H F2 H2:=
 ⟨λx c d=>b.av x (a.av x c d) (by
   cases q:H x with
   |none=>exact Nh q d
   |some o=>rw[a.kp x o c q];simp),
  λx o c d=>b.kp x o (a.av x c (by rw[d];simp)) (a.kp x o c d),b.bg.trans a.bg⟩
theorem Rd.tr{F b:Fx}(t:Tr F H b H2)(h:¬F.A a)(r:Rd H a u):¬b.A a/\Rd H2 a u:=by
 rcases r with r|⟨o,r⟩
 .exact⟨t.av a h (by rw[r];simp),.inl (t.kp a _ h r)⟩
 .exact⟨t.av a h (by rw[r];simp),.inr ⟨o,t.kp a _ h r⟩⟩
theorem TQ.tr{K:M9}(t:Tr F H F2 H2)(h:TQ K F H c xs):TQ K F2 H2 c xs:=h.imp (λh=>Rd.tr t h.1 h.2) id
theorem gW.tr{K:M9}{b:Bool}(t:Tr F H F2 H2)(h:gW K F H b k c):gW K F2 H2 b k c:=by
 cases b with
 |true=>
  obtain⟨e,a,d⟩:=h;exact⟨e,a.tr t,d.tr t⟩
 |false=>exact⟨h.1,h.2.tr t⟩
mutual
theorem c4.tr{K:M9}(t:Tr F H F2 H2):∀(d:D) (v:V),c4 K F H d v->c4 K F2 H2 d v
 | .non,v,h=>h
 | .bl b,v,h=>h
 | .int i,v,h=>h
 | .str x,v,h=>h
 | .ty n,v,h=>h
 | .txt,v,h=>h
 | .lst ds,v,h=>by
  unfold c4 at h⊢;obtain⟨a,E,e,c,f⟩:=h;exact⟨a,E,e,Rd.tr t c.1 c.2,bb.tr t ds E f⟩
 | .scr ns,v,h=>by
  unfold c4 at h⊢;obtain⟨a,e,c⟩:=h;exact⟨a,e,c.imp (λ⟨p,q⟩=>Rd.tr t p q) id⟩
 | .tup ds,v,h=>by
  unfold c4 at h⊢;obtain⟨a,E,e,c,f⟩:=h;exact⟨a,E,e,c.imp (λ⟨p,q⟩=>Rd.tr t p q) id,bb.tr t ds E f⟩
 | .obj C ns ds,v,h=>by
  unfold c4 at h⊢;obtain⟨a,G,E,e,c,f,g,j⟩:=h;exact⟨a,G,E,e,t.av a c (by rw[f];simp),t.kp a _ c f,g,bb.tr t ds E j⟩
 | .bag,v,h=>by
  unfold c4 at h⊢;rw[t.bg];exact h
 | .adr a,v,h=>by
  unfold c4 at h⊢;exact h
 | .dct b ks vs,v,h=>by
  unfold c4 at h⊢;obtain⟨a,M,E,e,c,f,g,j⟩:=h;exact⟨a,M,E,e,⟨t.av a c.1 (by rw[c.2];simp),t.kp a _ c.1 c.2⟩,f,λx k=>(g x k).tr t,bb.tr t vs _ j⟩
theorem bb.tr{K:M9}(t:Tr F H F2 H2):∀(ds:a0d) (xs:a0i),bb K F H ds xs->bb K F2 H2 ds xs
 |[],xs,h=>h
 |d::ds,xs,h=>by
  unfold bb at h⊢;obtain⟨x,r,e,a,b⟩:=h;exact⟨x,r,e,c4.tr t d x a,bb.tr t ds r b⟩
end
section
variable{K:M9}{F:Fx}{H:Hp}
theorem bb.nil:bb K F H [] []:=rfl
theorem bb.cons(h:c4 K F H d x)(t:bb K F H ds xs):bb K F H (d::ds) (x::xs):=⟨x,xs,rfl,h,t⟩
theorem bb.length:∀{ds:a0d} {xs:a0i},bb K F H ds xs->ds.length=xs.length
 |[],xs,h=>by have e:xs=[]:=h;subst e;rfl
 |d::ds,xs,h=>by
  obtain⟨x,r,e,_,a⟩:=h;subst e;rw[M5,M5,bb.length a]
theorem bb.get:∀{E:a0d} {G:a0i} {i:Nat} {d:D},bb K F H E G->E[i]?=My d->∃x,G[i]?=My x/\c4 K F H d x
 |[],_,_,_,_,e=>by simp at e
 |c::E,G,0,d,h,e=>by
  obtain⟨x,r,q,a,b⟩:=h;subst q;simp at e;subst e;exact⟨x,rfl,a⟩
 |c::E,G,i+1,d,h,e=>by
  obtain⟨x,r,q,a,b⟩:=h;subst q;obtain⟨y,f,g⟩:=bb.get (i:=i) (d:=d) b (by simpa using e);exact⟨y,by simpa using f,g⟩
theorem bb.getV:∀{E:a0d} {D:a0i} {i:Nat} {x:V},bb K F H E D->D[i]?=My x->∃d,E[i]?=My d/\c4 K F H d x
 |[],D,_,_,h,e=>by have q:D=[]:=h;subst q;simp at e
 |c::E,D,0,d,h,e=>by
  obtain⟨x,r,q,a,b⟩:=h;subst q;simp at e;subst e;exact⟨c,rfl,a⟩
 |c::E,D,i+1,d,h,e=>by
  obtain⟨x,r,q,a,b⟩:=h;subst q;obtain⟨y,f,g⟩:=bb.getV (i:=i) (x:=d) b (by simpa using e);exact⟨y,by simpa using f,g⟩
theorem bb.append:∀{ds E:a0d} {xs D:a0i},bb K F H ds xs->bb K F H E D->bb K F H (ds++E) (xs++D)
 |[],_,xs,_,h,h'=>by have q:xs=[]:=h;subst q;exact h'
 |c::ds,E,xs,D,h,h'=>by
  obtain⟨x,r,q,a,b⟩:=h;subst q;exact⟨x,r++D,rfl,a,bb.append b h'⟩
theorem bb.take:∀{ds:a0d} {xs:a0i} (n:Nat),bb K F H ds xs->bb K F H (ds.take n) (xs.take n)
 |[],xs,n,h=>by have q:xs=[]:=h;subst q;simp;rfl
 |c::ds,xs,0,h=>by simp;rfl
 |c::ds,xs,n+1,h=>by
  obtain⟨x,r,q,a,b⟩:=h;subst q;exact⟨x,r.take n,rfl,a,bb.take n b⟩
theorem bb.drop:∀{ds:a0d} {D:a0i} (n:Nat),bb K F H ds D->bb K F H (ds.drop n) (D.drop n)
 |[],D,n,h=>by have q:D=[]:=h;subst q;simp;rfl
 |c::ds,D,0,h=>h
 |c::ds,D,n+1,h=>by
  obtain⟨x,r,q,b,a⟩:=h;subst q;exact bb.drop n a
theorem bb.set:∀{ds:a0d} {xs:a0i} (i:Nat) {d:D} {x:V},bb K F H ds xs->c4 K F H d x->bb K F H (ds.set i d) (xs.set i x)
 |[],xs,i,_,_,h,_=>by have q:xs=[]:=h;subst q;simp;rfl
 |c::ds,xs,0,d,x,h,hd=>by
  obtain⟨y,r,q,b,a⟩:=h;subst q;exact⟨x,r,rfl,hd,a⟩
 |c::ds,xs,i+1,d,x,h,hd=>by
  obtain⟨y,r,q,b,a⟩:=h;subst q;exact⟨y,r.set i x,rfl,b,bb.set i a hd⟩
theorem c4.sqL(h:c4 K F H (.lst d) v):∃a D,v= .ref a/\et K H a D/\bb K F H d D:=by
 unfold c4 at h;obtain⟨a,D,e,b,c⟩:=h;exact⟨a,D,e,.inl b.2,c⟩
theorem c4.rdL(h:c4 K F H (.lst d) v):∃a D,v= .ref a/\Rd H a (.lst D)/\bb K F H d D:=by
 unfold c4 at h;obtain⟨a,D,e,b,c⟩:=h;exact⟨a,D,e,b.2,c⟩
theorem c4.scr{D:a0c}(h:c4 K F H (.scr D) v):∃a,v= .ref a/\et K H a (D.map V.int):=by
 unfold c4 at h;obtain⟨a,e,b⟩:=h;exact⟨a,e,b.imp (λp=>p.2) id⟩
theorem c4.sqT(h:c4 K F H (.tup d) v):∃a D,v= .ref a/\hY K H a D/\bb K F H d D:=by
 unfold c4 at h;obtain⟨a,D,e,b,c⟩:=h;exact⟨a,D,e,b.imp (λp=>p.2) id,c⟩
theorem c4.int(h:c4 K F H (.int i) v):v= .int i:=h
theorem c4.bl{i:Bool}(h:c4 K F H (.bl i) v):v= .bl i:=h
theorem c4.str(h:c4 K F H (.str i) v):v= .str i:=h
theorem c4.non(h:c4 K F H .non v):v= .non:=h
theorem c4.ty(h:c4 K F H (.ty n) v):v= .ty n:=h
theorem bb.ints:∀(E:a0c) {G:a0i},bb K F H (E.map D.int) G->G=E.map V.int
 |[],G,h=>h
 |n::E,G,h=>by
  obtain⟨x,r,e,a,b⟩:=h;rw[e,bb.ints E b];have q:x= .int n:=a;rw[q];rfl
theorem bb.ofInts:∀(E:a0c),bb K F H (E.map D.int) (E.map V.int)
 |[]=>rfl
 |n::E=>⟨.int n,E.map V.int,rfl,rfl,bb.ofInts E⟩
structure Fr (F:Fx) (H:Hp) (β:Bg):Prop where
 occ:∀a,F.A a->H a≠ME
 bgA:∀b l,F.bg=My (b,l)->F.A b/\F.A l/\b≠l
 bag:∀b l,F.bg=My (b,l)->H b=My (.lst [.ref l,.int β.i,.int β.j])/\H l=My (.lst (β.cells.map V.int))
structure To (F:Fx) (H H':Hp) (β':Bg):Prop where
 kp:∀a o,H a=My o->(∀b l,F.bg=My (b,l)->a≠b/\a≠l)->H' a=My o
 fr:Fr F H' β'
theorem To.refl{F:Fx}{H:Hp}(fr:Fr F H a):To F H H a:=⟨λ_ _ h _=>h,fr⟩
theorem To.trans{F:Fx}{H H1 c:Hp}(a:To F H H1 β1)(b:To F H1 c β2):To F H c β2:=⟨λx o h n=>b.kp x o (a.kp x o h n) n,b.fr⟩
theorem Fr.same{F:Fx}{H c:Hp}(fr:Fr F H d)(s:bS H c):To F H c d:=
 ⟨λa o h _=>s a o h,⟨λa h q=>(by
  cases e:H a with
  |none=>exact fr.occ a h e
  |some o=>exact Nh ((s a o e).symm.trans q) (by simp)),fr.bgA,λb l e=>⟨s _ _ (fr.bag b l e).1,s _ _ (fr.bag b l e).2⟩⟩⟩
theorem Fr.upd{F:Fx}{H:Hp}(fr:Fr F H a)(o:HO)(h:H p=ME):To F H (upd H p o) a:=fr.same (bS.upd h)
theorem Fr.fresh{F:Fx}{H:Hp}(fr:Fr F H a)(h:H p=ME):¬F.A p:=λq=>fr.occ p q h
theorem To.tr{F:Fx}{H c:Hp}(fr:Fr F H f)(t:To F H c d):Tr F H F c:=
 ⟨λ_ h _=>h,λa o h e=>t.kp a o e λb l q=>⟨λz=>h (z▸(fr.bgA b l q).1),λz=>h (z▸(fr.bgA b l q).2.1)⟩,rfl⟩
abbrev Dn:=List a0k
structure ix (K:M9) (F:Fx) (H:Hp) (δ:Dn) (σ:St):Prop where
 len:δ.length=σ.length
 tell:∀(i:Nat) (d:D),δ[i]?=My (My d)->∃v,σ[i]?=My (My v)/\c4 K F H d v
theorem ix.tr{K:M9}{F a:Fx}{H b:Hp}(t:Tr F H a b)(h:ix K F H c f):ix K a b c f:=⟨h.len,λi d e=>let ⟨v,h1,h2⟩:=h.tell i d e;⟨v,h1,c4.tr t d v h2⟩⟩
theorem ix.set{K:M9}{F:Fx}{H:Hp}{D:Dn}{a:St}(h:ix K F H D a)(E:c4 K F H d v):ix K F H (D.set i (My d)) (a.set i (My v)):=by
 refine⟨by rw[NT,NT,h.len],λj c e=>?_⟩;rw[OB]at e;rw[OB];by_cases q:i=j
 .subst q
  rw[MU rfl]at e⊢;split at e
  .rename_i b
   cases e;rw[MU (by rw[<-h.len];exact b)];exact⟨v,rfl,E⟩
  .cases e
 .rw[MS q]at e⊢
  exact h.tell j c e
def Sub(F E:Dn):Prop:=∀(i:Nat) (d:D),F[i]?=My (My d)->E[i]?=My (My d)
theorem ix.sub{K:M9}{F:Fx}{H:Hp}{E D:Dn}(h:ix K F H D a)(s:Sub E D)(l:E.length=D.length):ix K F H E a:=⟨l.trans h.len,λi d e=>h.tell i d (s i d e)⟩
abbrev M(D:Type):=Bg->Option (Except MK D×Bg)
abbrev a0q:=Dn->M Bool
noncomputable def M.ret{D:Type}(a:D):M D:=λE=>My (.ok a,E)
noncomputable def M.bind{D b:Type}(m:M D)(k:D->M b):M b:=λE=>match m E with
 |none=>ME
 |some (.error C,β1)=>My (.error C,β1)
 |some (.ok a,β1)=>k a β1
noncomputable def M.ofO{D:Type}(o:Option D):M D:=λE=>match o with
 |some a=>My (.ok a,E)
 |none=>ME
noncomputable def M.fail{D:Type}:M D:=λ_=>ME
theorem M.bind_some{D b:Type}(a:D)(k:D->M b):M.bind (M.ofO (My a)) k=k a:=rfl
theorem M.bind_ok{D b:Type}{m:M D}{k:D->M b}{β β1:Bg}{a:D}(h:m β=My (.ok a,β1)):M.bind m k β=k a β1:=by unfold M.bind;rw[h]
theorem M.bind_err{E a:Type}{m:M E}{k:E->M a}{F D:Bg}{C:MK}(h:m F=My (.error C,D)):M.bind m k F=My (.error C,D):=by unfold M.bind;rw[h]
def run{D c:Type}(R:Hp->D->c->Prop)(F:Fx)(E:a0r)(e:St)(m:M D)(H:Hp)(Q:c->Hp->Prop)(G:Bg):Prop:=
 ∃r a,m G=My (r,a)/\match r with
  | .ok d=>∀v b,To F H b a->R b d v->Q v b
  | .error C=>∀b,To F H b a->E e (.ref C) ME b
theorem run.mono{D c:Type}{R:Hp->D->c->Prop}{F:Fx}{E:a0r}{g:St}{m:M D}{H:Hp}{Q i:c->Hp->Prop}{β:Bg}(h:run R F E g m H Q β)(f:∀v a,Q v a->i v a):run R F E g m H i β:=by
 obtain⟨r,b,e,h⟩:=h;refine⟨r,b,e,?_⟩;cases r with
 |ok d=>exact λv a t q=>f v a (h v a t q)
 |error C=>exact h
theorem run.bind{K j g i:Type}{R:Hp->K->j->Prop}{R2:Hp->g->i->Prop}{F:Fx}{E:a0r}{a:St}{m:M K}{k:K->M g}{H:Hp}{Q:i->Hp->Prop}{S:Bg}(h:run R2 F E a (M.bind m k) H Q S):
  run R F E a m H (λv G=>∃d D,To F H G D/\R G d v/\run R2 F E a (k d) G Q D) S:=by
 obtain⟨r,b,e,h⟩:=h;cases q:m S with
 |none=>unfold M.bind at e;rw[q]at e;cases e
 |some z=>
  obtain⟨V,D⟩:=z;refine⟨V,D,q,?_⟩;cases V with
  |error C=>
   rw[M.bind_err q]at e;cases e;exact h
  |ok d=>
   rw[M.bind_ok q]at e;intro v G t o;refine⟨d,D,t,o,r,b,e,?_⟩;cases r with
   |ok p=>exact λl c f n=>h l c (t.trans f) n
   |error C=>exact λc f=>h c (t.trans f)
theorem run.ret{D b:Type}{R:Hp->D->b->Prop}{F:Fx}{E:a0r}{c:St}{a:D}{v:b}{H:Hp}{Q:b->Hp->Prop}{β:Bg}(fr:Fr F H β)(h:run R F E c (M.ret a) H Q β)(r:R H a v):Q v H:=by
 obtain⟨_,_,e,h⟩:=h;cases e;exact h v H (To.refl fr) r
theorem run.ofO{D c:Type}{R:Hp->D->c->Prop}{F:Fx}{E:a0r}{d:St}{o:Option D}{H:Hp}{Q:c->Hp->Prop}{G:Bg}(h:run R F E d (M.ofO o) H Q G):∃a,o=My a/\∀v b,To F H b G->R b a v->Q v b:=by
 obtain⟨_,_,e,h⟩:=h;cases o with
 |none=>cases e
 |some a=>cases e;exact⟨a,rfl,h⟩
abbrev FD:=Dn->M D
abbrev FL:=Dn->M a0d
def tV(K:M9)(f:FD)(E:a0r):TE:=λa H Q=>∃F D G,Fr F H G/\ix K F H D a/\run (c4 K F) F E a (f D) H Q G
def i0(K:M9)(f:FL)(E:a0r):TA:=λa H Q=>∃F D G,Fr F H G/\ix K F H D a/\run (bb K F) F E a (f D) H Q G
def hW(K:M9)(f:a0q)(E:a0r):TT:=λc H Q=>∃F D G,Fr F H G/\ix K F H D c/\run (λ_ (a b:Bool)=>b=a) F E c (f D) H Q G
theorem _root_.L2.PE.imp(h:PE X e t)(f:∀a H Q,c a H Q->t a H Q):PE X e c:=λb s a H Q I q=>h b s a H Q I (f a H Q q)
theorem _root_.L2.PT.imp(h:PT X e t)(f:∀a H Q,c a H Q->t a H Q):PT X e c:=λb s a H Q I q=>h b s a H Q I (f a H Q q)
theorem _root_.L2.PW.imp(h:PW X e t)(f:∀a H Q,d a H Q->t a H Q):PW X e d:=λc b s a H Q I q=>h c b s a H Q I (f a H Q q)
theorem _root_.L2.PA.imp(h:PA X e t)(f:∀a H Q,c a H Q->t a H Q):PA X e c:=λD b s a H Q I q=>h D b s a H Q I (f a H Q q)
def ag(i:Nat):FD:=λD=>M.ofO (D.getD i ME)
def fC(d:D):FD:=λ_=>M.ret d
def f1(E:D->a0k)(f:FD):FD:=λF=>M.bind (f F) λa=>M.ofO (E a)
def f2(E:a0H)(f g:FD):FD:=λD=>M.bind (f D) λa=>M.bind (g D) λb=>M.ofO (E a b)
noncomputable def az:FL:=λ_=>M.ret []
def ae(f:FD)(g:FL):FL:=λD=>M.bind (f D) λa=>M.bind (g D) λE=>M.ret (a::E)
def br(D:a0d->a0k)(g:FL):FD:=λE=>M.bind (g E) λF=>M.ofO (D F)
def bw(m:a0d->M D)(g:FL):FD:=λE=>M.bind (g E) λF=>m F
variable{X:Cx}{E:a0r}{e a b:Expr}{Y:List Expr}{U:Ri}
theorem K7(i:Nat)(h:PE X (.Name x U) (oM i)):PE X (.Name x U) (tV X.K (ag i) E):=h.imp λl H Q c=>by
 obtain⟨F,a,b,fr,f,r⟩:=c;obtain⟨d,e,r⟩:=run.ofO r;have g:a[i]?=My (My d):=by
  rw[MN]at e;cases q:a[i]? with
  |none=>rw[q]at e;cases e
  |some z=>rw[q]at e;simp at e;rw[e]
 obtain⟨v,j,k⟩:=f.tell i d g;exact⟨v,j,r v H (To.refl fr) k⟩
theorem I0(h:PE X e (tC v))(a:∀F H,c4 X.K F H d v):PE X e (tV X.K (fC d) E):=h.imp λf H Q c=>by obtain⟨F,b,D,fr,g,r⟩:=c;exact run.ret fr r (a F H)
theorem ah{i j U}:PE X (.Constant (.int i) j U) (tV X.K (fC (.int i)) E):=I0 b8 λ_ _=>rfl
theorem e8{i j U}:PE X (.Constant (.bool i) j U) (tV X.K (fC (.bl i)) E):=I0 Lr λ_ _=>rfl
theorem La{j U}:PE X (.Constant .none j U) (tV X.K (fC .non) E):=I0 JE λ_ _=>rfl
theorem K8{i j U}:PE X (.Constant (.str i) j U) (tV X.K (fC (.str i)) E):=I0 uW λ_ _=>rfl
theorem gu:PA X [] (i0 X.K az E):=f8.imp λd H Q c=>by obtain⟨F,a,b,fr,f,r⟩:=c;exact run.ret fr r bb.nil
theorem m5(D:PE X e (tV X.K f E))(k:PA X Y (i0 X.K g E))(G:b0a X e Y:=by rfl):PA X (e::Y) (i0 X.K (ae f g) E):=
 (b9 D k G).imp λm H Q c=>ko c λF b M fr i r=>⟨F,b,M,fr,i,(run.bind (R:=c4 X.K F) r).mono λv o ⟨d,a,t,S,U⟩=>
  ⟨F,b,a,t.fr,i.tr (t.tr fr),(run.bind (R:=bb X.K F) U).mono λp n c=>oa c λq V j h l=>run.ret j.fr l (bb.cons (c4.tr (j.tr t.fr) _ _ S) h)⟩⟩
def bn(K:M9)(r:R2)(E:a0H):Prop:=∀(F:Fx) (H:Hp) (a:Bg) (Q:VK) (b e d:D) (f g:V),Fr F H a->c4 K F H b f->c4 K F H e g->E b e=My d->
 (∀v c,To F H c a->c4 K F c d v->Q v c)->r f g H Q
def GR(K:M9)(r:V->Hp->VK->Prop)(e:D->a0k):Prop:=∀(F:Fx) (H:Hp) (a:Bg) (Q:VK) (b d:D) (f:V),Fr F H a->c4 K F H b f->e b=My d->
 (∀v c,To F H c a->c4 K F c d v->Q v c)->r f H Q
def fS(K:M9)(r:a0F)(E:a0d->a0k):Prop:=∀(F:Fx) (H:Hp) (a:Bg) (Q:VK) (b:a0d) (d:D) (e:a0i),Fr F H a->bb K F H b e->E b=My d->
 (∀v c,To F H c a->c4 K F c d v->Q v c)->r e H Q
theorem pL{K:M9}(l:bn K r op){H:Hp}(h:tV K (f2 op f g) E s H Q):W5 r (tV K f E) (tV K g E) s H Q:=by
 obtain⟨F,e,D,fr,j,h⟩:=h;refine⟨F,e,D,fr,j,(run.bind (R:=c4 K F) h).mono λv V c=>oa c λd a t G M=>⟨F,e,a,t.fr,j.tr (t.tr fr),(run.bind (R:=c4 K F) M).mono λn o c=>oa c λS b m i p=>?_⟩⟩;obtain⟨U,q,k⟩:=run.ofO p;exact l F o b Q d S U v n m.fr (c4.tr (m.tr t.fr) _ _ G) i q k
theorem aL(c:f0 X (PM op) r)(l:bn X.K r o)(e:PE X a (tV X.K f E))(d:PE X b (tV X.K g E)):PE X (.BinOp a op b U) (tV X.K (f2 o f g) E):=
 (dX c e d).imp λ_ _ _=>pL l
theorem iR(c:f0 X (Od op) r)(l:bn X.K r o)(e:PE X a (tV X.K f E))(d:PE X b (tV X.K g E))(D:Rw op b=ML:=by first|exact u9 _|rfl):PE X (.Compare a [op] [b] U) (tV X.K (f2 o f g) E):=
 (HA c e d D).imp λ_ _ _=>pL l
theorem X7(g:XU X (unaryOp op) r)(l:GR X.K r o)(e:PE X a (tV X.K f E)):PE X (.UnaryOp op a U) (tV X.K (f1 o f) E):=
 (Lq g e).imp λj H Q c=>ko c λF D G fr i h=>⟨F,D,G,fr,i,(run.bind (R:=c4 X.K F) h).mono λv M c=>oa c λd b t S V=>let ⟨d3,e3,k⟩:=run.ofO V;l F M b Q d d3 v t.fr S e3 k⟩
theorem aT(c:Ic X r)(l:bn X.K r o)(e:PE X a (tV X.K f E))(d:PE X b (tV X.K g E))(D:xD b:=by exact λ_ _=>rfl):PE X (.Subscript a b U) (tV X.K (f2 o f g) E):=
 (dN c e d D).imp λ_ _ _=>pL l
theorem zI{K:M9}(l:fS K r op){H:Hp}(h:tV K (br op g) E j H Q):Yl r (i0 K g E) j H Q:=by
 obtain⟨F,b,e,fr,c,h⟩:=h;refine⟨F,b,e,fr,c,(run.bind (R:=bb K F) h).mono λv D f=>oa f λd a t G M=>?_⟩;obtain⟨S,i,k⟩:=run.ofO M;exact l F D a Q d S v t.fr G i k
theorem da{f:String}(h:dP X (.builtin f) r)(l:fS X.K r op)(i:Gl X x)(a:X.mg x=ME)(j:Qh x=My (.builtin f))(b:PA X (e::Y) (i0 X.K g E))(D:x≠"__name__":=by decide)(c:b0c x:=by decide)
  (k:b0a X e Y:=by rfl) (d:b0b X U Y:=by rfl):PE X (.Call (.Name x p) (e::Y) [] U) (tV X.K (br op g) E):=
 (kX h i a j b D c k d).imp λ_ _ _=>zI l
theorem bY(f:dP X (.type T) r)(l:fS X.K r op)(h:Gl X x)(a:X.mg x=ME)(i:Qh x=My (.type T))(b:PA X (e::Y) (i0 X.K g E))(D:x≠"__name__":=by decide)(c:b0c x:=by decide)
  (j:b0a X e Y:=by rfl) (d:b0b X U Y:=by rfl):PE X (.Call (.Name x p) (e::Y) [] U) (tV X.K (br op g) E):=
 (sI f h a i b D c j d).imp λ_ _ _=>zI l
noncomputable def hZ(a:a0d):a0k:=if a.length<=M1 then My (.tup a)else ME
noncomputable def gB(ds:a0d):a0k:=if ds.length<=M1 then My (.lst ds)else ME
theorem c4.newT{K:M9}{F:Fx}{H:Hp}(fr:Fr F H f)(h:H p=ME)(a:bb K F H d c):c4 K F (upd H p (.tup c)) (.tup d) (.ref p):=
 ⟨p,c,rfl,.inl ⟨fr.fresh h,.inl ao⟩,bb.tr ((fr.upd _ h).tr fr) _ _ a⟩
theorem c4.newL{K:M9}{F:Fx}{H:Hp}(fr:Fr F H f)(h:H p=ME)(a:bb K F H d c):c4 K F (upd H p (.lst c)) (.lst d) (.ref p):=
 ⟨p,c,rfl,⟨fr.fresh h,.inl ao⟩,bb.tr ((fr.upd _ h).tr fr) _ _ a⟩
theorem cZ{l}(h:PA X Y (i0 X.K g E)):PE X (.Tuple Y l U) (tV X.K (br hZ g) E):=
 (JB h).imp λj H Q d=>ko d λF b e fr i r=>⟨F,b,e,fr,i,(run.bind (R:=bb X.K F) r).mono λM S d=>by
  obtain⟨V,D,t,a,G⟩:=d;obtain⟨m,c,k⟩:=run.ofO G;unfold hZ at c;split at c
  .cases c
   exact⟨by rw[<-a.length];assumption,λp f=>k _ _ (t.fr.upd _ f) (c4.newT t.fr f a)⟩
  .cases c⟩
theorem gc(h:PA X Y (i0 X.K g E)):PE X (.List Y U) (tV X.K (br gB g) E):=
 (gz h).imp λj H Q d=>ko d λF b e fr i r=>⟨F,b,e,fr,i,(run.bind (R:=bb X.K F) r).mono λM S d=>by
  obtain⟨V,D,t,a,G⟩:=d;obtain⟨l,c,k⟩:=run.ofO G;unfold gB at c;split at c
  .cases c
   exact⟨by rw[<-a.length];assumption,λp f=>k _ _ (t.fr.upd _ f) (c4.newL t.fr f a)⟩
  .cases c⟩
def J_(K:M9)(n:Nat)(m:a0d->M D):Sp:=λa H Q E=>a.length=n/\∃F b e,Fr F H e/\bb K F H b a/\run (c4 K F) F (λ_=>E) [] (m b) H Q e
variable{p:Ri}{x:NA}{k n:Nat}{f:MK}{fd:Nk}{ps:a0h}
theorem run.toE{a c:Type}{R:Hp->a->c->Prop}{F:Fx}{E:a0r}{d:St}{m:M a}{H:Hp}{Q:c->Hp->Prop}{b:Bg}(h:run R F E d m H Q b):run R F (λ_=>E d) [] m H Q b:=h
theorem Iz(G:eg X.prog X.w X.K X.mg X.base (fh X.prog X.w) k f fd ps (J_ X.K n m))(q:d4 k X.A)(u:Gl X x)(V:X.mg x=My (.ref f))(v:Sd X.K (.ref f)=MH)(y:ci X.K fd ps [])(B:cc (fh X.prog X.w) X E)
  (s:PA X (e::Y) (i0 X.K g E)) (z:∀a b r h,g a b=My (.ok r,h)->r.length=n) (c:b0c x:=by decide) (I:b0a X e Y:=by rfl) (d:b0b X U Y:=by rfl):
  PE X (.Call (.Name x p) (e::Y) [] U) (tV X.K (bw m g) E):=
 (nk G q u V v y .nil B s c I d).imp λP H Q J=>ko J λF a b fr L r=>⟨F,a,b,fr,L,by
  obtain⟨M,i,l,o⟩:=run.bind (R:=bb X.K F) r;refine⟨M,i,l,?_⟩;cases M with
  |error C=>exact o
  |ok ds=>
   intro T W t S;obtain⟨Z,D,N,j,r1⟩:=o T W t S;have O:=z _ _ _ _ l;refine⟨by rw[NJ,<-S.length,O],F,Z,D,N.fr,by rw[NJ];exact j,run.toE r1⟩⟩
theorem FO{r:a0d}(h:az d g=My (.ok r,c)):r.length=0:=by cases h;rfl
theorem aU{f:FD}{n:Nat}(d:∀a b r c,g a b=My (.ok r,c)->r.length=n):∀a b r c,ae f g a b=My (.ok r,c)->r.length=n+1:=by
 intro a b r c h;unfold ae M.bind at h;split at h
 .cases h
 .cases h
 .dsimp only at h
  split at h
  .cases h
  .cases h
  .rename_i as _ i
   cases h;rw[M5,d _ _ _ _ i]
noncomputable def o1(g:Int->Int->a0k):D->D->a0k
 | .int i,.int j=>g i j
 |_,_=>ME
theorem gR{a b d:D}(h:o1 g a b=My d):∃i j,a= .int i/\b= .int j/\g i j=My d:=by
 cases a<;>first|cases h|(cases b<;>first|cases h|exact⟨_,_,rfl,rfl,h⟩)
theorem BP{g:a0K}:bn K (qk λi j=> .int (g i j)) (o1 λi j=>My (.int (g i j))):=λF H a Q b f d l m fr c h e k=>by
 obtain⟨i,j,rfl,rfl,e⟩:=gR e;cases e;exact⟨i,j,c,h,k _ H (To.refl fr) rfl⟩
theorem i6{g:Int->Int->Bool}:bn K (qk λi j=> .bl (g i j)) (o1 λi j=>My (.bl (g i j))):=λF H a Q b f d l m fr c h e k=>by
 obtain⟨i,j,rfl,rfl,e⟩:=gR e;cases e;exact⟨i,j,c,h,k _ H (To.refl fr) rfl⟩
theorem BO{C:a0V}{c:Int->Int->Bool}{g:a0K}(l:∀i j,c i j=MH->C i j):bn K (rI C λi j=> .int (g i j)) (o1 λi j=>if c i j=MH then My (.int (g i j))else ME):=λF H a Q b f d q r fr m o e k=>by
 obtain⟨i,j,rfl,rfl,h⟩:=gR e;split at h
 .cases h
  exact⟨i,j,m,o,l _ _ (by assumption),k _ H (To.refl fr) rfl⟩
 .cases h
noncomputable def ic(i:Int):Bool:=decide (i.natAbs<2^1000)
def oQ:D->D->a0k:=o1 λi j=>My (.int (i-j))
def GL:D->D->a0k:=o1 λi j=>if(decide (0<j)&&decide (j.natAbs.log2<9000))=MH then My (.int (i/j))else ME
def SF:D->D->a0k:=o1 λi j=>My (.bl (decide (i<j)))
def F3:D->D->a0k:=o1 λi j=>My (.bl (decide (i<=j)))
def gtD:D->D->a0k:=o1 λi j=>My (.bl (decide (j<i)))
def geD:D->D->a0k:=o1 λi j=>My (.bl (decide (j<=i)))
theorem cg:bn K (qk λi j=> .int (i-j)) oQ:=BP
theorem k8:bn K (qk λi j=> .bl (decide (i<j))) SF:=i6
theorem j8:bn K (qk λi j=> .bl (decide (i<=j))) F3:=i6
theorem vq:bn K (qk λi j=> .bl (decide (j<i))) gtD:=i6
theorem YM:bn K (qk λi j=> .bl (decide (j<=i))) geD:=i6
noncomputable def ye:R2:=λx y H Q=>∃l b a c,x= .ref l/\y= .ref b/\Rd H l (.lst a)/\Rd H b (.lst c)/\a.length+c.length<=M1/\∀p,H p=ME->Q (.ref p) (upd H p (.lst (a++c)))
theorem wZ:f0 X (PM .Add) ye:=by
 intro d s t H x y v u Q I i j h;obtain⟨l,b,f,w,rfl,rfl,m,hB,A,q⟩:=h;cases i;cases j;obtain⟨z,a,n,r,e⟩:=m.ok I.hok;obtain⟨B,c,C,g,o⟩:=hB.ok I.hok;have J:=r.length;have L:=g.length;refine V3 e o ?_ (by simp only[Nf];lia);rw[show a.toArray++c.toArray=(a++c).toArray by simp];exact⟨.ref _,_,I.lnew (t':=s.toks) (r.append g) (by rw[Nb];lia),rfl,q _ I.fresh⟩
def yf(K:M9):R2:=λx y H Q=>∃a b e,x= .ref a/\y= .ref b/\hY K H a []/\hY K H b e/\Q (.ref b) H
theorem HE:f0 X (PM .Add) (yf X.K):=by
 intro l s O H x y v u Q I t w h;obtain⟨a,b,F,rfl,rfl,f,A,q⟩:=h;cases t;cases w;obtain⟨k,p,B,_⟩:=I.tuple f;obtain⟨m,P,C,_⟩:=I.tuple A;cases p;obtain⟨⟨G,D,J,i⟩,o,r,n,e⟩:=B;obtain⟨⟨M,E,L,j⟩,c,d,N,g⟩:=C;simp only at r e d g;subst r e d g;exact PySem.concat_meets ⟨_,o,rfl⟩ ⟨_,c,rfl⟩ UN V9 R8 RY (RK _ _) (tuple_addW0 a b _ _ n N D E i j (by simp)) ⟨o,c,⟨.ref b,H,I,rfl,q⟩⟩
noncomputable def j9:D->D->a0k
 | .int i,.int j=>My (.int (i+j))
 | .tup [],.tup b=>My (.tup b)
 | .lst a,.lst b=>if a.length+b.length<=M1 then My (.lst (a++b))else ME
 | .tup (c::a),.tup b=>if(c::a).length+b.length<=M1 then My (.tup (c::a++b))else ME
 |_,_=>ME
theorem bV:bn K (λx y H Q=>(qk λi j=> .int (i+j)) x y H Q\/ye x y H Q\/yd K x y H Q\/yf K x y H Q) j9:=λF H E Q G M d v w fr h l e k=>by
 unfold j9 at e;split at e
 .cases e
  exact .inl ⟨_,_,h,l,k _ H (To.refl fr) rfl⟩
 .cases e
  obtain⟨a,f,rfl,n,c⟩:=c4.sqT h;obtain⟨b,D,rfl,m,g⟩:=c4.sqT l;have q:f=[]:=c;subst q;exact .inr (.inr (.inr ⟨a,b,D,rfl,rfl,n,m,k _ H (To.refl fr) l⟩))
 .split at e
  .cases e
   obtain⟨a,f,rfl,n,c⟩:=c4.rdL h;obtain⟨b,D,rfl,m,g⟩:=c4.rdL l;exact .inr (.inl ⟨a,b,f,D,rfl,rfl,n,m,by rw[<-c.length,<-g.length];assumption,λp o=>k _ _ (fr.upd _ o) (c4.newL fr o (c.append g))⟩)
  .cases e
 .split at e
  .cases e
   obtain⟨a,f,rfl,n,c⟩:=c4.sqT h;obtain⟨b,D,rfl,m,g⟩:=c4.sqT l;have r:=c.length;have t:=g.length;refine .inr (.inr (.inl ⟨a,b,f,D,rfl,rfl,n,m,(λz=>by subst z;cases r),by rw[<-r,<-t];assumption,λz=>?_,λ_ p o=>k _ _ (fr.upd _ o) (c4.newT fr o (c.append g))⟩));subst z;have u:=QO.mp t;subst u;rw[NJ]at k;exact k _ H (To.refl fr) h
  .cases e
 .cases e
theorem aO:f0 X (PM .Add) (λx y H Q=>(qk λi j=> .int (i+j)) x y H Q\/ye x y H Q\/yd X.K x y H Q\/yf X.K x y H Q):=qq.or (wZ.or (HD.or HE))
def EW:D->D->a0k:=o1 λi j=>if(ic i&&ic j)=MH then My (.int (i*j))else ME
theorem yB:bn K (rI ur λi j=> .int (i*j)) EW:=BO λi j h=>by
 simp only[No,ic,Nv]at h;exact h
noncomputable def Xo:D->D->a0S
 | .non,.non=>My MH
 | .int i,.int j=>My (decide (i=j))
 | .bl i,.bl j=>My (decide (i=j))
 | .str i,.str j=>My (decide (i=j))
 | .int _,.str _=>My ML
 | .str _,.int _=>My ML
 | .bl _,.str _=>My ML
 | .str _,.bl _=>My ML
 | .non,.int _=>My ML
 | .int _,.non=>My ML
 | .non,.str _=>My ML
 | .str _,.non=>My ML
 |_,_=>ME
theorem CT{F:Fx}{H:Hp}{a b:D}{c:Bool}(h:Xo a b=My c)(d:c4 K F H a v)(g:c4 K F H b w):Ew v w=MH/\decide (v=w)=c:=by
 cases a<;>first|cases h|(cases b<;>first|(cases h;cases d;cases g;exact⟨rfl,rfl⟩)|(cases h;cases d;cases g;exact⟨rfl,by simp⟩)|cases h)
noncomputable def isN:D->Bool
 | .non=>MH
 |_=>ML
theorem Kn{F:Fx}{H:Hp}(h:c4 K F H d v):decide (v= .non)=isN d:=by
 cases d with
 |non=>cases h.non;rfl
 |bl b=>cases h.bl;rfl
 |int b=>cases h.int;rfl
 |str b=>cases h.str;rfl
 |ty b=>cases h.ty;rfl
 |txt=>unfold c4 at h;obtain⟨z,rfl⟩:=h;rfl
 |lst ds=>obtain⟨a,e,rfl,_⟩:=c4.sqL h;rfl
 |tup ds=>obtain⟨a,e,rfl,_⟩:=c4.sqT h;rfl
 |scr ds=>obtain⟨a,rfl,_⟩:=c4.scr h;rfl
 |obj C ns ds=>
  unfold c4 at h;obtain⟨a,_,_,rfl,_⟩:=h;rfl
 |bag=>
  unfold c4 at h;obtain⟨a,_,_,rfl⟩:=h;rfl
 |adr a=>
  unfold c4 at h;obtain rfl:=h;rfl
 |dct b ks vs=>
  unfold c4 at h;obtain⟨a,_,e,rfl,_⟩:=h;rfl
noncomputable def Ko:D->D->a0k
 |a,.non=>My (.bl (isN a))
 |_,_=>ME
theorem LK:bn K (λx y H Q=>y= .non/\Q (.bl (decide (x= .non))) H) Ko:=λF H a Q b f d h i fr c g e k=>by
 unfold Ko at e;split at e
 .cases e
  exact⟨g,by rw[Kn c];exact k _ H (To.refl fr) rfl⟩
 .cases e
noncomputable def eZ:D->Bool
 | .int _=>MH| .bl _=>MH| .str _=>MH| .non=>MH|_=>ML
noncomputable def eqF:D->D->Bool
 | .non,.non=>MH
 | .bl a,.bl b=>a==b
 | .bl a,.int b=>(if a then 1 else 0)==b
 | .int a,.bl b=>a==(if b then 1 else 0)
 | .int a,.int b=>a==b
 | .str a,.str b=>a==b
 |_,_=>ML
noncomputable def ge:D->a0z
 | .lst a=>My a
 | .tup a=>My a
 |_=>ME
def W_(x:D)(a:a0d):Bool:=a.any λy=>eqF y x
def W9(a:Bool)(x y:D):a0k:=(ge y).bind λb=>if(eZ x&&b.all eZ)=MH then My (.bl (if a then !W_ x b else W_ x b))else ME
theorem rH{F:Fx}{H:Hp}(f:eZ d=MH)(h:c4 K F H d v):h9 v=MH:=by
 cases d<;>first|(cases h.int;rfl)|(cases h.bl;rfl)|(cases h.str;rfl)|(cases h.non;rfl)|cases f
theorem KC{F:Fx}{H:Hp}{a b:D}(g:eZ a=MH)(h:eZ b=MH)(c:c4 K F H a v)(d:c4 K F H b w):L_ v w=eqF a b:=by
 cases a<;>first
  |(exfalso;exact MT g)
  |(cases b<;>first
   |(exfalso;exact MT h)
   |(cases c.int;cases d.int;rfl)|(cases c.int;cases d.bl;rfl)|(cases c.int;cases d.str;rfl)|(cases c.int;cases d.non;rfl)
   |(cases c.bl;cases d.int;rfl)|(cases c.bl;cases d.bl;rfl)|(cases c.bl;cases d.str;rfl)|(cases c.bl;cases d.non;rfl)
   |(cases c.str;cases d.int;rfl)|(cases c.str;cases d.bl;rfl)|(cases c.str;cases d.str;rfl)|(cases c.str;cases d.non;rfl)
   |(cases c.non;cases d.int;rfl)|(cases c.non;cases d.bl;rfl)|(cases c.non;cases d.str;rfl)|(cases c.non;cases d.non;rfl))
theorem vF{F:Fx}{H:Hp}{x:D}(c:eZ x=MH)(g:c4 K F H x v):∀{b:a0d} {a:a0i},b.all eZ=MH->bb K F H b a->a.all h9=MH/\XO v a=W_ x b
 |[],a,_,h=>by have q:a=[]:=h;subst q;exact⟨rfl,rfl⟩
 |d::b,a,f,h=>by
  obtain⟨y,r,q,i,l⟩:=h;subst q;rw[S8,No]at f;obtain⟨m,j⟩:=vF c g f.2 l;refine⟨by rw[S8,rH f.1 i,m];rfl,?_⟩;unfold XO W_ at j⊢;rw[R3,R3,j,KC f.1 c i g]
theorem J7{neg:Bool}:bn K (Yv K neg) (W9 neg):=λF H p Q x n d m o fr g l e k=>by
 unfold W9 at e;cases q:ge n with
 |none=>rw[q]at e;cases e
 |some D=>
  rw[q]at e;simp only[PD]at e;split at e
  .rename_i c
   rw[No]at c;cases e;cases n<;>first|(cases q;obtain⟨a,b,rfl,f,h⟩:=c4.sqL l;obtain⟨i,j⟩:=vF c.1 g c.2 h;exact⟨a,b,rfl,.inl f,rH c.1 g,i,by rw[j];exact k _ H (To.refl fr) rfl⟩)|(cases q;obtain⟨a,b,rfl,f,h⟩:=c4.sqT l;obtain⟨i,j⟩:=vF c.1 g c.2 h;exact⟨a,b,rfl,.inr f,rH c.1 g,i,by rw[j];exact k _ H (To.refl fr) rfl⟩)|cases q
  .cases e
def j0:D->D->a0k
 | .lst xs,.int i=>o_ xs i
 | .tup xs,.int i=>o_ xs i
 |_,_=>ME
theorem DJ{F:Fx}{H:Hp}(h:bb K F H c g)(e:o_ c i=My d):∃v,o_ g i=My v/\c4 K F H d v:=by
 unfold o_ at e⊢;rw[<-h.length];cases q:li c.length i with
 |none=>rw[q]at e;cases e
 |some j=>
  rw[q]at e;exact h.get e
theorem aV:bn K (λx y H Q=>yc K x y H Q\/Ez K x y H Q) j0:=λF H f Q n p d j l fr h i e k=>by
 unfold j0 at e;split at e
 .obtain⟨a,xs,rfl,r1,c⟩:=c4.sqL h
  obtain⟨v,g,b⟩:=DJ c e;exact .inl ⟨a,xs,_,v,rfl,i,r1,g,k _ H (To.refl fr) b⟩
 .obtain⟨a,xs,rfl,r1,c⟩:=c4.sqT h
  obtain⟨v,g,b⟩:=DJ c e;exact .inr ⟨a,xs,_,v,rfl,i,r1,g,k _ H (To.refl fr) b⟩
 .cases e
theorem aA:Ic X (λx y H Q=>yc X.K x y H Q\/Ez X.K x y H Q):=cb.or Km
noncomputable def eJ:a0d->a0k
 |[.lst xs]=>My (.int xs.length)
 |[.tup xs]=>My (.int xs.length)
 |_=>ME
theorem bb.one{F:Fx}{H:Hp}(h:bb K F H [d] i):∃v,i=[v]/\c4 K F H d v:=by
 obtain⟨x,r,e,c,g⟩:=h;have q:r=[]:=g;subst q;exact⟨x,e,c⟩
theorem bb.two{F:Fx}{H:Hp}(h:bb K F H [d,c] l):∃v w,l=[v,w]/\c4 K F H d v/\c4 K F H c w:=by
 obtain⟨x,r,e,g,i⟩:=h;obtain⟨y,rfl,j⟩:=bb.one i;exact⟨x,y,e,g,j⟩
theorem LH:fS K (λb H Q=>∃p f,b=[.ref p]/\(et K H p f\/hY K H p f)/\Q (.int f.length) H) eJ:=λF H n Q x d D fr h e k=>by
 unfold eJ at e;split at e
 .cases e
  obtain⟨v,rfl,g⟩:=bb.one h;obtain⟨a,b,rfl,r,c⟩:=c4.sqL g;exact⟨a,b,rfl,.inl r,by rw[<-c.length];exact k _ H (To.refl fr) rfl⟩
 .cases e
  obtain⟨v,rfl,g⟩:=bb.one h;obtain⟨a,b,rfl,r,c⟩:=c4.sqT g;exact⟨a,b,rfl,.inr r,by rw[<-c.length];exact k _ H (To.refl fr) rfl⟩
 .cases e
noncomputable def vh:a0d->a0k
 |[.int i,.int j]=>My (.int (if j<i then j else i))
 |_=>ME
noncomputable def yt:a0d->a0k
 |[.int i,.int j]=>My (.int (if j>i then j else i))
 |_=>ME
theorem yC:fS K (λa H Q=>∃i j,a=[.int i,.int j]/\Q (.int (if j<i then j else i)) H) vh:=λF H f Q n d p fr h e k=>by
 unfold vh at e;split at e
 .cases e
  obtain⟨v,w,rfl,g,b⟩:=bb.two h;cases g.int;cases b.int;exact⟨_,_,rfl,k _ H (To.refl fr) rfl⟩
 .cases e
theorem GA:fS K (λa H Q=>∃i j,a=[.int i,.int j]/\Q (.int (if j>i then j else i)) H) yt:=λF H f Q n d p fr h e k=>by
 unfold yt at e;split at e
 .cases e
  obtain⟨v,w,rfl,g,b⟩:=bb.two h;cases g.int;cases b.int;exact⟨_,_,rfl,k _ H (To.refl fr) rfl⟩
 .cases e
noncomputable def dn:a0d->Option a0c
 |[]=>My []
 | .int i::r=>(dn r).map (i::·)
 |_=>ME
theorem hV:∀{a:a0d} {b:a0c},dn a=My b->a=b.map D.int
 |[],b,h=>by cases h;rfl
 |d::a,b,h=>by
  cases d with
  |int i=>
   unfold dn at h;cases q:dn a with
   |none=>rw[q]at h;cases h
   |some c=>rw[q]at h;cases h;rw[hV q];rfl
  |_=>cases h
theorem qE:∀a:a0c,dn (a.map D.int)=My a
 |[]=>rfl
 |n::a=>by
  show(dn (a.map D.int)).map (n::·)=_;rw[qE a];rfl
def Er:a0d->a0k
 |[.lst xs]=>(dn xs).map λa=> .int a.sum
 |_=>ME
theorem LE:fS K (λf H Q=>∃(a:MK) (b:a0c),f=[.ref a]/\et K H a (b.map V.int)/\Q (.int b.sum) H) Er:=λF H n Q p d x fr h e k=>by
 unfold Er at e;split at e
 .rename_i f
  cases q:dn f with
  |none=>rw[q]at e;cases e
  |some b=>
   rw[q]at e;cases e;obtain⟨v,rfl,g⟩:=bb.one h;obtain⟨a,D,rfl,r,c⟩:=c4.sqL g;rw[hV q]at c;have i:=bb.ints b c;subst i;exact⟨a,b,rfl,r,k _ H (To.refl fr) rfl⟩
 .cases e
noncomputable def tZ:a0d->a0k
 |[.lst xs]=>My (.lst xs)
 |[.tup xs]=>My (.lst xs)
 |_=>ME
theorem kC:fS K (λb H Q=>∃p f,b=[.ref p]/\(et K H p f\/hY K H p f)/\∀l,H l=ME->Q (.ref l) (upd H l (.lst f))) tZ:=λF H n Q x d D fr h e k=>by
 unfold tZ at e;split at e
 .cases e
  obtain⟨v,rfl,g⟩:=bb.one h;obtain⟨a,b,rfl,r,i⟩:=c4.sqL g;exact⟨a,b,rfl,.inl r,λl c=>k _ _ (fr.upd _ c) (c4.newL fr c i)⟩
 .cases e
  obtain⟨v,rfl,g⟩:=bb.one h;obtain⟨a,b,rfl,r,i⟩:=c4.sqT g;exact⟨a,b,rfl,.inr r,λl c=>k _ _ (fr.upd _ c) (c4.newL fr c i)⟩
 .cases e
noncomputable def ux:a0d->a0k
 |[.lst xs]=>My (.tup xs)
 |[.tup xs]=>My (.tup xs)
 |_=>ME
theorem fN:fS K (λb H Q=>∃p f,b=[.ref p]/\((et K H p f/\∀l,H l=ME->Q (.ref l) (upd H l (.tup f)))\/(hY K H p f/\Q (.ref p) H))) ux:=λF H n Q x d D fr h e k=>by
 unfold ux at e;split at e
 .cases e
  obtain⟨v,rfl,g⟩:=bb.one h;obtain⟨a,b,rfl,r,c⟩:=c4.sqL g;exact⟨a,b,rfl,.inl ⟨r,λl i=>k _ _ (fr.upd _ i) (c4.newT fr i c)⟩⟩
 .cases e
  obtain⟨v,rfl,g⟩:=bb.one h;obtain⟨a,b,rfl,r,c⟩:=c4.sqT g;exact⟨a,b,rfl,.inr ⟨r,k _ H (To.refl fr) g⟩⟩
 .cases e
noncomputable def asB:D->a0S
 | .bl b=>My b
 |_=>ME
theorem jD{b:Bool}(h:asB d=My b):d= .bl b:=by cases d<;>first|(cases h;rfl)|cases h
noncomputable def Ej:D->a0S
 | .non=>My ML
 | .bl b=>My b
 | .int i=>My (i !=0)
 | .lst xs=>My (!xs.isEmpty)
 | .tup xs=>My (!xs.isEmpty)
 |_=>ME
def fB(f:FD):Dn->M Bool:=λa=>M.bind (f a) λd=>M.ofO (asB d)
def yV(f:FD):Dn->M Bool:=λa=>M.bind (f a) λd=>M.ofO (Ej d)
def rJ(f g:a0q):Dn->M Bool:=λa=>M.bind (f a) λc=>if c=MH then M.ret MH else g a
def yW(f:a0q):Dn->M Bool:=λa=>M.bind (f a) λc=>M.ret (!c)
def vO(f g:FD):FD:=λa=>M.bind (f a) λd=>M.bind (M.ofO (asB d)) λc=>if c=MH then g a else M.ret (.bl ML)
def Xc(t:a0q)(f g:FD):FD:=λa=>M.bind (t a) λc=>if c=MH then f a else g a
def kG(o d:a0H)(f g h:FD):FD:=λe=>M.bind (f e) λa=>M.bind (g e) λb=>M.bind (M.ofO (o a b)) λz=>M.bind (M.ofO (asB z)) λc=>if c=MH then M.bind (h e) (λw=>M.ofO (d b w))else M.ret (.bl ML)
variable{c:Expr}{rest:List Expr}
theorem M.ofO_bind{b d:Type}{o:Option b}{k:b->M d}{c:Bg}{z:Except MK d×Bg}(h:M.bind (M.ofO o) k c=My z):∃a,o=My a/\k a c=My z:=by
 cases o with
 |none=>cases h
 |some a=>exact⟨a,rfl,h⟩
theorem run.ofO_bind{b g i:Type}{R:Hp->g->i->Prop}{F:Fx}{j:St}{o:Option b}{k:b->M g}{H:Hp}{Q:i->Hp->Prop}{c:Bg}(h:run R F E j (M.bind (M.ofO o) k) H Q c):∃a,o=My a/\run R F E j (k a) H Q c:=by
 obtain⟨r,d,e,h⟩:=h;obtain⟨a,q,e⟩:=M.ofO_bind e;exact⟨a,q,r,d,e,h⟩
theorem run.bOk{F:Fx}{H:Hp}(fr:Fr F H g)(c:c4 K F H d v)(h:run (λ_ (a b:Bool)=>b=a) F E i (M.ofO (asB d)) H Q g):∃k,v= .bl k/\Q k H:=by
 obtain⟨b,e,k⟩:=run.ofO h;rw[jD e]at c;exact⟨b,c,k b H (To.refl fr) rfl⟩
theorem oN{f:FD}{H:Hp}(h:hW K (fB f) E l H Q):tV K f E l H λx g=>∃k,x= .bl k/\Q k g:=by
 obtain⟨F,a,b,fr,i,h⟩:=h;exact⟨F,a,b,fr,i,(run.bind (R:=c4 K F) h).mono λv p j=>oa j λd c t e n=>run.bOk t.fr e n⟩
theorem aY{f g:FD}(d:f0 X (Od op) r)(l:bn X.K r o)(c:PE X a (tV X.K f E))(i:PE X b (tV X.K g E))(e:Rw op b=ML:=by first|exact u9 _|rfl):PT X (.Compare a [op] [b] U) (hW X.K (fB (f2 o f g)) E):=
 (wP d c i e).imp λj H Q h=>pL l (oN h)
theorem zG{f g h:FD}(l:bn K r o)(Y:bn K r' s){H:Hp}(B:tV K (kG o s f g h) E σ H Q):zH r r' (tV K f E) (tV K g E) (tV K h E) σ H Q:=by
 obtain⟨F,b,D,fr,I,B⟩:=B;refine⟨F,b,D,fr,I,(run.bind (R:=c4 K F) B).mono λv H1 j=>oa j λd n t G S=>⟨F,b,n,t.fr,I.tr (t.tr fr),(run.bind (R:=c4 K F) S).mono λP Z j=>oa j λp a m u V=>?_⟩⟩;obtain⟨z,T,X⟩:=run.ofO_bind V;obtain⟨c,ec,A⟩:=run.ofO_bind X;rw[jD ec]at T;refine l F Z a _ d p _ v P m.fr (c4.tr (m.tr t.fr) _ _ G) u T λvz U i hz=>⟨c,hz,?_⟩;cases c with
 |true=>
  rw[MU rfl]at A;refine⟨F,b,a,i.fr,I.tr ((t.tr fr).trans ((m.tr t.fr).trans (i.tr m.fr))),?_⟩;have r5:run (c4 K F) F E σ (M.bind (h b) λw=>M.ofO (s p w)) U Q a:=by
   obtain⟨J,y,e,q⟩:=A;refine⟨J,y,e,?_⟩;cases J with
   |ok d=>exact λv L x=>q v L (i.trans x)
   |error C=>exact λL x=>q L (i.trans x)
  refine(run.bind (R:=c4 K F) r5).mono λw H4 j=>oa j λdw N W O r6=>?_;obtain⟨d3,e3,k⟩:=run.ofO r6;exact Y F H4 N Q p dw d3 P w W.fr (c4.tr ((i.tr m.fr).trans (W.tr i.fr)) _ _ u) O e3 k
 |false=>
  rw[MS MT]at A;obtain⟨J,y,e,q⟩:=A;cases e;exact q _ U i rfl
theorem qY{f g h:FD}(i:f0 X (Od op) r)(d:f0 X (Od s) v)(l:bn X.K r o)(j:bn X.K v w)(e:PE X a (tV X.K f E))(m:PE X b (tV X.K g E))(t:PE X c (tV X.K h E))(k:WB [op,s] [b,c]=ML:=by with_unfolding_all rfl):
  PT X (.Compare a [op,s] [b,c] U) (hW X.K (fB (kG o w f g h)) E):=(EB i d e m t k).imp λu H Q q=>zG l j (oN q)
theorem G4{F:Fx}{H:Hp}{k:Bool}(h:Ej d=My k)(c:c4 K F H d v):FP K v H k:=by
 cases d with
 |non=>cases h;cases c.non;rfl
 |bl b=>cases h;cases c.bl;rfl
 |int i=>cases h;cases c.int;rfl
 |lst xs=>
  cases h;obtain⟨a,e,rfl,r,g⟩:=c4.sqL c;refine .inl ⟨e,r,?_⟩;have:=g.length;cases xs<;>cases e<;>first|rfl|(simp at this)
 |tup xs=>
  cases h;obtain⟨a,e,rfl,r,g⟩:=c4.sqT c;refine .inr ⟨e,r,?_⟩;have:=g.length;cases xs<;>cases e<;>first|rfl|(simp at this)
 |_=>cases h
theorem jG{f:FD}(b:PE X a (tV X.K f E))(j:∀g,isTrue a X.env g=(do let v <-g;Qi a.pos;QI [v] (truthy v)):=by intro _;rfl):PT X a (hW X.K (yV f) E):=
 (EA b j).imp λm H Q i=>ko i λF c n fr l h=>⟨F,c,n,fr,l,(run.bind (R:=c4 X.K F) h).mono λv p i=>by
  obtain⟨d,x,t,D,G⟩:=i;obtain⟨k,e,q⟩:=run.ofO G;exact⟨k,G4 e D,q k p (To.refl t.fr) rfl⟩⟩
theorem kP{f:a0q}(c:PT X a (hW X.K f E)):PT X (.UnaryOp .Not a U) (hW X.K (yW f) E):=
 (Jq c).imp λj H Q g=>ko g λF e k fr i h=>⟨F,e,k,fr,i,(run.bind (R:=λ_ (a b:Bool)=>b=a) h).mono λv D g=>by
  obtain⟨d,n,t,p,x⟩:=g;subst p;exact run.ret t.fr x rfl⟩
theorem IJ{f g:a0q}{H:Hp}(h:hW K (rJ f g) E l H Q):ZX (hW K f E) (hW K g E) l H Q:=by
 obtain⟨F,k,n,fr,i,h⟩:=h;refine⟨F,k,n,fr,i,(run.bind (R:=λ_ (a b:Bool)=>b=a) h).mono λv x j=>oa j λd e t p c=>?_⟩;subst p;cases v with
 |false=>rw[MS MT]at c⊢;exact⟨F,k,e,t.fr,i.tr (t.tr fr),c⟩
 |true=>rw[MU rfl]at c⊢;exact run.ret t.fr c rfl
theorem iP{f:a0q}(b:PT X a (hW X.K f E)):PW X (.BoolOp .Or [a] U) (hW X.K f E):=Jo b
theorem j4{f g:a0q}(c:PT X a (hW X.K f E))(d:PW X (.BoolOp .Or (b::rest) U) (hW X.K g E)):PW X (.BoolOp .Or (a::b::rest) U) (hW X.K (rJ f g) E):=(Lp c d).imp λ_ _ _=>IJ
theorem gv{e:Expr}{f:a0q}(h:PW X e (hW X.K f E)):PT X e (hW X.K f E):=PW.pt h
theorem F6{op}{f:FD}(h:PE X a (tV X.K f E)):PE X (.BoolOp op [a] U) (tV X.K f E):=JD h
theorem run.asB{F:Fx}{k:Bool->M D}{H:Hp}(a:c4 K F H d v)(h:run (c4 K F) F E g (M.bind (M.ofO (asB d)) k) H Q i):∃c,v= .bl c/\run (c4 K F) F E g (k c) H Q i:=by
 obtain⟨c,e,h⟩:=run.ofO_bind h;rw[jD e]at a;exact⟨c,a,h⟩
theorem F7{f g:FD}(p:PE X a (tV X.K f E))(m:PE X (.BoolOp .And (b::rest) U) (tV X.K g E)):PE X (.BoolOp .And (a::b::rest) U) (tV X.K (vO f g) E):=
 (JG p m).imp λo H Q j=>ko j λF n x fr l h=>⟨F,n,x,fr,l,(run.bind (R:=c4 X.K F) h).mono λv M j=>by
  obtain⟨d,k,t,D,G⟩:=j;obtain⟨c,e,i⟩:=run.asB D G;refine⟨c,e,?_⟩;cases c with
  |true=>rw[MU rfl]at i⊢;exact⟨F,n,k,t.fr,l.tr (t.tr fr),i⟩
  |false=>rw[MS MT]at i⊢;exact run.ret t.fr i rfl⟩
theorem X8{f g:FD}(l:PT X c (hW X.K t E))(p:PE X a (tV X.K f E))(m:PE X b (tV X.K g E)):PE X (.IfExp c a b U) (tV X.K (Xc t f g) E):=
 (EM l p m).imp λo H Q i=>ko i λF n x fr j h=>⟨F,n,x,fr,j,(run.bind (R:=λ_ (a b:Bool)=>b=a) h).mono λv G i=>by
  obtain⟨d,e,t,D,k⟩:=i;subst D;cases v with
  |true=>rw[MU rfl]at k⊢;exact⟨F,n,e,t.fr,j.tr (t.tr fr),k⟩
  |false=>rw[MS MT]at k⊢;exact⟨F,n,e,t.fr,j.tr (t.tr fr),k⟩⟩
noncomputable def X9:D->Option String
 | .non=>My "NoneType"| .bl _=>My "bool"| .int _=>My "int"| .str _=>My "str"| .lst _=>My "list"| .tup _=>My "tuple"|_=>ME
def XA:List String:=["int","bool","str","NoneType","list","tuple"]
noncomputable def yD(a b:String):a0S:=if XA.contains a&&XA.contains b&&b !="NoneType"&&(b !="int"||a==b)then My (a==b)else ME
theorem B9{a:String}(h:XA.contains a=MH):a="int"\/a="bool"\/a="str"\/a="NoneType"\/a="list"\/a="tuple":=by
 simpa[XA]using h
theorem HV{a b:String}{c:Bool}(h:yD a b=My c):kitOne K (.type a) (.type b)=My c:=by
 unfold yD at h;split at h
 case isFalse=>cases h
 rename_i q;simp only[No]at q;cases h;rcases B9 q.1.1.1 with rfl|rfl|rfl|rfl|rfl|rfl<;>rcases B9 q.1.1.2 with rfl|rfl|rfl|rfl|rfl|rfl<;>first|exact Nh q.1.2 (by decide)|exact Nh q.2 (by decide)|kernel_rfl
def TyG(K:M9)(H:Hp)(x:V)(t:MO):Prop:=nj K H x t\/(∃a b,x= .ref a/\et K H a b/\t= .type "list")\/(∃a b,x= .ref a/\hY K H a b/\t= .type "tuple")
def Gm(K:M9):a0i->Hp->VK->Prop:=λa H Q=>∃x c t b,a=[x,.ty c]/\TyG K H x t/\kitOne K t (.type c)=My b/\Q (.bl b) H
theorem DE:dP X (.builtin "isinstance") (Gm X.K):=by
 intro j s u H F G Q I r h;obtain⟨x,c,t,b,rfl,f,e,q⟩:=h;cases r with
 |cons k d=>
  cases d with
  |cons d m=>
   cases m;cases d;rcases f with f|⟨a,E,rfl,n,rfl⟩|⟨a,E,rfl,n,rfl⟩
   .exact BZ I k f e λl=>⟨.bl b,H,I.tok _,rfl,q⟩
   .cases k
    obtain⟨p,_,D,_⟩:=I.list n;obtain⟨o,g,i,_⟩:=D.isList;exact Su kitx_list I.kIn ⟨o,g,i⟩ e (λz=>nomatch z) λl=>⟨.bl b,H,I.tok _,rfl,q⟩
   .cases k
    obtain⟨p,_,D,_⟩:=I.tuple n;obtain⟨o,g,i,_⟩:=D;exact Su Vm I.kIn ⟨o,g,i⟩ e (λz=>nomatch z) λl=>⟨.bl b,H,I.tok _,rfl,q⟩
theorem IE{F:Fx}{H:Hp}(h:X9 d=My t)(c:c4 K F H d v):TyG K H v (.type t):=by
 cases d with
 |non=>cases h;cases c.non;exact .inl .non
 |bl b=>cases h;cases c.bl;exact .inl (.bl b)
 |int b=>cases h;cases c.int;exact .inl (.int b)
 |str b=>cases h;cases c.str;exact .inl (.str b)
 |lst ds=>cases h;obtain⟨a,e,rfl,f,_⟩:=c4.sqL c;exact .inr (.inl ⟨a,e,rfl,f,rfl⟩)
 |tup ds=>cases h;obtain⟨a,e,rfl,f,_⟩:=c4.sqT c;exact .inr (.inr ⟨a,e,rfl,f,rfl⟩)
 |_=>cases h
def Fg:a0d->a0k
 |[x,.ty c]=>(X9 x).bind λt=>(yD t c).map D.bl
 |_=>ME
theorem LJ:fS K (Gm K) Fg:=λF H f Q n d p fr h e k=>by
 unfold Fg at e;split at e
 .rename_i x c
  cases q:X9 x with
  |none=>rw[q]at e;cases e
  |some t=>
   rw[q]at e;simp only[PD]at e;cases a:yD t c with
   |none=>rw[a]at e;cases e
   |some b=>
    rw[a]at e;cases e;obtain⟨v,w,rfl,g,i⟩:=bb.two h;cases i.ty;exact⟨v,c,_,b,rfl,IE q g,HV a,k _ H (To.refl fr) rfl⟩
 .cases e
def vu(K:M9)(J:It)(F:Fx)(H:Hp)(b:a0d):Prop:=∀(h:Fx) (g:Hp) (a:Bg),Tr F H h g->Fr h g a->∀i,(∀d,b[i]?=My d->J.go i g/\∀x j,J.yld i g x j->bS g j/\c4 K h j d x)/\(i=b.length->J.stop i g)
theorem vu.tr{K:M9}{F d:Fx}{H g:Hp}(t:Tr F H d g)(h:vu K J F H ds):vu K J d g ds:=λi j a l fr=>h i j a (t.trans l) fr
def iV(K:M9)(f:FL)(E:a0r):TI:=λd H R=>∃F a b,Fr F H b/\ix K F H a d/\run (λg (c:a0d) (J:It)=>vu K J F g c) F E d (f a) H R b
theorem _root_.L2.PI.imp{X:Cx}{a e:Expr}(h:PI X a e t)(f:∀d H Q,i d H Q->t d H Q):PI X a e i:=λg s d H Q I q=>h g s d H Q I (f d H Q q)
variable{tg:Expr}
def Za(K:M9)(d:TE):TI:=λg H R=>d g H λx b=>(∃a,x= .ref a/\(∃c,et K b a c)/\R (Xv K a) b)\/(∃a,x= .ref a/\(∃c,hY K b a c)/\R (ZP K a) b)
theorem Jz(r:PE X l tl):PI X tg l (Za X.K tl):=by
 intro g s t H R I h;refine d5 (r g s t H _ I h) λv d ⟨x,f,i,k,n⟩=>?_;have j:∀b∈[d.heap.objs.size],fX X g f b:=λb u=>by
  obtain rfl:b=d.heap.objs.size:=by simpa using u
  exact i.fpOk (MW _) (i.hok.fresh (MW _))
 rcases n with⟨a,e,⟨D,m⟩,q⟩|⟨a,e,⟨D,m⟩,q⟩
 .subst e
  cases k;obtain⟨c,w,p,y⟩:=i.list m;exact Sv p.isList ⟨d.heap.objs.size,[d.heap.objs.size],_,_,f,rfl,i.kept (t':=d.toks) λb o e=>MG _ e,rZ a _,⟨_,M7 _ rfl,rfl,rfl⟩,j,q⟩
 .subst e
  cases k;obtain⟨c,w,p,y⟩:=i.tuple m;exact T6 (show d.heap.IsTuple a c.toArray from p) ⟨d.heap.objs.size,[d.heap.objs.size],_,_,f,rfl,i.kept (t':=d.toks) λb o e=>MG _ e,xK a _,⟨_,M7 _ rfl,rfl,rfl⟩,j,q⟩
theorem Fe{F:Fx}{H:Hp}{a:MK}(h:c4 K F H (.lst s) (.ref a)):vu K (Xv K a) F H s:=λu v k t fr i=>by
 have o:=c4.tr t _ _ h;obtain⟨w,b,e,c,g⟩:=c4.sqL o;cases e;refine⟨λd f=>?_,λq=>⟨b,c,by rw[<-g.length,q];exact MW _⟩⟩;obtain⟨x,r,_⟩:=g.get f;refine⟨⟨b,x,c,r⟩,λy A j=>?_⟩;obtain⟨rfl,j⟩:=j;obtain⟨n,m,l⟩:=g.getV (j b c);rw[f]at m;cases m;exact⟨bS.refl _,l⟩
theorem HX{F:Fx}{H:Hp}{a:MK}(h:c4 K F H (.tup s) (.ref a)):vu K (ZP K a) F H s:=λu v k t fr i=>by
 have o:=c4.tr t _ _ h;obtain⟨w,b,e,c,g⟩:=c4.sqT o;cases e;refine⟨λd f=>?_,λq=>⟨b,c,by rw[<-g.length,q];exact MW _⟩⟩;obtain⟨x,r,_⟩:=g.get f;refine⟨⟨b,x,c,r⟩,λy A j=>?_⟩;obtain⟨rfl,j⟩:=j;obtain⟨n,m,l⟩:=g.getV (j b c);rw[f]at m;cases m;exact⟨bS.refl _,l⟩
def ef(f:FD):FL:=λa=>M.bind (f a) λd=>M.ofO (ge d)
theorem bj{f:FD}(i:PE X l (tV X.K f E)):PI X tg l (iV X.K (ef f) E):=
 (Jz i).imp λo H R g=>ko g λF x D fr j h=>⟨F,x,D,fr,j,(run.bind (R:=c4 X.K F) h).mono λv p g=>by
  obtain⟨d,G,t,b,M⟩:=g;obtain⟨S,e,k⟩:=run.ofO M;cases d<;>first
   |(cases e;obtain⟨a,c,rfl,n,m⟩:=c4.sqL b;exact .inl ⟨a,rfl,⟨c,n⟩,k _ p (To.refl t.fr) (Fe b)⟩)
   |(cases e;obtain⟨a,c,rfl,n,m⟩:=c4.sqT b;exact .inr ⟨a,rfl,⟨c,n⟩,k _ p (To.refl t.fr) (HX b)⟩)
   |cases e⟩
noncomputable def aZ(a:Int)(n:Nat):a0d:=(MX n).map λ(i:Nat)=> .int (a+(i:Int))
theorem sM{F:Fx}{H:Hp}{b:Int}{n:Nat}:vu K (Xu b n) F H (aZ b n):=λl m c t fr i=>by
 refine⟨λd a=>?_,λg=>?_⟩
 .unfold aZ at a
  have g:i<n:=by
   have:=(MR.mp a).1;simpa using this
  rw[MM,On g]at a;cases a;exact⟨g,λx o ⟨h,j⟩=>by subst h j;exact⟨bS.refl _,rfl⟩⟩
 .show n<=i
  rw[g];simp[aZ]
def gm:a0d->a0z
 |[.int j]=>if(decide (-(2^62)<=j)&&decide (j<2^62))=MH then My (aZ 0 j.toNat)else ME
 |_=>ME
def oX:a0d->a0z
 |[.int i,.int j]=>if(decide (-(2^62)<=i)&&decide (i<2^62)&&decide (-(2^62)<=j)&&decide (j<2^62))=MH then My (aZ i (j-i).toNat)else ME
 |_=>ME
def cK(a:a0d->a0z)(g:FL):FL:=λb=>M.bind (g b) λc=>M.ofO (a c)
theorem bZ{a:Expr}{p U:Ri}(j:Gl X "range")(b:X.mg "range"=ME)(c:PA X [a] (i0 X.K g E))(f:MY [a] X.env=[(ML,NW a X.env)]:=by rfl):PI X tg (.Call (.Name "range" p) [a] [] U) (iV X.K (cK gm g) E):=
 (AL j b c f).imp λq H R d=>ko d λF n x fr m h=>⟨F,n,x,fr,m,(run.bind (R:=bb X.K F) h).mono λV D d=>by
  obtain⟨Y,G,t,M,S⟩:=d;obtain⟨l,e,k⟩:=run.ofO S;unfold gm at e;split at e
  .split at e
   .rename_i i
    cases e;simp only[No,Nv]at i;obtain⟨v,rfl,o⟩:=bb.one M;cases o.int;exact⟨_,rfl,i.1,i.2,k _ D (To.refl t.fr) sM⟩
   .cases e
  .cases e⟩
theorem vG{a b:Expr}{p U:Ri}(m:Gl X "range")(c:X.mg "range"=ME)(f:PA X [a,b] (i0 X.K g E))(n:MY [a,b] X.env=[(ML,NW a X.env),(ML,NW b X.env)]:=by rfl)(i:MY [b] X.env=[(ML,NW b X.env)]:=by rfl):PI X tg (.Call (.Name "range" p) [a,b] [] U) (iV X.K (cK oX g) E):=
 (AK m c f n i).imp λu H R j=>ko j λF x D fr o h=>⟨F,x,D,fr,o,(run.bind (R:=bb X.K F) h).mono λY G j=>by
  obtain⟨s,M,t,S,V⟩:=j;obtain⟨l,e,k⟩:=run.ofO V;unfold oX at e;split at e
  .split at e
   .rename_i d
    cases e;simp only[No,Nv]at d;obtain⟨v,w,rfl,q,r⟩:=bb.two S;cases q.int;cases r.int;exact⟨_,_,rfl,⟨d.1.1.1,d.1.1.2,d.1.2,d.2⟩,k _ G (To.refl t.fr) sM⟩
   .cases e
  .cases e⟩
abbrev lI:=D->Dn->Option Dn
abbrev jF:=a0d->Dn->Option Dn
def cV(K:M9)(g:TG)(tg:lI):Prop:=∀(F:Fx) (H:Hp) (b a:Dn) (i:St) (d:D) (v:V) (Q:a0E),ix K F H b i->c4 K F H d v->tg d b=My a->(∀h,ix K F H a h->Q h H)->g v i H Q
def qU(K:M9)(g:N_)(tg:jF):Prop:=∀(F:Fx) (H:Hp) (b a:Dn) (h:St) (c:a0d) (e:a0i) (Q:a0E),ix K F H b h->bb K F H c e->tg c b=My a->(∀d,ix K F H a d->Q d H)->g e h H Q
noncomputable def h8(i:Nat):lI:=λd a=>if(a.getD i (My .non)).isNone then My (a.set i (My d))else ME
noncomputable def lV:jF:=λa b=>match a with
 |[]=>My b
 |_=>ME
noncomputable def gN(t:lI)(u:jF):jF:=λb c=>match b with
 |[]=>ME
 |d::r=>(t d c).bind λa=>u r a
noncomputable def WW(t:jF):lI:=λd a=>match d with
 | .tup ds=>t ds a
 |_=>ME
theorem uz{b a:Dn}(h:h8 i d b=My a):b[i]?=My ME/\a=b.set i (My d):=by
 unfold h8 at h;split at h
 .rename_i q
  cases h;refine⟨?_,rfl⟩;rw[MN]at q;cases e:b[i]? with
  |none=>rw[e]at q;cases q
  |some z=>
   rw[e]at q;cases z with
   |none=>rfl
   |some w=>cases q
 .cases h
theorem aq:cV K (fQ i) (h8 i):=λF H c a h d v Q g b e k=>by
 obtain⟨_,rfl⟩:=uz e;exact k _ (g.set b)
theorem eA:qU K gNil lV:=λF H f a g b n Q d c e k=>by
 cases b with
 |nil=>cases e;exact⟨c,k _ d⟩
 |cons _ _=>cases e
theorem bi(m:cV K t s)(o:qU K u uf):qU K (yN t u) (gN s uf):=λF H b a v c n Q w f e k=>by
 cases c with
 |nil=>cases e
 |cons d r=>
  obtain⟨x,l,rfl,y,A⟩:=f;have h:(s d b).bind (λa=>uf r a)=My a:=e;cases q:s d b with
  |none=>rw[q]at h;cases h
  |some g=>
   rw[q]at h;exact⟨x,l,rfl,m F H b g v d x _ w y q λi j=>o F H g a i r l Q j A h k⟩
theorem ft{n:Nat}(h:qU K t l)(x:∀f c b,l f c=My b->f.length=n):cV K (Fn K n t) (WW l):=λF H c b i d v Q j D e k=>by
 cases d<;>first
  |(obtain⟨a,p,rfl,E,g⟩:=c4.sqT D;exact⟨a,p,rfl,E,by rw[<-g.length];exact x _ _ _ e,h F H c b i _ p Q j g e k⟩)
  |cases e
theorem dg:∀b c a,lV b c=My a->b.length=0:=λb c a h=>by
 cases b with
 |nil=>rfl
 |cons _ _=>cases h
theorem bc{n:Nat}(h:∀b c a,u b c=My a->b.length=n):∀b c a,gN t u b c=My a->b.length=n+1:=λb c a e=>by
 cases b with
 |nil=>cases e
 |cons d r=>
  have g:(t d c).bind (λa=>u r a)=My a:=e;cases q:t d c with
  |none=>rw[q]at g;cases g
  |some i=>rw[q]at g;rw[M5,h _ _ _ g]
def eB(tg:lI):Prop:=∀d b a,tg d b=My a->Sub b a/\b.length=a.length
def uo(tg:jF):Prop:=∀d b a,tg d b=My a->Sub b a/\b.length=a.length
theorem ax:eB (h8 i):=λd b a e=>by
 obtain⟨q,rfl⟩:=uz e;refine⟨λj c g=>?_,by rw[NT]⟩;rw[OB];by_cases z:i=j
 .subst z;rw[q]at g;cases g
 .rw[MS z];exact g
theorem dZ:uo lV:=λa c b e=>by
 cases a with
 |nil=>cases e;exact⟨λ_ _ h=>h,rfl⟩
 |cons _ _=>cases e
theorem bf(j:eB t)(l:uo u):uo (gN t u):=λf b a e=>by
 cases f with
 |nil=>cases e
 |cons d r=>
  have g:(t d b).bind (λa=>u r a)=My a:=e;cases q:t d b with
  |none=>rw[q]at g;cases g
  |some m=>
   rw[q]at g;obtain⟨k,n⟩:=j _ _ _ q;obtain⟨p,o⟩:=l _ _ _ g;exact⟨λi c h=>p i c (k i c h),n.trans o⟩
theorem ff(h:uo t):eB (WW t):=λd b a e=>by
 cases d<;>first|exact h _ _ _ e|cases e
structure l9 (F:Fx) (D:MK) (H H':Hp) (β':Bg):Prop where
 kp:∀a o,H a=My o->a≠D->(∀b l,F.bg=My (b,l)->a≠b/\a≠l)->H' a=My o
 fr:Fr F H' β'
theorem l9.trans{F:Fx}{D:MK}{H H1 d:Hp}(a:l9 F D H H1 β1)(b:l9 F D H1 d β2):l9 F D H d β2:=⟨λx o h n m=>b.kp x o (a.kp x o h n m) n m,b.fr⟩
theorem To.toD{F:Fx}{H d:Hp}(t:To F H d g)(D:MK):l9 F D H d g:=⟨λa o h _ m=>t.kp a o h m,t.fr⟩
theorem l9.tr{F:Fx}{D:MK}{H d:Hp}(fr:Fr F H j)(g:F.A D)(t:l9 F D H d i):Tr F H F d:=
 ⟨λ_ h _=>h,λa o h e=>t.kp a o e (λz=>h (z▸g)) λb l q=>⟨λz=>h (z▸(fr.bgA b l q).1),λz=>h (z▸(fr.bgA b l q).2.1)⟩,rfl⟩
structure AR where
 R:Fx->Hp->MK->List Pu.D->Prop
 Z:List Pu.D->Prop
 tr:∀{F F2:Fx} {H H':Hp} {D:MK} {as:List Pu.D},R F H D as->(∀o,H D=My o->H' D=My o)->Tr F H F2 H'->R F2 H' D as
 zp:∀{as os:List Pu.D},Z (as++os)->Z as
noncomputable def RL(K:M9):AR where
 R:=λF H D b=>∃a,H D=My (.lst a)/\bb K F H b a
 Z:=λl=>l.length<=M1
 tr:=λh k t=>by
  obtain⟨a,d,g⟩:=h;exact⟨a,k _ d,bb.tr t _ _ g⟩
 zp:=λh=>by rw[Nb]at h;lia
def fE(K:M9)(R:AR)(D:MK)(i:TB)(f:Dn->M (List Pu.D)):Prop:=∀(F:Fx) (H:Hp) (c:Dn) (n d:Bg) (h:St) (e k:List Pu.D) (Q:a0E),Fr F H n->F.A D->(∀b l,F.bg=My (b,l)->D≠b/\D≠l)->ix K F H c h->R.R F H D e->
 f c n=My (.ok k,d)->R.Z (e++k)->(∀g a,l9 F D H a d->ix K F a c g->R.R F a D (e++k)->Q g a)->i h H Q
abbrev j3(K:M9):=fE K (RL K)
def lB(f:Dn->M Pu.D):Dn->M (List Pu.D):=λa=>M.bind (f a) λd=>M.ret [d]
theorem M.bind_inv{c g:Type}{m:M c}{k:c->M g}{f d:Bg}{r:g}(h:M.bind m k f=My (.ok r,d)):∃a b,m f=My (.ok a,b)/\k a b=My (.ok r,d):=by
 unfold M.bind at h;split at h
 .cases h
 .cases h
 .rename_i a b e
  exact⟨a,b,e,h⟩
theorem E0.run{b i:Type}{R:Hp->b->i->Prop}{F:Fx}{j:St}{m:M b}{H:Hp}{Q:i->Hp->Prop}{c d:Bg}{a:b}(e:m c=My (.ok a,d))(h:∀v g,To F H g d->R g a v->Q v g):run R F E0 j m H Q c:=⟨.ok a,d,e,h⟩
theorem aS{D:MK}{f:Dn->M Pu.D}:j3 K D (ze D (tV K f E0)) (lB f):=λF H G S g u U X Q fr w i m y e A k=>by
 obtain⟨c,B,x⟩:=y;obtain⟨d,V,C,I⟩:=M.bind_inv e;cases I;refine⟨F,G,S,fr,m,E0.run C λv E t J=>?_⟩;have j:=t.kp D _ B i;have L:=bb.tr (t.tr fr) _ _ x;refine⟨c,j,by rw[<-x.length];have:=(show(U++[d]).length<=M1 from A);simp at this;lia,?_⟩;have r:l9 F D E (upd E D (.lst (c++[v]))) g:=by
  refine⟨λa o h n _=>by rw[bt n];exact h,λa h q=>?_,fr.bgA,λb l q=>?_⟩
  .by_cases z:a=D
   .subst z;rw[ao]at q;cases q
   .rw[bt z]at q;exact t.fr.occ a h q
  .rw[bt (i b l q).1.symm,bt (i b l q).2.symm]
   exact t.fr.bag b l q
 have p:=r.tr t.fr w;exact k u _ ((t.toD D).trans r) (m.tr ((t.tr fr).trans p)) ⟨_,ao,bb.append (bb.tr p _ _ L) ⟨v,[],rfl,c4.tr p _ _ J,rfl⟩⟩
def m_(tg:lI)(e:a0q)(b:Dn->M (List Pu.D)):List Pu.D->Dn->M (List Pu.D)
 |[],_=>M.ret []
 |d::ds,δ=>match tg d δ with
  |none=>M.fail
  |some a=>M.bind (e a) λc=>M.bind (if c=MH then b a else M.ret []) λo=>M.bind (m_ tg e b ds δ) λf=>M.ret (o++f)
theorem nC{R:AR}{D:MK}{tg:lI}{b:Dn->M (List Pu.D)}(hg:cV K g tg)(sg:eB tg)(hb:fE K R D tb b){F:Fx}{H:Hp}{as os n:List Pu.D}(fr:Fr F H β)(hA:F.A D)(hn:∀b l,F.bg=My (b,l)->D≠b/\D≠l)(vk:ix K F H s σ)(hR:R.R F H D as)
  (it:vu K J F H n) (e:m_ tg tt b n s β=My (.ok os,β')) (hz:R.Z (as++os)) (k:∀j f,l9 F D H f β'->ix K F f s j->R.R F f D (as++os)->Q j f):dB J g (hW K tt E0) tb σ H Q:=by
 refine⟨λi m j f=>m+i=n.length/\∃a r u,l9 F D H f a/\ix K F f s j/\R.R F f D r/\m_ tg tt b (n.drop i) s a=My (.ok u,β')/\r++u=as++os,
  ⟨n.length,by lia,β,as,os,⟨λ_ _ h _ _=>h,fr⟩,vk,hR,e,rfl⟩,?_⟩
 rintro i m j f ⟨hm,a,r,u,y,B,C,t,V⟩;have X:=y.tr fr hA;obtain⟨iy,is⟩:=it F f a X y.fr i;cases P:n[i]? with
 |none=>
  have T:n.length<=i:=RP.mp P;rw[OT T]at t;cases t;refine .inl ⟨is (by lia),k j f y B ?_⟩;rw[<-V,NJ];exact C
 |some d=>
  have T:i<n.length:=(MR.mp P).1;obtain⟨go,yl⟩:=iy d P;have ed:n.drop i=d::n.drop (i+1):=by
   rw[NR T];congr 1;exact Np ((MI T).symm.trans P)
  rw[ed]at t;unfold m_ at t;cases q:tg d s with
  |none=>rw[q]at t;cases t
  |some p=>
   rw[q]at t;obtain⟨c,G,e2,e3⟩:=M.bind_inv t;obtain⟨o,E,U,e5⟩:=M.bind_inv e3;obtain⟨aa,af,e6,e7⟩:=M.bind_inv e5;cases e7;obtain⟨s1,s2⟩:=sg _ _ _ q;refine .inr ⟨go,λI W=>l9 F D H W E/\ix K F W s I/\R.R F W D (r++o),?_,λx H2 hy=>?_⟩
   .rintro I W ⟨t9,vk9,hR9⟩
    exact⟨m-1,by lia,by lia,E,r++o,aa,t9,vk9,hR9,e6,by rw[N4];exact V⟩
   .obtain⟨sm,dx⟩:=yl x H2 hy
    have Y:To F f H2 a:=y.fr.same sm;have L:=Y.tr y.fr;refine hg F H2 s p j d x _ (B.tr L) dx q λab v=>⟨F,p,a,Y.fr,v,E0.run e2 λc' H3 S ec=>?_⟩;subst ec;have w:=S.tr Y.fr;have N:=R.tr C (λo z=>S.kp D o (sm _ _ z) hn) (L.trans w);have O:l9 F D H H3 G:=y.trans ((Y.trans S).toD D);have ac:R.Z (r++o):=by
     rw[<-V,<-N4]at hz;exact R.zp hz
    cases c' with
    |true=>
     rw[MU rfl]at U⊢;refine hb F H3 p G E ab r o _ S.fr hA hn (v.tr w) N U ac λag H4 t4 ad ae=>?_;exact⟨O.trans t4,ad.sub s1 s2,ae⟩
    |false=>
     rw[MS MT]at U⊢;cases U;exact⟨O,(v.tr w).sub s1 s2,by rw[NJ];exact N⟩
def Xd(c:Dn->M (List Pu.D))(tg:lI)(e:a0q)(b:Dn->M (List Pu.D)):Dn->M (List Pu.D):=λa=>M.bind (c a) λf=>m_ tg e b f a
theorem oZ{D:MK}{tg:lI}{b:Dn->M (List Pu.D)}(i:cV K g tg)(j:eB tg)(l:fE K R D s b):fE K R D (zd (iV K C E0) λJ=>dB J g (hW K I E0) s) (Xd C tg I b):=λF H f n m B x E Q fr q a h r e u k=>by
 obtain⟨G,p,v,w⟩:=M.bind_inv e;refine⟨F,f,n,fr,h,E0.run v λJ c t y=>?_⟩;exact nC i j l t.fr q a (h.tr (t.tr fr)) (R.tr r (λo z=>t.kp D o z a) (t.tr fr)) y w u λd c A=>k d c ((t.toD D).trans A)
theorem HS{D:MK}{tg:lI}{b:Dn->M (List Pu.D)}(d:cV K g tg)(h:eB tg)(i:j3 K D j b):j3 K D (zd (iV K l E0) λJ=>dB J g (hW K m E0) j) (Xd l tg m b):=oZ d h i
noncomputable def lb(nv:Nat)(cx:a0a)(δ:Dn):Dn:=Nd nv ME++cx.map λj=>δ.getD j ME
def eK(nv:Nat)(cx:a0a)(it:Dn->M (List Pu.D))(tg:lI)(c:a0q)(b:Dn->M (List Pu.D)):Dn->M Pu.D:=λa e=>match it a e with
 |none=>ME
 |some (.error C,β1)=>My (.error C,β1)
 |some (.ok ds,β1)=>match m_ tg c b ds (lb nv cx a) β1 with
  |some (.ok os,β2)=>if os.length<=M1 then My (.ok (.lst os),β2)else ME
  |_=>ME
theorem qQ{F:Fx}{H:Hp}{a:a0h}(h:ix K F H r s):ix K F H (lb a.length cx r) (kH a cx s):=by
 refine⟨by simp[lb,kH],λi d e=>?_⟩;unfold lb at e;unfold kH;rw[SQ]at e⊢;rw[Oz]at e⊢;by_cases g:i<a.length
 .rw[MU g,O7,MU g]at e
  cases e
 .rw[MS g,MM]at e⊢
  cases q:cx[i-a.length]? with
  |none=>rw[q]at e;cases e
  |some j=>
   rw[q]at e;simp only[OI,UT]at e⊢;rw[MN]at e;cases z:r[j]? with
   |none=>rw[z]at e;cases e
   |some w=>
    rw[z]at e;have l:w=My d:=e;subst l;obtain⟨v,m,o⟩:=h.tell j d z;exact⟨v,by rw[MN,m];rfl,o⟩
theorem uA{f:a0h}{k:a0a}{p:Dn->M (List Pu.D)}{g:TG}{tg:lI}{G:a0q}{O:a0W}{b:Dn->M (List Pu.D)}(Y:cV K g tg)(Z:eB tg)(S:∀D,j3 K D (O D) b){P:St}{H:Hp}{Q:VK}(h:tV K (eK f.length k p tg G b) E P H Q):
  pM f k (iV K p E) (λD J=>dB J g (hW K G E0) (O D)) P H Q:=by
 obtain⟨F,V,X,fr,T,r,u,e,h⟩:=h;unfold eK at e;refine⟨F,V,X,fr,T,?_⟩;split at e
 .cases e
 .rename_i C β1 q
  cases e;exact⟨.error C,_,q,h⟩
 .rename_i ds β1 q
  split at e
  .rename_i os β2 q2
   split at e
   .rename_i hz
    cases e;refine⟨.ok ds,β1,q,λJ c t s D i=>?_⟩;have d:¬F.A D:=t.fr.fresh i;have nb:∀b l,F.bg=My (b,l)->D≠b/\D≠l:=λb l z=>⟨λw=>d (w▸(fr.bgA b l z).1),λw=>d (w▸(fr.bgA b l z).2.1)⟩;have U:=t.fr.upd (.lst []) i;have v:Fr ⟨λa=>F.A a\/a=D,F.bg⟩ (upd c D (.lst [])) β1:=by
     refine⟨λa ha z=>?_,λb l z=>let ⟨x,y,w⟩:=fr.bgA b l z;⟨.inl x,.inl y,w⟩,U.fr.bag⟩
     rcases ha with ha|ha
     .exact U.fr.occ a ha z
     .subst ha;rw[ao]at z;cases z
    have j:Tr F c ⟨λa=>F.A a\/a=D,F.bg⟩ (upd c D (.lst [])):=⟨λa ha hs z=>by
     rcases z with z|z
     .exact ha z
     .subst z;exact hs i,λa o ha z=>by rw[bt (b5 z i)];exact z,rfl⟩
    refine nC (R:=RL K) (D:=D) (as:=[]) (os:=os) Y Z (S D) v (.inr rfl) nb (qQ (T.tr ((t.tr fr).trans j))) ⟨[],ao,rfl⟩ (s.tr j) q2 (show os.length<=M1 from hz) λaa W B ab I=>?_;obtain⟨m,L,N⟩:=I;have tf:To F c W u:=by
     refine⟨λa o z n=>B.kp a o (by rw[bt (b5 z i)];exact z) (b5 z i) n,λa ha z=>B.fr.occ a (OC ha) z,fr.bgA,B.fr.bag⟩
    refine h _ W (t.trans tf) ⟨D,m,rfl,⟨d,.inl L⟩,bb.tr (F:=⟨λa=>F.A a\/a=D,F.bg⟩) ⟨λa ha _ z=>ha (OC z),λa o _ z=>z,rfl⟩ _ _ N⟩
   .cases e
  .cases e
inductive Sl where
 |sh (d:D)|own (ds:a0d)|grd (a_:a0o)|odc (b:Bool) (ks:List f_) (vs:a0d)
abbrev a0O:=Option Sl
abbrev Ds:=List a0O
inductive lK where
 |nx (δ:Ds)|rt (d:D)|bk (δ:Ds)|ct (δ:Ds)|ex (C:MK) (δ:Ds)|rg (a_:a0o)
abbrev a0v:=lK->Bg->Prop
abbrev G:=Ds->Bg->Option (lK×Bg)
abbrev Ow:=MK->a0I
noncomputable def ee(B:Ow)(b:a0s):Fx:=⟨λa=>B a≠ME,b⟩
noncomputable def l_(B:Ow)(b:a0s):Fx:=⟨λa=>B a=My 0\/B a=My 1,b⟩
def aR(K:M9)(F:Fx)(H:Hp)(P:MK->Prop):a0o->a0n->Prop
 |[],[]=>True
 |ds::a_,r::rs=>P r/\(∃a,H r=My (.lst a)/\bb K F H ds a)/\aR K F H P a_ rs
 |_,_=>False
theorem aR.tr{K:M9}{F i:Fx}{H d:Hp}(t:Tr F H i d):∀{b:a0o} {a:a0n},aR K F H P b a->(∀r xs,r∈a->P r->H r=My (.lst xs)->P2 r/\d r=My (.lst xs))->aR K i d P2 b a
 |[],[],_,_=>trivial
 |ds::b,r::a,h,f=>by
  obtain⟨j,⟨xs,l,m⟩,o⟩:=h;obtain⟨p,q⟩:=f r xs MP j l;exact⟨p,⟨xs,q,bb.tr t _ _ m⟩,aR.tr t o λu g v=>f u g (MJ _ v)⟩
 |[],_::_,h,_=>h.elim
 |_::_,[],h,_=>h.elim
theorem aR.all{K:M9}{F:Fx}{H:Hp}:∀{c:a0o} {a:a0n},aR K F H P c a->∀r∈a,P r/\∃b,H r=My (.lst b)
 |[],[],_,r,hr=>by cases hr
 |ds::c,r0::a,h,r,hr=>by
  obtain⟨d,⟨b,g,j⟩,i⟩:=h;rcases M4.mp hr with rfl|hr
  .exact⟨d,b,g⟩
  .exact aR.all i r hr
 |[],_::_,h,_,_=>h.elim
 |_::_,[],h,_,_=>h.elim
theorem aR.den{K:M9}{F d:Fx}{H:Hp}(t:Tr F H d H):∀{b:a0o} {a:a0n},aR K F H P b a->(∀r,r∈a->P r->¬d.A r)->bb K d H (b.map D.lst) (a.map V.ref)
 |[],[],_,_=>rfl
 |ds::b,r::a,h,f=>by
  obtain⟨g,⟨c,i,j⟩,l⟩:=h;exact bb.cons ⟨r,c,rfl,⟨f r MP g,.inl i⟩,bb.tr t _ _ j⟩ (aR.den t l λm o=>f m (MJ _ o))
 |[],_::_,h,_=>h.elim
 |_::_,[],h,_=>h.elim
theorem aR.len{K:M9}{F:Fx}{H:Hp}:∀{a:a0o} {b:a0n},aR K F H P a b->a.length=b.length
 |[],[],_=>rfl
 |ds::a,r::b,h=>by simp[aR.len h.2.2]
 |[],_::_,h=>h.elim
 |_::_,[],h=>h.elim
def iA(K:M9)(F:Fx)(c H:Hp)(e:a0o)(v:V):Prop:=∃a b,v= .ref a/\c a=ME/\H a=My (.lst (b.map V.ref))/\(a::b).Nodup/\aR K F H (λr=>c r=ME) e b
def Xg(K:M9)(F:Fx)(H:Hp)(a:MK)(b:Bool)(e:List f_)(f:a0d):Prop:=∃k c,H a=My (dU a b k c)/\e=c.map (·.1)/\(∀x∈c,gW K F H b x.1 x.2.1)/\bb K F H f (c.map (·.2.2))
theorem Xg.tr{K:M9}{F g:Fx}{H d:Hp}{a:MK}{b:Bool}(t:Tr F H g d)(h:Xg K F H a b r s)(k:∀o,H a=My o->d a=My o):Xg K g d a b r s:=by
 obtain⟨c,e,i,j,l,m⟩:=h;exact⟨c,e,k _ i,j,λx q=>(l x q).tr t,bb.tr t _ _ m⟩
theorem Xg.ne{K:M9}{F:Fx}{H:Hp}{a:MK}{b:Bool}(h:Xg K F H a b g i):H a≠ME:=by
 obtain⟨c,e,d,_⟩:=h;rw[d];simp
def A_(H:Hp)(a:MK):Prop:=(∃b,H a=My (.lst b))\/∃d,H a=My (.ext d)
theorem A_.imp{H d:Hp}{a:MK}(h:A_ H a)(k:∀o,H a=My o->d a=My o):A_ d a:=Or.imp (λ⟨b,z⟩=>⟨b,k _ z⟩) (λ⟨g,z⟩=>⟨g,k _ z⟩) h
def pz(K:M9)(B:Ow)(c:a0s)(H:Hp)(i:Nat):Sl->V->Prop
 | .sh d,v=>c4 K (ee B c) H d v
 | .own ds,v=>∃a f,v= .ref a/\B a=My (i+2)/\H a=My (.lst f)/\bb K (ee B c) H ds f
 | .grd a_,v=>∃a e,v= .ref a/\B a=My (i+2)/\H a=My (.lst (e.map V.ref))/\(a::e).Nodup/\aR K (ee B c) H (λr=>B r=My (i+2)) a_ e
 | .odc b ks vs,v=>∃a,v= .ref a/\B a=My (i+2)/\Xg K (ee B c) H a b ks vs
theorem pz.tr{K:M9}{H g:Hp}(h:pz K B u H j s v)(t:Tr (ee B u) H (ee B2 u) g)(k:∀c,B c=My (j+2)->B2 c=My (j+2)/\∀o,H c=My o->g c=My o):pz K B2 u g j s v:=by
 cases s with
 |sh d=>exact c4.tr t _ _ h
 |own cs=>
  obtain⟨c,l,e,a,f,i⟩:=h;exact⟨c,l,e,(k c a).1,(k c a).2 _ f,bb.tr t _ _ i⟩
 |grd a_=>
  obtain⟨c,n,e,a,f,i,m⟩:=h;exact⟨c,n,e,(k c a).1,(k c a).2 _ f,i,aR.tr t m λr _ _ p q=>⟨(k r p).1,(k r p).2 _ q⟩⟩
 |odc b ks vs=>
  obtain⟨c,e,a,f⟩:=h;exact⟨c,e,(k c a).1,f.tr t (k c a).2⟩
structure eo (K:M9) (H₀:Hp) (B:Ow) (bg:a0s) (H:Hp) (δ:Ds) (β:Bg) (σ:St):Prop where
 fr:Fr (ee B bg) H β
 bgt:∀b l,bg=My (b,l)->B b=My 1/\B l=My 1
 len:δ.length=σ.length
 cov:∀a,H₀ a≠ME->H a≠ME
 new:∀a k,B a=My (k+2)->H₀ a=ME
 lst:∀a k,B a=My (k+2)->A_ H a
 tell:∀(i:Nat) (s:Sl),δ[i]?=My (My s)->∃v,σ[i]?=My (My v)/\pz K B bg H i s v
structure hU (B:Ow) (H:Hp) (B':Ow) (H':Hp):Prop where
 kp:∀a o,H a=My o->(B a=ME\/B a=My 0)->H' a=My o
 tg:∀a,B a=My 0\/B a=My 1->B' a=B a
 nn:∀a o,H a=My o->B a=ME->B' a=ME
 al:∀a,H a≠ME->H' a≠ME
theorem hU.refl(B:Ow)(H:Hp):hU B H B H:=⟨λ_ _ h _=>h,λ_ _=>rfl,λ_ _ _ h=>h,λ_ h=>h⟩
theorem hU.trans{H H1 d:Hp}(a:hU B H B1 H1)(b:hU B1 H1 B2 d):hU B H B2 d:=by
 refine⟨λx o h n=>b.kp x o (a.kp x o h n) ?_,λx h=>?_,λx o h n=>b.nn x o (a.kp x o h (.inl n)) (a.nn x o h n),λx h=>b.al x (a.al x h)⟩
 .rcases n with n|n
  .exact .inl (a.nn x o h n)
  .exact .inr ((a.tg x (.inl n)).trans n)
 .have e:=a.tg x h
  rw[<-e]at h;exact(b.tg x h).trans e
def ib(K:M9)(a:Hp)(b:a0s)(E:a0r)(Dn:l5)(B:Ow)(H:Hp)(o:lK)(j:Bg):Prop:=match o with
 | .nx δ'=>∀h i g,hU B H i g->eo K a i b g δ' j h->Dn.nx h g
 | .bk δ'=>∀h i g,hU B H i g->eo K a i b g δ' j h->Dn.bk h g
 | .ct δ'=>∀h i g,hU B H i g->eo K a i b g δ' j h->Dn.ct h g
 | .rt d=>∀v i g,hU B H i g->Fr (ee i b) g j->c4 K (ee i b) g d v->Dn.rt v g
 | .rg a_=>∀v i g,hU B H i g->Fr (ee i b) g j->iA K (ee i b) a g a_ v->Dn.rt v g
 | .ex C δ'=>∀h i g,hU B H i g->eo K a i b g δ' j h->E h (.ref C) ME g
theorem ib.pre{K:M9}{E:a0r}{Dn:l5}{H a:Hp}(s:hU B H B1 a)(h:ib K H₀ m E Dn B H o l):ib K H₀ m E Dn B1 a o l:=by
 cases o with
 |nx δ=>exact λg i j t=>h g i j (s.trans t)
 |bk δ=>exact λg i j t=>h g i j (s.trans t)
 |ct δ=>exact λg i j t=>h g i j (s.trans t)
 |rt d=>exact λv i j t=>h v i j (s.trans t)
 |rg d=>exact λv i j t=>h v i j (s.trans t)
 |ex C δ=>exact λg i j t=>h g i j (s.trans t)
def tG(K:M9)(a:Hp)(g:G)(E:a0r):TS:=λDn h H=>∃B b c e o d,eo K a B b H c e h/\g c e=My (o,d)/\ib K a b E Dn B H o d
theorem _root_.L2.PS.imp{X:Cx}{e:N3}(h:PS X e t)(f:∀D d H,i D d H->t D d H):PS X e i:=λg s d H D I q=>h g s d H D I (f D d H q)
theorem _root_.L2.PSs.imp{X:Cx}{e:a0R}(h:PSs X e t)(f:∀D d H,i D d H->t D d H):PSs X e i:=λg s d H D I q=>h g s d H D I (f D d H q)
noncomputable def vw(δ:Ds):Dn:=δ.map λs=>match s with
 |some (.sh d)=>My d
 |_=>ME
noncomputable def fc(δ:Ds):Dn:=δ.map λs=>match s with
 |some (.sh d)=>My d
 |some (.own ds)=>My (.lst ds)
 |some (.grd a_)=>My (.lst (a_.map D.lst))
 |some (.odc b ks vs)=>My (.dct b ks vs)
 |none=>ME
variable{f:Hp}{B:Ow}{p:a0s}{R:Hp}{δ:Ds}{β T:Bg}{W:St}
theorem K6{i:Nat}{d:D}(e:(vw δ)[i]?=My (My d)):δ[i]?=My (My (.sh d)):=by
 unfold vw at e;rw[MM]at e;cases q:δ[i]? with
 |none=>rw[q]at e;cases e
 |some z=>
  rw[q]at e;cases z with
  |none=>cases e
  |some s=>
   cases s with
   |sh c=>cases e;rfl
   |own ds=>cases e
   |grd a_=>cases e
   |odc b ks vs=>cases e
theorem eo.view(h:eo K f B p H δ β W):ix K (ee B p) H (vw δ) W:=⟨by unfold vw;rw[MD,h.len],λi d e=>h.tell i _ (K6 e)⟩
theorem Xh:Tr (ee B p) H (l_ B p) H:=⟨λa h _ z=>by
 have b:¬(B a≠ME):=h;rcases z with z|z
 .exact b (by rw[z];simp)
 .exact b (by rw[z];simp),λ_ _ _ h=>h,rfl⟩
theorem eo.frA(h:eo K f B p H δ β W):Fr (l_ B p) H β:=⟨λa c=>h.fr.occ a (by
 show B a≠ME;rcases c with z|z<;>rw[z]<;>simp),λb l e=>⟨.inr (h.bgt b l e).1,.inr (h.bgt b l e).2,(h.fr.bgA b l e).2.2⟩,h.fr.bag⟩
theorem eo.viewA(h:eo K f B p H δ β W):ix K (l_ B p) H (fc δ) W:=by
 refine⟨by unfold fc;rw[MD,h.len],λi d e=>?_⟩;unfold fc at e;rw[MM]at e;cases q:δ[i]? with
 |none=>rw[q]at e;cases e
 |some z=>
  rw[q]at e;cases z with
  |none=>cases e
  |some s=>
   obtain⟨v,m,o⟩:=h.tell i s q;cases s with
   |sh c=>cases e;exact⟨v,m,c4.tr Xh _ _ o⟩
   |own ds=>
    cases e;obtain⟨a,k,g,j,l,t⟩:=o;refine⟨v,m,a,k,g,⟨λz=>?_,.inl l⟩,bb.tr Xh _ _ t⟩;have z':B a=My 0\/B a=My 1:=z;rw[j]at z';rcases z' with z'|z'<;>cases z'
   |grd a_=>
    cases e;obtain⟨a,D,g,j,l,t,u⟩:=o;have w:∀c,B c=My (i+2)->¬(l_ B p).A c:=λc y z=>by
     have z':B c=My 0\/B c=My 1:=z;rw[y]at z';rcases z' with z'|z'<;>cases z'
    exact⟨v,m,a,_,g,⟨w a j,.inl l⟩,aR.den Xh u λr _ C=>w r C⟩
   |odc b ks vs=>
    cases e;obtain⟨a,g,j,n,k,l,t,u,I⟩:=o;refine⟨v,m,?_⟩;unfold c4;refine⟨a,n,k,g,⟨λz=>?_,l⟩,t,λx J=>(u x J).tr Xh,bb.tr Xh _ _ I⟩;have z':B a=My 0\/B a=My 1:=z;rw[j]at z';rcases z' with z'|z'<;>cases z'
theorem eo.to{F:Fx}(h:eo K f B p H δ β W)(hF:F.bg=p)(t:To F H R T):eo K f B p R δ T W/\hU B H B R:=by
 have u:∀a,B a≠My 1->∀b l,F.bg=My (b,l)->a≠b/\a≠l:=λa x b l e=>by
  rw[hF]at e;exact⟨λz=>x (z▸(h.bgt b l e).1),λz=>x (z▸(h.bgt b l e).2)⟩
 have D:∀a o,H a=My o->B a≠My 1->R a=My o:=λa o e n=>t.kp a o e (u a n);have fr:Fr (ee B p) R T:=⟨λa x z=>(by
  by_cases y:B a=My 1
  .by_cases g:∃b l,p=My (b,l)/\(a=b\/a=l)
   .obtain⟨b,l,e,q⟩:=g
    obtain⟨j,m⟩:=t.fr.bag b l (hF.trans e);rcases q with rfl|rfl
    .rw[j]at z;cases z
    .rw[m]at z;cases z
   .cases q:H a with
    |none=>exact h.fr.occ a x q
    |some o=>
     rw[t.kp a o q λb l e=>⟨λw=>g ⟨b,l,hF.symm.trans e,.inl w⟩,λw=>g ⟨b,l,hF.symm.trans e,.inr w⟩⟩]at z;cases z
  .cases q:H a with
   |none=>exact h.fr.occ a x q
   |some o=>rw[D a o q y]at z;cases z),h.fr.bgA,λb l e=>t.fr.bag b l (hF.trans e)⟩
 have G:Tr (ee B p) H (ee B p) R:=⟨λ_ n _=>n,λa o n e=>D a o e (λz=>n (by show B a≠ME;rw[z];simp)),rfl⟩;have E:∀a,H a≠ME->R a≠ME:=λa x z=>by
  by_cases g:∃b l,p=My (b,l)/\(a=b\/a=l)
  .obtain⟨b,l,e,q⟩:=g
   obtain⟨j,m⟩:=t.fr.bag b l (hF.trans e);rcases q with rfl|rfl
   .rw[j]at z;cases z
   .rw[m]at z;cases z
  .cases q:H a with
   |none=>exact x q
   |some o=>
    rw[t.kp a o q λb l e=>⟨λw=>g ⟨b,l,hF.symm.trans e,.inl w⟩,λw=>g ⟨b,l,hF.symm.trans e,.inr w⟩⟩]at z;cases z
 refine⟨⟨fr,h.bgt,h.len,λa x=>E a (h.cov a x),h.new,λc k r=>(h.lst c k r).imp λo z=>D c o z (by rw[r];intro z;cases z),λi s e=>?_⟩,λa o e n=>D a o e (by rcases n with n|n<;>rw[n]<;>simp),λ_ _=>rfl,λ_ _ _ n=>n,E⟩
 obtain⟨v,A,C⟩:=h.tell i s e;exact⟨v,A,C.tr G λc d=>⟨d,λo q=>D c o q (by rw[d];intro z;cases z)⟩⟩
theorem eo.set(h:eo K f B p H δ β W)(a:c4 K (ee B p) H d v):eo K f B p H (δ.set i (My (.sh d))) β (W.set i (My v)):=by
 refine⟨h.fr,h.bgt,by rw[NT,NT,h.len],h.cov,h.new,h.lst,λj c e=>?_⟩;rw[OB]at e;rw[OB];by_cases q:i=j
 .subst q
  rw[MU rfl]at e⊢;split at e
  .rename_i g
   cases e;rw[MU (by rw[<-h.len];exact g)];exact⟨v,rfl,a⟩
  .cases e
 .rw[MS q]at e⊢
  exact h.tell j c e
noncomputable def gNil:G:=λδ β=>My (.nx δ,β)
noncomputable def ay(g h:G):G:=λδ β=>match g δ β with
 |some (.nx δ1,β1)=>h δ1 β1
 |r=>r
def cD(i:Nat)(f:FD):G:=λδ β=>match f (vw δ) β with
 |some (.ok d,β1)=>My (.nx (δ.set i (My (.sh d))),β1)
 |some (.error C,β1)=>My (.ex C δ,β1)
 |none=>ME
def ui(i:Nat)(f:FD):G:=λδ β=>match f (fc δ) β with
 |some (.ok d,β1)=>if eZ d=MH then My (.nx (δ.set i (My (.sh d))),β1)else ME
 |some (.error C,β1)=>My (.ex C δ,β1)
 |none=>ME
noncomputable def gi(f:FD):G:=λδ β=>match f (fc δ) β with
 |some (.ok _,β1)=>My (.nx δ,β1)
 |some (.error C,β1)=>My (.ex C δ,β1)
 |none=>ME
noncomputable def jA(f:FD):G:=λδ β=>match f (fc δ) β with
 |some (.ok d,β1)=>My (.rt d,β1)
 |some (.error C,β1)=>My (.ex C δ,β1)
 |none=>ME
noncomputable def xi(t:a0q)(g h:G):G:=λδ β=>match t (fc δ) β with
 |some (.ok MH,β1)=>g δ β1
 |some (.ok ML,β1)=>h δ β1
 |some (.error C,β1)=>My (.ex C δ,β1)
 |none=>ME
variable{a:N3}{b:a0R}
theorem bq:PSs X [] (tG X.K X.H₀ gNil E):=rh.imp λD W H d=>by
 obtain⟨B,p,δ,β,o,T,ok,e,h⟩:=d;cases e;exact h W B H (hU.refl B H) ok
theorem ac(i:PS X a (tG X.K X.H₀ g E))(j:PSs X b (tG X.K X.H₀ h E)):PSs X (a::b) (tG X.K X.H₀ (ay g h) E):=(cY i j).imp λD W H l=>by
 obtain⟨B,p,δ,β,o,T,ok,e,q⟩:=l;unfold ay at e;split at e
 .rename_i δ1 β1 m
  refine⟨B,p,δ,β,.nx δ1,β1,ok,m,λt u R s d=>⟨u,p,δ1,β1,o,T,d,e,ib.pre s ?_⟩⟩;exact q
 .rename_i r v
  refine⟨B,p,δ,β,o,T,ok,e,?_⟩;cases o with
  |nx δ1=>exact Nh e (v δ1 T)
  |_=>exact q
theorem aj(d:PS X a (tG X.K X.H₀ g E)):PSs X [a] (tG X.K X.H₀ g E):=gQ d
theorem aD{x:NA}{f:FD}(h:PS X (.Assign [.Name x pos'] e U) (iC (tV X.K f E) (fQ i))):PS X (.Assign [.Name x pos'] e U) (tG X.K X.H₀ (cD i f) E):=h.imp λD W H m=>by
 obtain⟨B,p,δ,β,o,T,ok,e,q⟩:=m;refine⟨ee B p,vw δ,β,ok.fr,ok.view,?_⟩;unfold cD at e;split at e
 .rename_i d β1 j
  cases e;refine⟨.ok d,_,j,λv R t a=>?_⟩;obtain⟨g,l⟩:=ok.to rfl t;exact q _ B R l (g.set a)
 .rename_i C β1 j
  cases e;refine⟨.error C,_,j,λR t=>?_⟩;obtain⟨g,l⟩:=ok.to rfl t;exact q _ B R l g
 .cases e
theorem Fp{K:M9}{F g:Fx}{H:Hp}(i:eZ d=MH)(h:c4 K F H d v):c4 K g H d v:=by
 cases d<;>first|exact h|cases i
theorem zX{x:NA}{f:FD}(h:PS X (.Assign [.Name x pos'] e U) (iC (tV X.K f E) (fQ i))):PS X (.Assign [.Name x pos'] e U) (tG X.K X.H₀ (ui i f) E):=h.imp λD W H m=>by
 obtain⟨B,p,δ,β,o,T,ok,e,q⟩:=m;refine⟨l_ B p,fc δ,β,ok.frA,ok.viewA,?_⟩;unfold ui at e;split at e
 .rename_i d β1 j
  split at e
  .rename_i r
   cases e;refine⟨.ok d,_,j,λv R t a=>?_⟩;obtain⟨g,l⟩:=ok.to rfl t;exact q _ B R l (g.set (Fp r a))
  .cases e
 .rename_i C β1 j
  cases e;refine⟨.error C,_,j,λR t=>?_⟩;obtain⟨g,l⟩:=ok.to rfl t;exact q _ B R l g
 .cases e
theorem fZ{f:FD}(h:PS X (.Expr e U) (xR (tV X.K f E))):PS X (.Expr e U) (tG X.K X.H₀ (gi f) E):=h.imp λD W H l=>by
 obtain⟨B,p,δ,β,o,T,ok,e,q⟩:=l;refine⟨l_ B p,fc δ,β,ok.frA,ok.viewA,?_⟩;unfold gi at e;split at e
 .rename_i d β1 i
  cases e;refine⟨.ok d,_,i,λv R t a=>?_⟩;obtain⟨g,j⟩:=ok.to rfl t;exact q _ B R j g
 .rename_i C β1 i
  cases e;refine⟨.error C,_,i,λR t=>?_⟩;obtain⟨g,j⟩:=ok.to rfl t;exact q _ B R j g
 .cases e
noncomputable def gT(B:Ow):Ow:=λa=>if B a=My 0\/B a=My 1 then B a else ME
theorem J2{B:Ow}{p:a0s}{H:Hp}:Tr (l_ B p) H (ee (gT B) p) H:=⟨λa h _ z=>by
 have d:gT B a≠ME:=z;unfold gT at d;split at d
 .rename_i q;exact h q
 .exact d rfl,λ_ _ _ h=>h,rfl⟩
theorem E8{B:Ow}{H:Hp}:hU B H (gT B) H:=⟨λ_ _ h _=>h,λa h=>by unfold gT;rw[MU h],λa o h n=>by unfold gT;rw[n];simp,λ_ h=>h⟩
theorem aF{f:FD}(h:PS X (.Return (My e) U) (Em (tV X.K f E))):PS X (.Return (My e) U) (tG X.K X.H₀ (jA f) E):=h.imp λD W H r=>by
 obtain⟨B,p,δ,β,o,T,ok,e,q⟩:=r;refine⟨l_ B p,fc δ,β,ok.frA,ok.viewA,?_⟩;unfold jA at e;split at e
 .rename_i d β1 j
  cases e;refine⟨.ok d,_,j,λv R t c=>?_⟩;obtain⟨g,m⟩:=ok.to rfl t;refine q _ (gT B) R (m.trans E8) ⟨λa k=>g.fr.occ a ?_,λb l e=>?_,g.fr.bag⟩ (c4.tr J2 _ _ c)
  .have i:gT B a≠ME:=k
   show B a≠ME;unfold gT at i;split at i
   .exact i
   .exact Nh rfl i
  .refine⟨?_,?_,(g.fr.bgA b l e).2.2⟩
   .show gT B b≠ME
    unfold gT;rw[MU (.inr (ok.bgt b l e).1),(ok.bgt b l e).1];simp
   .show gT B l≠ME
    unfold gT;rw[MU (.inr (ok.bgt b l e).2),(ok.bgt b l e).2];simp
 .rename_i C β1 j
  cases e;refine⟨.error C,_,j,λR t=>?_⟩;obtain⟨g,m⟩:=ok.to rfl t;exact q _ B R m g
 .cases e
theorem bJ{c:Expr}{a b:a0R}(l:PT X c (hW X.K t E))(k:PSs X a (tG X.K X.H₀ g E))(m:PSs X b (tG X.K X.H₀ h E)):PS X (.If c a b U) (tG X.K X.H₀ (xi t g h) E):=(Gn l k m).imp λD W H r=>by
 obtain⟨B,p,δ,β,o,T,ok,e,q⟩:=r;refine⟨l_ B p,fc δ,β,ok.frA,ok.viewA,?_⟩;unfold xi at e;split at e
 .rename_i β1 i
  refine⟨.ok MH,_,i,λv R t f=>?_⟩;subst f;obtain⟨d,j⟩:=ok.to rfl t;rw[MU rfl];exact⟨B,p,δ,β1,o,T,d,e,ib.pre j q⟩
 .rename_i β1 i
  refine⟨.ok ML,_,i,λv R t f=>?_⟩;subst f;obtain⟨d,j⟩:=ok.to rfl t;rw[MS MT];exact⟨B,p,δ,β1,o,T,d,e,ib.pre j q⟩
 .rename_i C β1 i
  cases e;refine⟨.error C,_,i,λR t=>?_⟩;obtain⟨d,j⟩:=ok.to rfl t;exact q _ B R j d
 .cases e
abbrev F_:=D->Ds->Option Ds
abbrev mS:=a0d->Ds->Option Ds
def oi(K:M9)(g:TG)(tg:F_):Prop:=∀(f:Hp) (B:Ow) (p:a0s) (H:Hp) (δ a:Ds) (β:Bg) (W:St) (d:D) (v:V) (Q:a0E),eo K f B p H δ β W->c4 K (ee B p) H d v->tg d δ=My a->(∀h,eo K f B p H a β h->Q h H)->g v W H Q
def qS(K:M9)(g:N_)(tg:mS):Prop:=∀(f:Hp) (B:Ow) (p:a0s) (H:Hp) (δ a:Ds) (β:Bg) (W:St) (b:a0d) (c:a0i) (Q:a0E),eo K f B p H δ β W->bb K (ee B p) H b c->tg b δ=My a->(∀d,eo K f B p H a β d->Q d H)->g c W H Q
noncomputable def Z2(i:Nat):F_:=λd δ=>My (δ.set i (My (.sh d)))
noncomputable def IY:mS:=λa δ=>match a with
 |[]=>My δ
 |_=>ME
noncomputable def IX(t:F_)(u:mS):mS:=λb δ=>match b with
 |[]=>ME
 |d::r=>(t d δ).bind λa=>u r a
noncomputable def sgT(t:mS):F_:=λd δ=>match d with
 | .tup ds=>t ds δ
 |_=>ME
theorem aE:oi K (fQ i) (Z2 i):=λf B p H δ a β W d v Q b c e k=>by
 cases e;exact k _ (b.set c)
theorem dG:qS K L2.gNil IY:=λf B p H δ a β W b x Q c n e k=>by
 cases b with
 |nil=>cases e;exact⟨n,k _ c⟩
 |cons _ _=>cases e
theorem aX(m:oi K t s)(o:qS K u uf):qS K (yN t u) (IX s uf):=λf B p H δ a β W b D Q c n e k=>by
 cases b with
 |nil=>cases e
 |cons d r=>
  obtain⟨x,l,rfl,v,w⟩:=n;have h:(s d δ).bind (λa=>uf r a)=My a:=e;cases q:s d δ with
  |none=>rw[q]at h;cases h
  |some g=>
   rw[q]at h;exact⟨x,l,rfl,m f B p H δ g β W d x _ c v q λi j=>o f B p H g a β i r l Q j w h k⟩
theorem cW:∀b δ a,IY b δ=My a->b.length=0:=λb δ a h=>by
 cases b with
 |nil=>rfl
 |cons _ _=>cases h
theorem aW{n:Nat}(h:∀b δ a,u b δ=My a->b.length=n):∀b δ a,IX t u b δ=My a->b.length=n+1:=λb δ a e=>by
 cases b with
 |nil=>cases e
 |cons d r=>
  have g:(t d δ).bind (λa=>u r a)=My a:=e;cases q:t d δ with
  |none=>rw[q]at g;cases g
  |some i=>rw[q]at g;rw[M5,h _ _ _ g]
theorem eP{n:Nat}(h:qS K t i)(D:∀c δ b,i c δ=My b->c.length=n):oi K (Fn K n t) (sgT i):=λf B p H δ b β W d v Q E F e k=>by
 cases d<;>first
  |(obtain⟨a,x,rfl,G,g⟩:=c4.sqT F;exact⟨a,x,rfl,G,by rw[<-g.length];exact D _ _ _ e,h f B p H δ b β W _ x Q E g e k⟩)
  |cases e
def yO(f:FD)(tg:F_):G:=λδ β=>match f (vw δ) β with
 |some (.ok d,β1)=>(tg d δ).map λa=>(.nx a,β1)
 |some (.error C,β1)=>My (.ex C δ,β1)
 |none=>ME
theorem qc{f:FD}{tg:F_}(l:oi X.K g tg)(h:PS X (.Assign [s] e U) (iC (tV X.K f E) g)):PS X (.Assign [s] e U) (tG X.K X.H₀ (yO f tg) E):=h.imp λD W H w=>by
 obtain⟨B,p,δ,β,o,T,ok,e,q⟩:=w;refine⟨ee B p,vw δ,β,ok.fr,ok.view,?_⟩;unfold yO at e;split at e
 .rename_i d β1 j
  cases a:tg d δ with
  |none=>rw[a]at e;cases e
  |some b=>
   rw[a]at e;cases e;refine⟨.ok d,_,j,λv R t c=>?_⟩;obtain⟨i,m⟩:=ok.to rfl t;exact l X.H₀ B p R δ b _ W d v _ i c a λr u=>q r B R m u
 .rename_i C β1 j
  cases e;refine⟨.error C,_,j,λR t=>?_⟩;obtain⟨i,m⟩:=ok.to rfl t;exact q _ B R m i
 .cases e
def rG(i:Nat)(a:a0H)(f:FD):G:=λδ β=>match(vw δ).getD i ME with
 |none=>ME
 |some c=>match f (vw δ) β with
  |some (.ok d,β1)=>(a c d).map λz=>(.nx (δ.set i (My (.sh z))),β1)
  |some (.error C,β1)=>My (.ex C δ,β1)
  |none=>ME
theorem fM{f:FD}(l:bn X.K s op)(h:PS X a (IO i (tV X.K f E) s)):PS X a (tG X.K X.H₀ (rG i op f) E):=h.imp λD W H I=>by
 obtain⟨B,p,δ,β,o,T,ok,e,q⟩:=I;unfold rG at e;split at e
 .cases e
 .rename_i c j
  have m:(vw δ)[i]?=My (My c):=by
   rw[MN]at j;cases z:(vw δ)[i]? with
   |none=>rw[z]at j;cases j
   |some w=>rw[z]at j;simp at j;rw[j]
  obtain⟨v,J,L⟩:=ok.view.tell i c m;refine⟨v,J,ee B p,vw δ,β,ok.fr,ok.view,?_⟩;split at e
  .rename_i d β1 r
   cases b:op c d with
   |none=>rw[b]at e;cases e
   |some z=>
    rw[b]at e;cases e;refine⟨.ok d,_,r,λw R t k=>?_⟩;obtain⟨g,y⟩:=ok.to rfl t;refine l (ee B p) R T _ c d z v w t.fr (c4.tr (t.tr ok.fr) _ _ L) k b λu N O P=>?_;obtain⟨A,Q⟩:=g.to rfl O;exact q _ B N (y.trans Q) (A.set P)
  .rename_i C β1 r
   cases e;refine⟨.error C,_,r,λR t=>?_⟩;obtain⟨g,y⟩:=ok.to rfl t;exact q _ B R y g
  .cases e
theorem hU.tr{B d:Ow}{H R:Hp}{p:a0s}(s:hU B H d R):Tr (ee B p) H (ee d p) R:=
 ⟨λa h b z=>by
  have c:B a=ME:=by
   cases q:B a with
   |none=>rfl
   |some t=>exact Nh (show B a≠ME by rw[q];simp) h
  cases q:H a with
  |none=>exact b q
  |some o=>exact z (s.nn a o q c),λa o h e=>s.kp a o e (.inl (by
  cases q:B a with
  |none=>rfl
  |some t=>exact Nh (show B a≠ME by rw[q];simp) h)),rfl⟩
def cq(t:a0q)(g:G):Nat->G
 |0,_,_=>ME
 |n+1,δ,β=>match t (fc δ) β with
  |some (.ok MH,β1)=>match g δ β1 with
   |some (.nx δ1,β2)=>cq t g n δ1 β2
   |some (.ct δ1,β2)=>cq t g n δ1 β2
   |some (.bk δ1,β2)=>My (.nx δ1,β2)
   |r=>r
  |some (.ok ML,β1)=>My (.nx δ,β1)
  |some (.error C,β1)=>My (.ex C δ,β1)
  |none=>ME
theorem mD:∀{n:Nat} {δ:Ds} {β:Bg} {r:lK×Bg},cq t g n δ β=My r->cq t g (n+1) δ β=My r
 |0,_,_,_,h=>by cases h
 |n+1,δ,β,r,h=>by
  have e:∀m,cq t g (m+1) δ β=match t (fc δ) β with
    |some (.ok MH,a)=>match g δ a with
     |some (.nx δ1,c)=>cq t g m δ1 c
     |some (.ct δ1,c)=>cq t g m δ1 c
     |some (.bk δ1,c)=>My (.nx δ1,c)
     |r=>r
    |some (.ok ML,a)=>My (.nx δ,a)
    |some (.error C,a)=>My (.ex C δ,a)
    |none=>ME:=λm=>rfl
  rw[e]at h⊢;cases q:t (fc δ) β with
  |none=>rw[q]at h;cases h
  |some z=>
   obtain⟨b,a⟩:=z;rw[q]at h;cases b with
   |error C=>exact h
   |ok b=>
    cases b with
    |false=>exact h
    |true=>
     dsimp only at h⊢
     cases f:g δ a with
     |none=>rw[f]at h;cases h
     |some y=>
      obtain⟨o,c⟩:=y;rw[f]at h;cases o with
      |nx δ1=>exact mD h
      |ct δ1=>exact mD h
      |bk δ1=>exact h
      |rt d=>exact h
      |rg d=>exact h
      |ex C δ1=>exact h
theorem sP{n m:Nat}{δ:Ds}{β:Bg}(h:cq t g n δ β=My r)(l:n<=m):cq t g m δ β=My r:=by
 induction m with
 |zero=>
  obtain rfl:n=0:=by lia
  exact h
 |succ m a=>
  by_cases q:n=m+1
  .subst q;exact h
  .exact mD (a (by lia))
end
open Classical in
def Xb(t:a0q)(g:G):G:=λD E=>if h:∃r n,cq t g n D E=My r then My h.choose else ME
theorem Kv(h:cq t g n d e=My r):Xb t g d e=My r:=by
 have a:∃r n,cq t g n d e=My r:=⟨r,n,h⟩;unfold Xb;rw[dif_pos a];obtain⟨m,D⟩:=a.choose_spec;have c:=sP h (Nat.le_max_left n m);have b:=sP D (Nat.le_max_right n m);rw[c]at b;rw[<-Np b]
theorem Ib(h:Xb t g b c=My r):∃n,cq t g n b c=My r:=by
 unfold Xb at h;split at h
 .rename_i a
  obtain⟨m,D⟩:=a.choose_spec;cases h;exact⟨m,D⟩
 .cases h
section
variable{X:Cx}{E:a0r}{e:Expr}{st:N3}{h:a0R}{s:Ri}{K:M9}
theorem Hi(R:Wo (Nj X.prog X.w) X.A X.env X.xe)(T:PT X c (hW X.K t E))(U:PSs X body (tG X.K X.H₀ g E)):PS X (.While c body [] s) (tG X.K X.H₀ (Xb t g) E):=(EC R T U).imp λD σ H W=>by
 obtain⟨B,V,δ,β,o,l,ok,e,q⟩:=W;obtain⟨n,e⟩:=Ib e;refine⟨λm u H1=>∃j M S,hU B H j H1/\eo X.K X.H₀ j V H1 M S u/\cq t g m M S=My (o,l),⟨n,B,δ,β,hU.refl B H,ok,e⟩,?_⟩;rintro m u H1 ⟨j,M,S,r,h,f⟩;refine⟨l_ j V,fc M,S,h.frA,h.viewA,?_⟩;cases m with
 |zero=>cases f
 |succ m=>
  unfold cq at f;split at f
  .rename_i β2 y
   refine⟨.ok MH,_,y,λv N tt hd=>?_⟩;subst hd;obtain⟨b,k⟩:=h.to rfl tt;rw[MU rfl];refine⟨λF P=>∃O a G,hU B H O P/\eo X.K X.H₀ O V P a G F/\cq t g m a G=My (o,l),λF P ⟨O,a,G,z⟩=>⟨m,Sm m,O,a,G,z⟩,?_⟩;split at f
   .rename_i a G I
    exact⟨j,V,M,β2,.nx a,G,b,I,λp J Q L i=>⟨J,a,G,r.trans (k.trans L),i,f⟩⟩
   .rename_i a G I
    exact⟨j,V,M,β2,.ct a,G,b,I,λp J Q L i=>⟨J,a,G,r.trans (k.trans L),i,f⟩⟩
   .rename_i a G I
    cases f;exact⟨j,V,M,β2,.bk a,_,b,I,λp J Q L i=>q p J Q (r.trans (k.trans L)) i⟩
   .rename_i x Y Z h3
    refine⟨j,V,M,β2,o,l,b,f,?_⟩;have q2:=ib.pre (r.trans k) q;cases o with
    |nx a=>exact Nh f (Y _ _)
    |ct a=>exact Nh f (Z _ _)
    |bk a=>exact Nh f (h3 _ _)
    |rt d=>exact q2
    |rg d=>exact q2
    |ex C a=>exact q2
  .rename_i β2 y
   cases f;refine⟨.ok ML,_,y,λv N tt hd=>?_⟩;subst hd;obtain⟨b,k⟩:=h.to rfl tt;rw[MS MT];exact q _ j N (r.trans k) b
  .rename_i C β2 y
   cases f;refine⟨.error C,_,y,λN tt=>?_⟩;obtain⟨b,k⟩:=h.to rfl tt;exact q _ j N (r.trans k) b
  .cases f
noncomputable def o3(e:F_)(g:G):a0d->G
 |[],δ,β=>My (.nx δ,β)
 |d::ds,δ,β=>match e d δ with
  |none=>ME
  |some h=>match g h β with
   |some (.nx δ2,β2)=>o3 e g ds δ2 β2
   |some (.ct δ2,β2)=>o3 e g ds δ2 β2
   |some (.bk δ2,β2)=>My (.nx δ2,β2)
   |r=>r
def lw(h:Ds->M a0d)(s:F_)(g:G):G:=λe D=>match h e D with
 |some (.ok ds,β1)=>o3 s g ds e β1
 |some (.error C,β1)=>My (.ex C e,β1)
 |none=>ME
abbrev Kx(e:FL):F_->G->G:=lw λh=>e (vw h)
theorem Ja(hw:∀{B z H δ β Q R},eo X.K X.H₀ B z H δ β Q->run (λY (M:a0d) (J:It)=>vu X.K J (ee B z) Y M) (ee B z) E Q (it δ) H R β->wi Q H R)(l:oi X.K tgg tg)(h:PS X (.For tgt iter body [] s) (Eo wi tgg (tG X.K X.H₀ g E))):PS X (.For tgt iter body [] s) (tG X.K X.H₀ (lw it tg g) E):=h.imp λD Q H h_=>by
 obtain⟨B,z,δ,β,o,y,ok,e,q⟩:=h_;refine hw ok ?_;unfold lw at e;split at e
 .rename_i M β1 Z
  refine⟨.ok M,_,Z,λJ S t hJ=>?_⟩;obtain⟨V,s1⟩:=ok.to rfl t;refine⟨λi m n F=>m+i=M.length/\∃k p G,hU B S k F/\eo X.K X.H₀ k z F p G n/\o3 tg g (M.drop i) p G=My (o,y),⟨M.length,by lia,B,δ,β1,hU.refl B S,V,e⟩,?_⟩;rintro i m n F ⟨hm,k,p,G,I,c,b⟩;obtain⟨iy,is⟩:=hJ (ee k z) F G I.tr c.fr i;cases T:M[i]? with
  |none=>
   have U:M.length<=i:=RP.mp T;rw[OT U]at b;cases b;exact .inl ⟨is (by lia),q n k F (s1.trans I) c⟩
  |some d=>
   have U:i<M.length:=(MR.mp T).1;obtain⟨go,yl⟩:=iy d T;have ed:M.drop i=d::M.drop (i+1):=by
    rw[NR U];congr 1;exact Np ((MI U).symm.trans T)
   rw[ed]at b;unfold o3 at b;split at b
   .cases b
   .rename_i f e3
    refine .inr ⟨go,λL H9=>∃W r u,hU B S W H9/\eo X.K X.H₀ W z H9 r u L/\o3 tg g (M.drop (i+1)) r u=My (o,y),λL H9 ⟨W,r,u,z1,z2,z3⟩=>⟨m-1,by lia,by lia,W,r,u,z1,z2,z3⟩,λx H3 hy=>?_⟩;obtain⟨sm,dx⟩:=yl x H3 hy;obtain⟨aa,s3⟩:=c.to rfl (c.fr.same sm);refine l X.H₀ k z H3 p f G n d x _ aa dx e3 λab v=>?_;have w:=I.trans s3;split at b
    .rename_i a β5 N
     exact⟨k,z,f,G,.nx a,β5,v,N,λA O H6 P j=>⟨O,a,β5,w.trans P,j,b⟩⟩
    .rename_i a β5 N
     exact⟨k,z,f,G,.ct a,β5,v,N,λA O H6 P j=>⟨O,a,β5,w.trans P,j,b⟩⟩
    .rename_i a β5 N
     cases b;exact⟨k,z,f,G,.bk a,_,v,N,λA O H6 P j=>q A O H6 (s1.trans (w.trans P)) j⟩
    .rename_i x h1 h2 h3
     refine⟨k,z,f,G,o,y,v,b,?_⟩;have q2:=ib.pre (s1.trans w) q;cases o with
     |nx a=>exact Nh b (h1 _ _)
     |ct a=>exact Nh b (h2 _ _)
     |bk a=>exact Nh b (h3 _ _)
     |rt d=>exact q2
     |rg d=>exact q2
     |ex C a=>exact q2
 .rename_i C β1 Z
  cases e;refine⟨.error C,_,Z,λY t=>?_⟩;obtain⟨c,I⟩:=ok.to rfl t;exact q _ B Y I c
 .cases e
theorem bU(l:oi X.K b d)(h:PS X (.For c a body [] s) (Eo (iV X.K f E) b (tG X.K X.H₀ g E))):PS X (.For c a body [] s) (tG X.K X.H₀ (Kx f d g) E):=Ja (λe r=>⟨_,_,_,e.fr,e.view,r⟩) l h
theorem eo.claim{E:Ds}{A:St}(S:MK->Prop)(D:eo K H₀ B x H E Q A)(t:To (ee B x) H H' O)(g:∀c,S c->H c=ME/\A_ H' c)(V:∀{r:Ow},(∀c,S c->r c=My (i+2))->(∀c,r c≠ME->B c≠ME\/S c)->Tr (ee B x) H (ee r x) H'->pz K r x H' i P v):
  ∃C,eo K H₀ C x H' (E.set i (My P)) O (A.set i (My v))/\hU B H C H':=by
 classical
 obtain⟨a,F⟩:=D.to rfl t;have hB:∀c,S c->B c=ME:=λc f=>OD λz=>D.fr.occ c z (g c f).1;have m:∀c n,B c=My n->¬S c:=λc n e z=>by rw[hB c z]at e;cases e
 have p:hU B H (λc=>if S c then My (i+2)else B c) H':=⟨F.kp,λc f=>MS (f.elim (m c 0) (m c 1)),λc o h n=>(MS λz=>by rw[(g c z).1]at h;cases h).trans n,F.al⟩;have G:Tr (ee B x) H (ee (λc=>if S c then My (i+2)else B c) x) H':=p.tr;have u:∀b l,x=My (b,l)->(if S b then My (i+2)else B b)=My 1/\(if S l then My (i+2)else B l)=My 1:=λb l e=>by
  obtain⟨M,I⟩:=D.bgt b l e;exact⟨(MS (m b 1 M)).trans M,(MS (m l 1 I)).trans I⟩
 refine⟨λc=>if S c then My (i+2)else B c,⟨⟨λc f z=>?_,λb l e=>⟨λz=>(by cases z.symm.trans (u b l e).1),λz=>(by cases z.symm.trans (u b l e).2),(D.fr.bgA b l e).2.2⟩,a.fr.bag⟩,u,by rw[NT,NT,D.len],a.cov,λc k f=>?_,λc k f=>?_,λj s e=>?_⟩,p⟩
 .by_cases q:S c
  .rcases(g c q).2 with⟨_,w⟩|⟨_,w⟩<;>(rw[w]at z;cases z)
  .exact a.fr.occ c (λy=>f ((MS q).trans y)) z
 .by_cases z:S c
  .cases w:H₀ c with
   |none=>rfl
   |some o=>exact Nh (g c z).1 (D.cov c (by rw[w];simp))
  .exact D.new c k ((MS z).symm.trans f)
 .by_cases z:S c
  .exact(g c z).2
  .exact a.lst c k ((MS z).symm.trans f)
 .rw[OB]at e⊢
  by_cases q:i=j
  .subst q
   rw[MU rfl]at e⊢;split at e
   .rename_i J
    cases e;rw[MU (by rw[<-D.len];exact J)];exact⟨_,rfl,V (λc z=>MU z) (λc z=>OD λy=>z ((MS λw=>y (.inr w)).trans (OD λw=>y (.inl w)))) G⟩
   .cases e
  .rw[MS q]at e⊢
   obtain⟨w,L,N⟩:=D.tell j s e;exact⟨w,L,N.tr G λc d=>⟨(MS (m c _ d)).trans d,λo h=>t.kp c o h λb l z=>⟨λy=>(by subst y;rw[(D.bgt _ _ z).1]at d;cases d),λy=>(by subst y;rw[(D.bgt _ _ z).2]at d;cases d)⟩⟩⟩
theorem eo.newAt{e:Ds}{b:St}(h:eo K H₀ B j H e k b)(d:H p=ME)(g:A_ (upd H p u) p)(s:∀{a:Ow},a p=My (i+2)->Tr (ee B j) H (ee a j) (upd H p u)->pz K a j (upd H p u) i l (.ref p)):
  ∃f,eo K H₀ f j (upd H p u) (e.set i (My l)) k (b.set i (My (.ref p)))/\hU B H f (upd H p u):=h.claim (·=p) (h.fr.upd u d) (λc z=>by cases z;exact⟨d,g⟩) λD _ E=>s (D p rfl) E
theorem eo.writeAt{E:Ds}(D:eo K H₀ B w H E A x)(M:x[i]?=My (My (.ref a)))(hB:B a=My (i+2))(p:A_ (upd H a u) a)(S:Tr (ee B w) H (ee B w) (upd H a u)->pz K B w (upd H a u) i C (.ref a)):
  eo K H₀ B w (upd H a u) (E.set i (My C)) A x/\hU B H B (upd H a u):=by
 have f:hU B H B (upd H a u):=by
  refine⟨λc o h n=>?_,λ_ _=>rfl,λ_ _ _ n=>n,λc g=>?_⟩
  .rw[bt]
   .exact h
   .intro z;subst z;rw[hB]at n;rcases n with n|n<;>cases n
  .by_cases z:c=a
   .subst z;rw[ao];simp
   .rw[bt z];exact g
 have G:Tr (ee B w) H (ee B w) (upd H a u):=f.tr;refine⟨⟨⟨λc g z=>?_,D.fr.bgA,λb l e=>?_⟩,D.bgt,by rw[NT,D.len],λa V=>f.al a (D.cov a V),D.new,λc k g=>(by
  by_cases z:c=a
  .subst z;exact p
  .exact(D.lst c k g).imp λo y=>by rw[bt z];exact y),λj s e=>?_⟩,f⟩
 .by_cases q:c=a
  .subst q;rw[ao]at z;cases z
  .rw[bt q]at z;exact D.fr.occ c g z
 .obtain⟨b1,m⟩:=D.bgt b l e
  rw[bt (λz=>by subst z;rw[hB]at b1;cases b1),bt (λz=>by subst z;rw[hB]at m;cases m)];exact D.fr.bag b l e
 .rw[OB]at e
  by_cases q:i=j
  .subst q
   rw[MU rfl]at e;split at e
   .cases e
    exact⟨_,M,S G⟩
   .cases e
  .rw[MS q]at e
   obtain⟨v,r,t⟩:=D.tell j s e;exact⟨v,r,t.tr G λc d=>⟨d,λo z=>(bt λy=>by subst y;rw[hB]at d;cases d;exact q rfl).trans z⟩⟩
theorem eo.newOwn{h:Ds}{a:St}(s:eo K H₀ B f H h g a)(c:H p=ME)(D:bb K (ee B f) H j d):
  ∃b,eo K H₀ b f (upd H p (.lst d)) (h.set i (My (.own j))) g (a.set i (My (.ref p)))/\hU B H b (upd H p (.lst d)):=s.newAt c (.inl ⟨d,ao⟩) λe t=>⟨p,d,rfl,e,ao,bb.tr t _ _ D⟩
theorem eo.writeOwn{e:Ds}(h:eo K H₀ B b H e d c)(s:c[i]?=My (My (.ref a)))(hB:B a=My (i+2))(E:H a=My (.lst f))(D:bb K (ee B b) H ds xs):
  eo K H₀ B b (upd H a (.lst xs)) (e.set i (My (.own ds))) d c/\hU B H B (upd H a (.lst xs)):=h.writeAt s hB (.inl ⟨xs,ao⟩) λt=>⟨a,xs,rfl,hB,ao,bb.tr t _ _ D⟩
def yM(i:Nat)(f:FL):G:=λe h=>match f (vw e) h with
 |some (.ok ds,β1)=>if ds.length<=M1 then My (.nx (e.set i (My (.own ds))),β1)else ME
 |some (.error C,β1)=>My (.ex C e,β1)
 |none=>ME
theorem pV(h:PS X st (iC (IL (i0 X.K f E)) (fQ i))):PS X st (tG X.K X.H₀ (yM i f) E):=h.imp λD r H j=>by
 obtain⟨B,G,M,S,o,k,ok,e,q⟩:=j;refine⟨ee B G,vw M,S,ok.fr,ok.view,?_⟩;unfold yM at e;split at e
 .rename_i ds β1 b
  split at e
  .rename_i l
   cases e;refine⟨.ok ds,_,b,λV g t s=>⟨by rw[<-s.length];exact l,λp m=>?_⟩⟩;obtain⟨a,c⟩:=ok.to rfl t;obtain⟨u,d,n⟩:=a.newOwn (i:=i) m s;exact q _ _ _ (c.trans n) d
  .cases e
 .rename_i C β1 b
  cases e;refine⟨.error C,_,b,λg t=>?_⟩;obtain⟨a,c⟩:=ok.to rfl t;exact q _ B g c a
 .cases e
def yP(i:Nat)(f:FL):G:=λe h=>match e.getD i ME with
 |some (.own cs)=>match f (vw e) h with
  |some (.ok [d],β1)=>if cs.length<M1 then My (.nx (e.set i (My (.own (cs++[d])))),β1)else ME
  |some (.error C,β1)=>My (.ex C e,β1)
  |_=>ME
 |_=>ME
theorem getD_some{D:Type}{e:List (Option D)}{i:Nat}{s:D}(h:e.getD i ME=My s):e[i]?=My (My s):=by
 rw[MN]at h;cases z:e[i]? with
 |none=>rw[z]at h;cases h
 |some w=>rw[z]at h;simp at h;rw[h]
theorem qd(h:PS X st (xR (ZY X.K "list" wL (oM i) (i0 X.K f E)))):PS X st (tG X.K X.H₀ (yP i f) E):=h.imp λD P H y=>by
 obtain⟨B,s,G,M,o,A,ok,e,q⟩:=y;unfold yP at e;split at e
 .rename_i cs u
  obtain⟨v,l,a,S,rfl,F,I,Q⟩:=ok.tell i _ (getD_some u);refine⟨_,l,.inl ⟨rfl,S,et.of I⟩,ee B s,vw G,M,ok.fr,ok.view,?_⟩;split at e
  .rename_i d β1 m
   split at e
   .rename_i J
    cases e;refine⟨.ok [d],_,m,λx w t V=>?_⟩;obtain⟨b,n⟩:=ok.to rfl t;obtain⟨v,rfl,L⟩:=bb.one V;obtain⟨R,c,T,g,p,N,j,k⟩:=b.tell i _ (getD_some u);rw[l]at c;cases c;cases p;refine⟨a,g,v,rfl,rfl,j,by rw[<-k.length];exact J,?_⟩;obtain⟨r,O⟩:=b.writeOwn (ds:=cs++[d]) (xs:=g++[v]) l F j (bb.append k (bb.cons L bb.nil));exact q _ _ _ (n.trans O) r
   .cases e
  .rename_i C β1 m
   cases e;refine⟨.error C,_,m,λw t=>?_⟩;obtain⟨b,n⟩:=ok.to rfl t;exact q _ B w n b
  .cases e
 .cases e
noncomputable def o0(n:Nat)(ds:a0d):Ds:=ds.map (λd=>My (Sl.sh d))++Nd (n-ds.length) ME
def ia(n:Nat)(g:G):a0d->M D:=λe h=>match g (o0 n e) h with
 |some (.rt d,β')=>My (.ok d,β')
 |some (.nx _,β')=>My (.ok .non,β')
 |some (.ex C _,β')=>My (.error C,β')
 |_=>ME
theorem uC{F:Fx}{N:a0h}(fr:Fr F H x)(E:bb K F H w y):∃B,eo K H B F.bg H (o0 N.length w) x (fK N y)/\(∀a,F.A a->B a=My 0\/B a=My 1)/\(∀a,B a=My 1->∃b l,F.bg=My (b,l)/\(a=b\/a=l))/\(∀a,B a≠ME->F.A a):=by
 classical
 refine⟨λa=>if F.A a then(if ∃b l,F.bg=My (b,l)/\(a=b\/a=l)then My 1 else My 0)else ME,⟨⟨λa D=>fr.occ a ?_,λb l e=>?_,fr.bag⟩,λb l e=>?_,?_,λ_ h=>h,λc k m=>(by
  have f:(if F.A c then(if ∃b l,F.bg=My (b,l)/\(c=b\/c=l)then My 1 else My 0)else ME)=My (k+2):=m;split at f
  .split at f<;>cases f
  .cases f),λc k m=>(by
  have f:(if F.A c then(if ∃b l,F.bg=My (b,l)/\(c=b\/c=l)then My 1 else My 0)else ME)=My (k+2):=m;split at f
  .split at f<;>cases f
  .cases f),λi s e=>?_⟩,λa D=>?_,λa D=>?_,λa D=>?_⟩
 .have g:(if F.A a then(if ∃b l,F.bg=My (b,l)/\(a=b\/a=l)then My 1 else My 0)else ME)≠(ME:a0I):=D
  split at g
  .assumption
  .exact Nh rfl g
 .obtain⟨a1,a2,a3⟩:=fr.bgA b l e
  refine⟨?_,?_,a3⟩
  .show(if F.A b then(if ∃j l,F.bg=My (j,l)/\(b=j\/b=l)then My 1 else My 0)else ME)≠(ME:a0I)
   rw[MU a1];split<;>simp
  .show(if F.A l then(if ∃j p,F.bg=My (j,p)/\(l=j\/l=p)then My 1 else My 0)else ME)≠(ME:a0I)
   rw[MU a2];split<;>simp
 .obtain⟨a1,a2,a3⟩:=fr.bgA b l e
  exact⟨by rw[MU a1,MU ⟨b,l,e,.inl rfl⟩],by rw[MU a2,MU ⟨b,l,e,.inr rfl⟩]⟩
 .unfold o0 fK
  rw[Nb,Nb,MD,MD,Oz,Oz,E.length]
 .unfold o0 at e
  unfold fK;rw[SQ,MD]at e;rw[SQ,MD,<-E.length];by_cases n:i<w.length
  .rw[MU n,MM]at e
   rw[MU n,MM];cases z:w[i]? with
   |none=>rw[z]at e;cases e
   |some d=>
    rw[z]at e;cases e;obtain⟨v,r,t⟩:=E.get z;refine⟨v,by rw[r];rfl,?_⟩;have o:Tr F H (ee (λa=>if F.A a then(if ∃b l,F.bg=My (b,l)/\(a=b\/a=l)then My 1 else My 0)else ME) F.bg) H:=by
     refine⟨λa D _ u=>?_,λ_ _ _ h=>h,rfl⟩;have q:(if F.A a then(if ∃b l,F.bg=My (b,l)/\(a=b\/a=l)then My 1 else My 0)else ME)≠(ME:a0I):=u;rw[MS D]at q;exact q rfl
    exact c4.tr o _ _ t
  .rw[MS n,O7]at e
   split at e<;>cases e
 .simp only[MU D]
  split
  .exact .inr rfl
  .exact .inl rfl
 .simp only at D
  split at D
  .split at D
   .assumption
   .cases D
  .cases D
 .simp only at D
  split at D
  .assumption
  .exact Nh rfl D
variable{P:Ny}{w:NC}{mg:a0j}{X:NS}
theorem Ie{st:N3}{N M:a0h}(F:g_ K x qual st f fd)(S:b4 N M (af st))
  (y:∀(j:MO) (A:NX) (D:a0C) (s:MQ) (H:Hp) (E:XK),d4 k (A.deeper (QR qual (af st) s.heap.objs.size f j))->
   PSs (dz (fh P w) P w K mg X N qual (af st) f j A D s H E) (cA st) (tG K H g (λ_=>E))):eg P w K mg X (fh P w) (k+1) f fd M (J_ K M.length (ia N.length g)):=by
 refine F.okE S (λvs H Q E h=>h.1) λj A D s H vs Q E Y h=>?_;obtain⟨hl,p,V,β,fr,hd,r,i,e,h⟩:=h;refine⟨_,y j A D s H E Y,?_⟩;obtain⟨B,ok,T,Z,hn⟩:=uC (N:=N) fr hd;have I:∀{u:Ow} {c:Hp},hU B H u c->Fr (ee u p.bg) c i->To p H c i/\Tr (ee u p.bg) c p c:=λ{u c} s m=>by
  have hs:∀a,p.A a->u a≠ME:=λa G=>by
   rw[s.tg a (T a G)];rcases T a G with z|z<;>rw[z]<;>simp
  refine⟨⟨λa o G n=>s.kp a o G ?_,λa G=>m.occ a (hs a G),λb l e=>fr.bgA b l e,m.bag⟩,λa G _ z=>G (hs a z),λ_ _ _ h=>h,rfl⟩;cases q:B a with
  |none=>exact .inl rfl
  |some t=>
   have:=T a (hn a (by rw[q];simp));rcases this with z|z
   .rw[q]at z;exact .inr z
   .obtain⟨b,l,e,w⟩:=Z a z
    obtain⟨n1,n2⟩:=n b l e;rcases w with w|w
    .exact Nh w n1
    .exact Nh w n2
 unfold ia at e;split at e
 .rename_i d β1 O
  cases e;refine⟨B,p.bg,o0 N.length V,β,.rt d,i,ok,O,λv u c s m hv=>?_⟩;obtain⟨R,U⟩:=I s m;exact h v c R (c4.tr U _ _ hv)
 .rename_i J β1 O
  cases e;refine⟨B,p.bg,o0 N.length V,β,.nx J,i,ok,O,λW u c s L=>?_⟩;obtain⟨R,U⟩:=I s L.fr;exact h _ c R rfl
 .rename_i C J β1 O
  cases e;refine⟨B,p.bg,o0 N.length V,β,.ex C J,i,ok,O,λW u c s L=>?_⟩;obtain⟨R,U⟩:=I s L.fr;exact h c R
 .cases e
variable{y:Ny}{A:NX}
theorem Mx(l:A.handled=ME)(D t:MK)(M:t≠D)(b:a0J):UP y w A D [D,t] b.size (λi v=>b[i]?=My v) (λi h=>h.IsTupleIter D t i/\h.IsTuple t b) where
 live:=λ_ _ st=>let ⟨o,e,_⟩:=st.1;⟨o,e⟩
 frame:=λ_ _ _ st k=>⟨st.1.at λo e=>k D (by simp) o e,by
  obtain⟨o,e,r⟩:=st.2;exact⟨o,k t (by simp) o e,r⟩⟩
 item:=λi s Q E p st q=>by
  obtain⟨o,d,G,c⟩:=id st.1;obtain⟨n,f,_,K,g⟩:=st.2;have j:b[i]?=My b[i]:=by simp[p]
  unfold OL;refine MC (wpAny_callSpecial?_slot (name:=N9 "__next__") st.1.typeIs Qt (NQ Qt st.1.typeIs UQ ?_ (UC _)));show M0 _ _ (WA (.ref D) 0>>=_) _ _ _;refine MC (Oe d c (x:= .ref t) rfl ?_);show M0 _ _ (if(M6 t==NK)=MH then _ else _) _ _ _;rw[MS (show ¬((M6 t==NK)=MH)from MT)];show M0 _ _ (WA (.ref D) 1>>=_) _ _ _;refine MC (Oe d c (x:= .int i 0) rfl ?_);show M0 _ _ (seqItems? (.ref t)>>=_) _ _ _;refine MC (OP f g ?_);simp only[Oh,j];refine MC (Ps d c (by simp) (MF ⟨b[i],rfl,MF (q _ _ s.toks j ⟨?_,?_⟩ (Os ..))⟩))
  .exact⟨_,Oy _ d (Qf (Oi c _)),(TM ..).trans G,by rw[Oi c];simp[Qn]⟩
  .exact⟨n,(Os ..).extBut _ _ M f,by assumption,K,g⟩
 done:=λs Q E st u=>by
  obtain⟨o,d,G,c⟩:=id st.1;obtain⟨n,f,_,K,g⟩:=st.2;have j:b[b.size]?=ME:=by simp
  unfold OL;refine MC (wpAny_callSpecial?_slot (name:=N9 "__next__") st.1.typeIs Qt (NQ Qt st.1.typeIs UQ ?_ (UC _)));show M0 _ _ (WA (.ref D) 0>>=_) _ _ _;refine MC (Oe d c (x:= .ref t) rfl ?_);show M0 _ _ (if(M6 t==NK)=MH then _ else _) _ _ _;rw[MS (show ¬((M6 t==NK)=MH)from MT)];show M0 _ _ (WA (.ref D) 1>>=_) _ _ _;refine MC (Oe d c (x:= .int b.size 0) rfl ?_);show M0 _ _ (seqItems? (.ref t)>>=_) _ _ _;refine MC (OP f g ?_);simp only[Oh,j];refine MC (QB (MC (Ps d c (by simp) ?_)));show M0 _ _ (WN (.type "StopIteration") []>>=_) _ _ _;refine MC ?_;simp only[WN,newTuple];refine MC (Oj ?_ (by size_fits));refine MC (m:=Q9 _ _) (QA (a:=NK) (by first|rfl|(simp only[Q9];rfl)) ?_);refine Oj ?_ (by size_fits)
  simp only[raiseNew];refine MC (Wd ?_)
  first|rw[show A.in1.handled=ME from l]|rw[l];skip
  refine MC (MF (wpAny_throw ?_));exact u _ _ (((Os ..).extBut.push _).push _) ⟨_,M7 _ rfl,rfl⟩
structure Ap (z TI TO i1 i2:MK) (f1 f2:a0n):Prop where
 a1:TI≠z
 a2:TO≠z
 a3:i1≠z
 a4:i2≠z
 a5:TI≠TO
 a6:TI≠i1
 a7:TI≠i2
 a8:TO≠i1
 a9:TO≠i2
 b1:i1≠i2
 c1:z∉f1
 c2:TO∉f1
 c3:i2∉f1
 d1:z∉f2
 d2:TO∉f2
 d3:i1∉f2
 m1:i1∈f1
 m2:i2∈f2
end
section
variable{prog:Ny}{w:NC}{A:NX}{E:a0e}{s:MQ}
theorem cI{s:MK}{f:a0n}{h w:NS}(a:Nx s h w)(n:s∉f):∀b∈f,∀o,h.get? b=My o->w.get? b=My o:=λb c o e=>a.extBut b o (λq=>n (q▸c)) e
theorem zk{z TI TO r t:MK}{f1 f2:a0n}{u B k:Nat}{P1 P2:Nat->MO->Prop}{W X:Nat->NS->Prop}{a b:MO}{Q:a0e}(L:UP prog w A r f1 u P1 W)(N:UP prog w A t f2 B P2 X)(d:Ap z TI TO r t f1 f2)
  (P:Sn s.heap z TI TO .none) (eI:P5 s.heap TI (.ref r) (.ref t)) (eO:P5 s.heap TO a b) (s1:W k s.heap) (s2:X k s.heap) (k1:k<u) (k2:k<B)
  (hQ:∀D tk x y,P1 k x->P2 k y->Sn D z TI TO (Qn s.heap.objs.size)->P5 D TO x y->W (k+1) D->X (k+1) D->P5 D s.heap.objs.size x y->D.objs.size=s.heap.objs.size+1->(∀c o,c≠z->c≠TO->c≠r->c≠t->s.heap.get? c=My o->D.get? c=My o)->Q (.ref s.heap.objs.size) {s with heap:=D,toks:=tk}):
  M0 (Nj prog w) A (Builtin.«zip.__next__» ⟨[.ref z],[]⟩) (λZ s'=>∃v,Z= .done (.ret v)/\Q v s') E s:=by
 obtain⟨G,gg,dd,af,os⟩:=s;show M0 _ _ (WA (.ref z) 2>>=_) _ _ _;refine MC (Oe P rfl (x:= .bool ML) rfl ?_);show M0 _ _ (WA (.ref z) 3>>=_) _ _ _;refine MC (Oe P rfl (x:= .ref TI) rfl ?_);refine MC (OP eI rfl ?_);show M0 _ _ (OV (.ref z)>>=_) _ _ _;refine MC ?_;unfold OV;refine MC (Oe P rfl (x:= .none) rfl (MF ?_));simp only[NN];refine MC (QB ?_);refine MC (Oe P rfl (x:= .ref TO) rfl ?_);refine MC (Ou P (by simp) λK C g=>?_)
 replace C:Sn K z TI TO .ellipsis:=C
 replace g:Nx z G K:=g
 refine MC ?_;simp only[List.zipIdx_cons,List.zipIdx_nil,P9,Ql];refine MC (MC (SE ?_));show M0 _ _ (OL (.ref r)>>=_) _ _ _;refine MC (L.item k _ _ _ k1 (L.frame _ _ _ s1 (cI g d.c1)) λx M ag px S h=>MF ?_)
 replace h:Nx r K M:=h
 have R:P5 M TO a b:=h.extBut _ _ d.a8 (g.extBut _ _ d.a2 eO);refine MC (OP R rfl ?_);refine MC (Tt R λV F i=>?_)
 replace F:P5 V TO x b:=F
 replace i:Nx TO M V:=i
 refine MC (Tq (MF ?_));refine MC (MC (SE ?_));show M0 _ _ (OL (.ref t)>>=_) _ _ _;refine MC (N.item k _ _ _ k2 (N.frame _ _ _ (N.frame _ _ _ (N.frame _ _ _ s2 (cI g d.d1)) (cI h d.d3)) (cI i d.d2)) λy g4 ah py aa j=>MF ?_)
 replace j:Nx t V g4:=j
 have T:P5 g4 TO x b:=j.extBut _ _ d.a9 F;refine MC (OP T rfl ?_);refine MC (Tt T λf m l=>?_)
 replace m:P5 f TO x y:=m
 replace l:Nx TO g4 f:=l
 refine MC (Tq (MF (MF ?_)));refine MC (OP m rfl ?_);refine MC (Ts ?_);have zs:f.objs.size=G.objs.size:=by rw[l.1,j.1,i.1,h.1,g.1]
 have U:Sn f z TI TO .ellipsis:=l.extBut _ _ d.a2.symm (j.extBut _ _ d.a4.symm (i.extBut _ _ d.a2.symm (h.extBut _ _ d.a3.symm C)));have ab:∀c o,c≠z->c≠TO->c≠r->c≠t->G.get? c=My o->f.get? c=My o:=λc o u B n3 n4 e=>l.extBut _ _ B (j.extBut _ _ n4 (i.extBut _ _ B (h.extBut _ _ n3 (g.extBut _ _ u e))));have ac:W (k+1) f:=L.frame _ _ _ (L.frame _ _ _ (L.frame _ _ _ S (cI i d.c2)) (cI j d.c3)) (cI l d.c2);have ad:X (k+1) f:=N.frame _ _ _ aa (cI l d.d2);have zl:z<f.objs.size:=Nl U;show M0 _ _ (RB (.ref z) (.ref f.objs.size)>>=_) _ _ _;refine MC ?_;unfold RB;have ae:Sn (f.push {cls:= .type "tuple",data:= .seq #[x,y]}) z TI TO .ellipsis:=MG _ U;refine MC (Ou ae (by simp) λg7 H I=>?_)
 replace H:Sn g7 z TI TO (Qn f.objs.size):=H
 refine Ou H (by simp) λO p J=>?_
 replace p:Sn O z TI TO (Qn f.objs.size):=p
 have Y:∀c o,c≠z->f.get? c=My o->O.get? c=My o:=λc o n e=>J.extBut _ _ n (I.extBut _ _ n (MG _ e));have eT:P5 O f.objs.size x y:=J.extBut _ _ (Pe zl) (I.extBut _ _ (Pe zl) (M7 _ rfl));have z8:O.objs.size=f.objs.size+1:=by rw[J.1,I.1,Og]
 rw[zs]at p eT z8;refine MF ⟨_,rfl,?_⟩;show Q (.ref f.objs.size) ⟨O,gg,dd,_,os⟩;rw[zs];exact hQ O _ x y px py p (Y _ _ d.a2 m) (L.frame _ _ _ ac λb hb o e=>Y b o (λq=>d.c1 (q▸hb)) e) (N.frame _ _ _ ad λb hb o e=>Y b o (λq=>d.d1 (q▸hb)) e) eT z8 λc o u B n3 n4 e=>Y c o u (ab c o u B n3 n4 e)
theorem DS{z TI TO n r:MK}{f1 f2:a0n}(H:UP prog w A n f1 m P1 S1)(I:UP prog w A r f2 R P2 S2)(i:Ap z TI TO n r f1 f2)
  (u:Sn s.heap z TI TO .none) (X:P5 s.heap TI (.ref n) (.ref r)) (Y:P5 s.heap TO a b) (T:S1 k s.heap) (Z:S2 k s.heap) (D:k=m\/(k<m/\k=R))
  (U:∀G e K,(∀c o,c≠z->c≠TO->c≠n->c≠r->s.heap.get? c=My o->G.get? c=My o)->(∃o,G.get? e=My o/\o.cls= .type "StopIteration")->E (.ref e) {s with heap:=G,toks:=K}):
  M0 (Nj prog w) A (Builtin.«zip.__next__» ⟨[.ref z],[]⟩) Q E s:=by
 obtain⟨M,gg,dd,S,os⟩:=s;show M0 _ _ (WA (.ref z) 2>>=_) _ _ _;refine MC (Oe u rfl (x:= .bool ML) rfl ?_);show M0 _ _ (WA (.ref z) 3>>=_) _ _ _;refine MC (Oe u rfl (x:= .ref TI) rfl ?_);refine MC (OP X rfl ?_);show M0 _ _ (OV (.ref z)>>=_) _ _ _;refine MC ?_;unfold OV;refine MC (Oe u rfl (x:= .none) rfl (MF ?_));simp only[NN];refine MC (QB ?_);refine MC (Oe u rfl (x:= .ref TO) rfl ?_);refine MC (Ou u (by simp) λJ j f=>?_)
 replace j:Sn J z TI TO .ellipsis:=j
 replace f:Nx z M J:=f
 refine MC ?_;simp only[List.zipIdx_cons,List.zipIdx_nil,P9,Ql];refine MC (MC (SE ?_));show M0 _ _ (OL (.ref n)>>=_) _ _ _;rcases D with rfl|⟨D,rfl⟩
 .refine MC (H.done _ _ _ (H.frame _ _ _ T (cI f i.c1)) λt e d N=>?_)
  replace d:T0 n J t:=d
  obtain⟨O,h,v⟩:=N;have y:Sn t z TI TO .ellipsis:=d _ _ i.a3.symm j;have p:e≠z:=λq=>by subst q;rw[y]at h;cases h;simp at v
  exact Ou y (by simp) λL _ g=>U L e _ (λc o m _ P _ q=>g.extBut _ _ m (d _ _ P (f.extBut _ _ m q))) ⟨O,g.extBut _ _ p h,v⟩
 .refine MC (H.item k _ _ _ D (H.frame _ _ _ T (cI f i.c1)) λx t V px aa d=>MF ?_)
  replace d:Nx n J t:=d
  have B:P5 t TO a b:=d.extBut _ _ i.a8 (f.extBut _ _ i.a2 Y);refine MC (OP B rfl ?_);refine MC (Tt B λL ab g=>?_)
  replace g:Nx TO t L:=g
  refine MC (Tq (MF ?_));refine MC (MC (SE ?_));show M0 _ _ (OL (.ref r)>>=_) _ _ _;refine MC (I.done _ _ _ (I.frame _ _ _ (I.frame _ _ _ (I.frame _ _ _ Z (cI f i.d1)) (cI d i.d3)) (cI g i.d2)) λW e l N=>?_)
  replace l:T0 r L W:=l
  obtain⟨O,h,v⟩:=N;have C:Sn W z TI TO .ellipsis:=l _ _ i.a4.symm (g.extBut _ _ i.a2.symm (d.extBut _ _ i.a3.symm j));have p:e≠z:=λq=>by subst q;rw[C]at h;cases h;simp at v
  exact Ou C (by simp) λg5 _ F=>U g5 e _ (λc o m R P n4 q=>F.extBut _ _ m (l _ _ n4 (g.extBut _ _ R (d.extBut _ _ P (f.extBut _ _ m q))))) ⟨O,F.extBut _ _ p h,v⟩
theorem zj{z TI TO e f:MK}{f1 f2:a0n}(i:∀d:NX,d.handled=A.handled->UP prog w d e f1 J P1 S1)(j:∀d:NX,d.handled=A.handled->UP prog w d f f2 n2 P2 S2)(l:Ap z TI TO e f f1 f2)
  (h:Sn s.heap z TI TO .none) (m:P5 s.heap TI (.ref e) (.ref f)) (n:P5 s.heap TO a b) (p:S1 k s.heap) (q:S2 k s.heap) (K:k<J) (M:k<n2)
  (r:∀D g x y,P1 k x->P2 k y->Sn D z TI TO (Qn s.heap.objs.size)->P5 D TO x y->S1 (k+1) D->S2 (k+1) D->P5 D s.heap.objs.size x y->D.objs.size=s.heap.objs.size+1->(∀c o,c≠z->c≠TO->c≠e->c≠f->s.heap.get? c=My o->D.get? c=My o)->Q (My (.ref s.heap.objs.size)) {s with heap:=D,toks:=g}):
  M0 (Nj prog w) A (Ra (.ref z)) Q E s:=by
 have G:s.TypeIs (.ref z) "zip":=⟨_,h,rfl⟩;unfold Ra;exact MC (QT (wpAny_callSpecial?_slot (name:=N9 "__next__") G SO (NQ SO G F.entry_zip_next (zk (i _ rfl) (j _ rfl) l h m n p q K M λD g x y S V t u v B C H I=>MF (r D g x y S V t u v B C H I)) (F.args_zip_next_1 _))))
theorem DR{z TI TO f g:MK}{f1 f2:a0n}(j:∀d:NX,d.handled=A.handled->UP prog w d f f1 x P1 S1)(l:∀d:NX,d.handled=A.handled->UP prog w d g f2 n2 P2 S2)(m:Ap z TI TO f g f1 f2)
  (h:Sn s.heap z TI TO .none) (n:P5 s.heap TI (.ref f) (.ref g)) (p:P5 s.heap TO a b) (q:S1 k s.heap) (r:S2 k s.heap) (K:k=x\/(k<x/\k=n2))
  (t:∀D i,(∀c o,c≠z->c≠TO->c≠f->c≠g->s.heap.get? c=My o->D.get? c=My o)->Q ME {s with heap:=D,toks:=i}):M0 (Nj prog w) A (Ra (.ref z)) Q E s:=by
 have G:s.TypeIs (.ref z) "zip":=⟨_,h,rfl⟩;unfold Ra;refine MC (QT (wpAny_callSpecial?_slot (name:=N9 "__next__") G SO (NQ SO G F.entry_zip_next (DS (j _ rfl) (l _ rfl) m h n p q r K λD e i u v=>?_) (F.args_zip_next_1 _))));obtain⟨o,y,B⟩:=v;refine MC (Pk (T:="StopIteration") (b:=MH) ⟨o,y,B⟩ Vw ?_);exact MF (t _ _ u)
def x_(b:Bool)(h:NS)(a:MK)(s:a0J):Prop:=if b=MH then h.IsList a s else h.IsTuple a s
noncomputable def GF(b:Bool):String:=if b=MH then "list_iterator"else "tuple_iterator"
noncomputable abbrev qA(b:Bool)(a:MK):Oa:={cls:= .type (GF b),data:= .fields #[.ref a,.int 0 0]}
def gG(b:Bool)(h:NS)(s a:MK)(k:Nat):Prop:=if b=MH then h.IsListIter s a k else h.IsTupleIter s a k
theorem x_.keep{b:Bool}{h h':NS}(x:x_ b h a c)(k:∀o,h.get? a=My o->h'.get? a=My o):x_ b h' a c:=by
 unfold x_ at x⊢;split at x
 .rename_i q;rw[MU q];exact x.at λo e=>k o e
 .rename_i q;rw[MS q]
  obtain⟨o,e,r⟩:=x;exact⟨o,k o e,r⟩
theorem qh{b:Bool}(x:x_ b s.heap a c)(h:Q (.ref s.heap.objs.size) {s with heap:=s.heap.push (qA b a)}):M0 (Nj prog w) A (Tl (.ref a)) Q E s:=by
 cases b with
 |true=>exact Sv (show s.heap.IsList a c from x) h
 |false=>exact T6 (show s.heap.IsTuple a c from x) h
theorem um(b:Bool)(c:A.handled=ME)(D a:MK)(E:a≠D)(s:a0J):UP prog w A D [D,a] s.size (λi v=>s[i]?=My v) (λi h=>gG b h D a i/\x_ b h a s):=by
 cases b with
 |true=>exact VU c D a E s
 |false=>exact Mx c D a E s
abbrev Xz(s:Bool)(h:NS)(a:MK):NS:=h.push (qA s a)
abbrev Xy(s a:Bool)(h:NS)(b c:MK):NS:=(Xz s h b).push (qA a c)
abbrev Xx(s b:Bool)(h:NS)(a c:MK):NS:=(Xy s b h a c).push {cls:= .type "tuple",data:= .seq #[.ref h.objs.size,.ref (Xz s h a).objs.size]}
abbrev Xw(s a:Bool)(h:NS)(b c:MK):NS:=(Xx s a h b c).push {cls:= .type "tuple",data:= .seq #[.none,.none]}
abbrev WT(s a:Bool)(h:NS)(b c:MK):NS:=(Xw s a h b c).push {cls:= .type "zip",data:= .fields #[.none,.bool ML,.bool ML,.ref (Xy s a h b c).objs.size,.ref (Xx s a h b c).objs.size]}
theorem yr(D c:Bool)(a b:MK)(E G:a0J):
  Meets (Builtin.«zip.__new__» ⟨[.type "zip",.ref a,.ref b],[]⟩) (λ_ R s=>x_ D s.heap a E/\x_ c s.heap b G/\R (.ok (.ret (.ref (Xw D c s.heap a b).objs.size))) {s with heap:=WT D c s.heap a b}):=
 .of_wp λprog w A R s h=>by
  obtain⟨f,g,d,i,K⟩:=s;obtain⟨k,l,q⟩:=h;have j:=sub_zip;have M:x_ D (Shared.heap ⟨f,g,d,i,K⟩) a E:=k;have S:x_ c (Shared.heap ⟨f.push (qA D a),g,d,i,K⟩) b G:=l.keep λo e=>MG _ e
  wp_walk using qh M,qh S
  exact⟨_,rfl,q⟩
theorem DB{D d:Bool}(r:x_ D s.heap y B)(t:x_ d s.heap z C)
  (h:∀G,Sn G (s.heap.objs.size+4) (s.heap.objs.size+2) (s.heap.objs.size+3) .none->P5 G (s.heap.objs.size+2) (.ref s.heap.objs.size) (.ref (s.heap.objs.size+1))->P5 G (s.heap.objs.size+3) .none .none->gG D G s.heap.objs.size y 0->gG d G (s.heap.objs.size+1) z 0->G.objs.size=s.heap.objs.size+5->(∀c o,s.heap.get? c=My o->G.get? c=My o)->Q (.ref (s.heap.objs.size+4)) {s with heap:=G}):
  M0 (Nj prog w) A (SC (.type "zip") [.ref y,.ref z]) Q E s:=by
 refine callType_new F.called_zip (by decide) (F.typeCall_zip_2 _ _) (F.newCall_zip_2 _ _) (λK=>F.args_object_init_3 K _ _) F.entry_zip_new (yr D d y z B C) ⟨r,t,?_⟩;have g:(Xz D s.heap y).objs.size=s.heap.objs.size+1:=Og ..;have i:(Xy D d s.heap y z).objs.size=s.heap.objs.size+2:=by rw[Og,g]
 have j:(Xx D d s.heap y z).objs.size=s.heap.objs.size+3:=by rw[Og,i]
 have k:(Xw D d s.heap y z).objs.size=s.heap.objs.size+4:=by rw[Og,j]
 have u:(WT D d s.heap y z).objs.size=s.heap.objs.size+5:=by rw[Og,k]
 have l:(WT D d s.heap y z).get? (Xw D d s.heap y z).objs.size=My _:=M7 _ rfl;have m:(WT D d s.heap y z).get? (Xx D d s.heap y z).objs.size=My _:=MG _ (M7 _ rfl);have n:(WT D d s.heap y z).get? (Xy D d s.heap y z).objs.size=My _:=MG _ (MG _ (M7 _ rfl));have q:(WT D d s.heap y z).get? (Xz D s.heap y).objs.size=My _:=MG _ (MG _ (MG _ (M7 _ rfl)));have v:(WT D d s.heap y z).get? s.heap.objs.size=My _:=MG _ (MG _ (MG _ (MG _ (M7 _ rfl))));show _/\_;rw[i,j,k]at l;rw[g,i]at n;rw[j]at m;rw[g]at q;rw[k];have f:∀(b:Bool) (G:NS) (p a:MK),G.get? p=My (qA b a)->gG b G p a 0:=λb G p a e=>by
  cases b with
  |true=>exact⟨_,e,rfl,rfl⟩
  |false=>exact⟨_,e,rfl,rfl⟩
 exact⟨⟨_,l,rfl⟩,h _ l n m (f _ _ _ _ v) (f _ _ _ _ q) u λc o x=>MG _ (MG _ (MG _ (MG _ (MG _ x))))⟩
def t7(b:Bool)(K:M9)(H:Hp)(a:MK)(s:a0i):Prop:=if b=MH then et K H a s else hY K H a s
noncomputable def X1(A a:Bool)(K:M9)(b c:MK):It:=
 ⟨λi H=>∃s w x y,t7 A K H b s/\t7 a K H c w/\s[i]?=My x/\w[i]?=My y,
  λi H v d=>∃p x y,H p=ME/\v= .ref p/\d=upd H p (.tup [x,y])/\∀s w,t7 A K H b s->t7 a K H c w->s[i]?=My x/\w[i]?=My y,
  λi H=>∃s w,t7 A K H b s/\t7 a K H c w/\(s.length=i\/(i<s.length/\w.length=i))⟩
variable{X:Cx}{A:a0b}{σ:St}{H:Hp}
theorem cy.src{b:Bool}(I:cy X A σ H s)(h:t7 b X.K H a c):∃w:a0f,ar c w/\x_ b s.heap a w.toArray:=by
 cases b with
 |true=>
  obtain⟨w,r,p,_⟩:=I.list (show et X.K H a c from h);exact⟨w,r,p.isList⟩
 |false=>
  obtain⟨w,r,p,_⟩:=I.tuple (show hY X.K H a c from h);exact⟨w,r,p⟩
theorem cy.src_inj{b:Bool}(I:cy X A σ H s)(h:t7 b X.K H a c)(w:t7 b X.K H a d):c=d:=by
 cases b with
 |true=>exact I.list_inj (show et X.K H a c from h) w
 |false=>exact I.tuple_inj (show hY X.K H a c from h) w
theorem gG.get{b:Bool}{h:NS}(x:gG b h f a k):∃o,h.get? f=My o/\o.cls= .type (GF b)/\∃s,o.data= .fields s:=by
 cases b with
 |true=>obtain⟨o,e,c,d⟩:=(show h.IsListIter f a k from x);exact⟨o,e,c,_,d⟩
 |false=>obtain⟨o,e,c,d⟩:=(show h.IsTupleIter f a k from x);exact⟨o,e,c,_,d⟩
theorem gG.keep{b:Bool}{h h':NS}(x:gG b h c a k)(q:∀o,h.get? c=My o->h'.get? c=My o):gG b h' c a k:=by
 cases b with
 |true=>exact(show h.IsListIter c a k from x).at λo e=>q o e
 |false=>exact(show h.IsTupleIter c a k from x).at λo e=>q o e
theorem cy.turnNew{E:NS}{t':Nat}{ch:a0n}{p:MK}{o:HO}(I:cy X A σ H s)(a:∀b∈ch,fX X A H b)(k:∀b u,b∉ch->s.heap.get? b=My u->E.get? b=My u)(d:s.heap.objs.size<=p)(G:bX X.prog X.w (upd H p o) E p o):cy X A σ (upd H p o) {s with heap:=E,toks:=t'}:=by
 have D:H p=ME:=I.hok.fresh d;have K:∀b u,H b=My u->b∉ch:=λb u e z=>by rw[(a b z).1]at e;cases e
 refine I.call' (s':={s with heap:=E,toks:=t'}) (ch:=ch) rfl ⟨λb u e _ _ hc=>k b u hc e,λb u e _ _ hc=>⟨u.slots,k b u hc e⟩,λb u e z hc=>?_,λb u e hc=>⟨u,k b u hc e⟩,λb M e=>?_,λb u M e=>?_,λb M e=>⟨#[],?_⟩⟩ (λb u e=>?_) I.bare λb f=>?_
 .rw[bt (NM (Nm (Nl e) d))];exact z
 .rw[bt (b5 e D)];exact e
 .rw[bt (b5 e D)];exact e
 .rw[bt (b5 e D),e];simp
 .by_cases z:b=p
  .subst z;rw[ao]at e;cases e;exact G
  .rw[bt z]at e
   refine(I.hok b u e).stay (λc v hc q=>k c v ?_ q) (λc q=>by rw[bt (b5 q D)];exact q) λc S q=>by rw[bt (b5 q D)];exact q
   rcases hc with rfl|hc
   .exact K _ _ e
   .exact K _ _ hc
 .obtain⟨j,f1,f2,g,h,i⟩:=a b f
  exact⟨g,f1,h,i⟩
theorem cy.turnL{w:NS}{ch:a0n}(I:cy X A σ H s)(a:∀b∈ch,fX X A H b)(k:∀b u,b∉ch->s.heap.get? b=My u->w.get? b=My u):cy X A σ H {s with heap:=w,toks:=t'}:=by
 have D:∀b u,H b=My u->b∉ch:=λb u e z=>by rw[(a b z).1]at e;cases e
 refine I.call' (s':={s with heap:=w,toks:=t'}) (ch:=ch) rfl ⟨λb u e _ _ hc=>k b u hc e,λb u e _ _ hc=>⟨u.slots,k b u hc e⟩,λb u e z hc=>z,λb u e hc=>⟨u,k b u hc e⟩,λb E e=>e,λb u E e=>e,λb E e=>⟨#[],by rw[e];simp⟩⟩ (λb u e=>?_) I.bare λb d=>?_
 .refine(I.hok b u e).stay (λc v hc q=>k c v ?_ q) (λc q=>q) λc G q=>q
  rcases hc with rfl|hc
  .exact D _ _ e
  .exact D _ _ hc
 .obtain⟨i,f1,f2,f,g,h⟩:=a b d
  exact⟨f,f1,g,h⟩
theorem cy.src_ne{b:Bool}(I:cy X A σ H s)(h:t7 b X.K H a l)(f:fX X A H c):a≠c:=by
 obtain⟨i,f1,f2,f3,j,k⟩:=f;have d:∀o,X.K.lookup a=My o->a≠c:=λo e z=>by
  have g:=I.ok.mod.kin a o e;subst z;rcases f3 with f3|f3
  .exact I.ok.noex a o g f3
  .exact Nh (Nm (Nl (I.ok.bs a o g).1) f3) (NU _)
 have w:∀u,Rd H a u->a≠c:=λu r z=>by
  subst z;rcases r with r|⟨_,r⟩<;>rw[i]at r<;>cases r
 cases b with
 |true=>
  rcases(show et X.K H a l from h)with h|⟨o,_,_,e,_⟩
  .exact w _ h
  .exact d o e
 |false=>
  rcases(show hY X.K H a l from h)with h|⟨o,_,_,e,_⟩
  .exact w _ h
  .exact d o e
theorem DZ{w:NC}{K:M9}{x1}(b1 b2:Bool)(C F z TI TO f g:MK)(nd:[z,TI,TO,f,g].Nodup):
  nw P w K (.Tuple elts x1 pos) (X1 b1 b2 K C F) [z,TI,TO,f,g] z (λi h=>Sn h z TI TO .none/\P5 h TI (.ref f) (.ref g)/\(∃a b,P5 h TO a b)/\gG b1 h f C i/\gG b2 h g F i) where
 mem:=by simp
 obj:=λi h G b j=>by
  obtain⟨p,r,⟨a,b',J⟩,L,N⟩:=G;simp only[M4,Op,QX]at j;rcases j with rfl|rfl|rfl|rfl|rfl
  .exact⟨_,p,λv q=>by cases q⟩
  .exact⟨_,r,λv q=>by cases q⟩
  .exact⟨_,J,λv q=>by cases q⟩
  .obtain⟨o,e,_,fs,d⟩:=L.get
   exact⟨o,e,λv q=>by rw[d]at q;cases q⟩
  .obtain⟨o,e,_,fs,d⟩:=N.get
   exact⟨o,e,λv q=>by rw[d]at q;cases q⟩
 keep:=λi h D G k=>by
  obtain⟨p,r,⟨a,b',J⟩,L,N⟩:=G;exact⟨k z (by simp) _ p,k TI (by simp) _ r,⟨a,b',k TO (by simp) _ J⟩,L.keep λo e=>k f (by simp) o e,N.keep λo e=>k g (by simp) o e⟩
 item:=by
  intro X hP hw hK n i A s σ H E I O G hg;subst hP hw hK;obtain⟨xs,ys,x,y,M,S,hx,hy⟩:=hg;obtain⟨p,r,⟨a,b',J⟩,L,N⟩:=G;obtain⟨l,r1,p1⟩:=cy.src I M;obtain⟨m,r2,p2⟩:=cy.src I S;have V:=I.ok.hd n;simp only[Nz,M4,Op,QX,not_or]at nd;obtain⟨⟨Y,z2,U,W⟩,⟨t1,t2,t3⟩,⟨Z,o2⟩,R,_⟩:=nd;have t:∀c∈[z,TI,TO,f,g],C≠c:=λc n=>cy.src_ne I M (O c n);have B:∀c∈[z,TI,TO,f,g],F≠c:=λc n=>cy.src_ne I S (O c n);have ap:Ap z TI TO f g [f,C] [g,F]:=⟨Ne.symm Y,Ne.symm z2,Ne.symm U,Ne.symm W,t1,t2,t3,Z,o2,R,by simp[U,(t z (by simp)).symm],by simp[Z,(t TO (by simp)).symm],by simp[Ne.symm R,(t g (by simp)).symm],by simp[W,(B z (by simp)).symm],by simp[o2,(B TO (by simp)).symm],by simp[R,(B f (by simp)).symm],by simp,by simp⟩;have k1:i<l.toArray.size:=by
   rw[Nf,<-r1.length];exact(MR.mp hx).1
  have k2:i<m.toArray.size:=by
   rw[Nf,<-r2.length];exact(MR.mp hy).1
  refine zj (λA' D=>um b1 (D.trans V) f C (t f (by simp)) l.toArray) (λA' D=>um b2 (D.trans V) g F (B g (by simp)) m.toArray) ap p r J ⟨L,p1⟩ ⟨N,p2⟩ k1 k2 λD tk u v pu pv fz fO f1 f2 fT sz kp=>?_;refine⟨_,rfl,wpAny_letOwnedTupleGo_zip (s:={s with heap:=D,toks:=tk}) fz λT aa Q=>?_⟩
  replace Q:Nx z D T:=Q
  have zT:s.heap.objs.size≠z:=Pe (Nl p);obtain⟨u',hu,ru⟩:=r1.get hx;obtain⟨v',hv,rv⟩:=r2.get hy;have eu:u=u':=by
   have:l[i]?=My u:=by simpa using pu
   rw[this]at hu;exact Np hu
  have ev:v=v':=by
   have:m[i]?=My v:=by simpa using pv
   rw[this]at hv;exact Np hv
  subst eu ev;have kk:∀b o,b∉[z,TI,TO,f,g]->s.heap.get? b=My o->T.get? b=My o:=λb o j e=>by
   simp only[M4,Op,QX,not_or]at j;exact Q.extBut b o j.1 (kp b o j.1 j.2.2.1 j.2.2.2.1 j.2.2.2.2 e)
  have I2:cy X A σ (upd H s.heap.objs.size (.tup [x,y])) {s with heap:=T,toks:=tk}:=by
   refine cy.turnNew I O kk (MW _) ⟨by show 2<=M1;decide,[u,v],.cons ru (.cons rv .nil),_,Q.extBut _ _ zT fT,rfl,_,rfl⟩
  refine⟨.ref s.heap.objs.size,_,I2,rfl,⟨s.heap.objs.size,x,y,I.hok.fresh (MW _),rfl,rfl,λas bs h1 h2=>⟨by rw[cy.src_inj I h1 M];exact hx,by rw[cy.src_inj I h2 S];exact hy⟩⟩,⟨aa,?_,⟨u,v,?_⟩,?_,?_⟩,λb j=>?_⟩
  .exact Q.extBut _ _ (Ne.symm Y) (kp TI _ (Ne.symm Y) t1 t2 t3 r)
  .exact Q.extBut _ _ (Ne.symm z2) fO
  .exact f1.1.keep λo e=>Q.extBut _ _ (Ne.symm U) e
  .exact f2.1.keep λo e=>Q.extBut _ _ (Ne.symm W) e
  .rw[bt]
   .exact(O b j).1
   .intro q
    have ol:∃o,s.heap.get? b=My o:=by
     simp only[M4,Op,QX]at j;rcases j with rfl|rfl|rfl|rfl|rfl
     .exact⟨_,p⟩
     .exact⟨_,r⟩
     .exact⟨_,J⟩
     .obtain⟨o,e,_⟩:=L.get;exact⟨o,e⟩
     .obtain⟨o,e,_⟩:=N.get;exact⟨o,e⟩
    obtain⟨o,e⟩:=ol;exact Nh (Nl e) (by rw[q];exact NU _)
 done:=by
  intro X hP hw hK n i A s σ H E I O G hg;subst hP hw hK;obtain⟨xs,ys,M,S,hl⟩:=hg;obtain⟨p,r,⟨a,b',J⟩,L,N⟩:=G;obtain⟨l,r1,p1⟩:=cy.src I M;obtain⟨m,r2,p2⟩:=cy.src I S;have V:=I.ok.hd n;simp only[Nz,M4,Op,QX,not_or]at nd;obtain⟨⟨Y,z2,U,W⟩,⟨t1,t2,t3⟩,⟨Z,o2⟩,R,_⟩:=nd;have t:∀c∈[z,TI,TO,f,g],C≠c:=λc n=>cy.src_ne I M (O c n);have B:∀c∈[z,TI,TO,f,g],F≠c:=λc n=>cy.src_ne I S (O c n);have ap:Ap z TI TO f g [f,C] [g,F]:=⟨Ne.symm Y,Ne.symm z2,Ne.symm U,Ne.symm W,t1,t2,t3,Z,o2,R,by simp[U,(t z (by simp)).symm],by simp[Z,(t TO (by simp)).symm],by simp[Ne.symm R,(t g (by simp)).symm],by simp[W,(B z (by simp)).symm],by simp[o2,(B TO (by simp)).symm],by simp[R,(B f (by simp)).symm],by simp,by simp⟩;have g1:l.toArray.size=xs.length:=by rw[Nf,<-r1.length]
  have g2:m.toArray.size=ys.length:=by rw[Nf,<-r2.length]
  refine DR (λA' D=>um b1 (D.trans V) f C (t f (by simp)) l.toArray) (λA' D=>um b2 (D.trans V) g F (B g (by simp)) m.toArray) ap p r J ⟨L,p1⟩ ⟨N,p2⟩ ?_ λD tk kp=>⟨rfl,cy.turnL I O λb o j e=>?_⟩
  .rw[g1,g2]
   rcases hl with hl|⟨h1,h2⟩
   .exact .inl hl.symm
   .exact .inr ⟨h1,h2.symm⟩
  .simp only[M4,Op,QX,not_or]at j
   exact kp b o j.1 j.2.2.1 j.2.2.2.1 j.2.2.2.2 e
 self:=λ_ _ _ _ _ G h=>wpAny_pyIter_zip G.1 h
end
section
variable{X:Cx}{E:a0r}{K:M9}
def iZp(K:M9)(d:TA):TI:=λe H R=>d e H λG D=>∃E c a b M S,G=[.ref a,.ref b]/\t7 E K D a M/\t7 c K D b S/\R (X1 E c K a b) D
theorem Jy{x1}(y:Gl X "zip")(S:X.mg "zip"=ME)(V:PA X [a,b] ta)(U:MY [a,b] X.env=[(ML,NW a X.env),(ML,NW b X.env)]:=by rfl)(g:MY [b] X.env=[(ML,NW b X.env)]:=by rfl):
  PI X (.Tuple z x1 T) (.Call (.Name "zip" p) [a,b] [] x) (iZp X.K ta):=by
 intro f s n H R I h;refine Call_ (f9 I y S Boot.«zip» (Ot (d5 (V x f s n H _ I h) λus d ⟨vs,E,i,W,D⟩=>?_) (by rw[U,g]) (by rw[g];rfl)));obtain⟨G,o,t,u,xs,ys,e,D,Y,q⟩:=D;subst e;cases W with
 |cons r k=>
  cases k with
  |cons A k=>
   cases k;cases r;cases A;obtain⟨B,P,C⟩:=cy.src i D;obtain⟨F,Q,J⟩:=cy.src i Y;refine DB C J λM v L N l m sz Z=>?_;refine wpAny_pyIter_zip (s:={d with heap:=M}) v ?_;have O:cy X f n E {d with heap:=M}:=i.kept (t':=d.toks) Z;refine⟨_,[d.heap.objs.size+4,d.heap.objs.size+2,d.heap.objs.size+3,d.heap.objs.size,d.heap.objs.size+1],_,X1 G o X.K t u,E,rfl,O,DZ G o t u (d.heap.objs.size+4) (d.heap.objs.size+2) (d.heap.objs.size+3) d.heap.objs.size (d.heap.objs.size+1) (by simp),⟨v,L,⟨_,_,N⟩,l,m⟩,λc w=>?_,q⟩;have j:d.heap.objs.size<=c:=by
    simp only[M4,Op,QX]at w;rcases w with rfl|rfl|rfl|rfl|rfl
    .exact PU _ _
    .exact PU _ _
    .exact PU _ _
    .exact MW _
    .exact PU _ _
   exact i.fpOk j (i.hok.fresh j)
noncomputable def eV:a0d->a0d->a0d
 |x::xs,y::ys=> .tup [x,y]::eV xs ys
 |_,_=>[]
theorem ut:∀(D E:a0d),(eV D E).length=Rx D.length E.length
 |[],E=>by simp[eV]
 |x::D,[]=>by simp[eV]
 |x::D,y::E=>by
  show(eV D E).length+1=_;rw[ut D E,M5,M5];lia
theorem uu:∀{E G:a0d} {i:Nat} {d:D},(eV E G)[i]?=My d->∃x y,E[i]?=My x/\G[i]?=My y/\d= .tup [x,y]
 |[],G,i,d,h=>by simp[eV]at h
 |x::E,[],i,d,h=>by simp[eV]at h
 |x::E,y::G,0,d,h=>by
  simp[eV]at h;exact⟨x,y,rfl,rfl,h.symm⟩
 |x::E,y::G,i+1,d,h=>by
  have K:(eV E G)[i]?=My d:=by simpa[eV]using h
  obtain⟨a,b,c,e,f⟩:=uu K;exact⟨a,b,by simpa using c,by simpa using e,f⟩
def DT:a0d->a0z
 |[a,b]=>(ge a).bind λD=>(ge b).map λE=>eV D E
 |_=>ME
theorem c4.sqS(h:c4 K F H d v)(e:ge d=My k):∃b a,v= .ref a/\∀f c,Tr F H f c->∃D,t7 b K c a D/\bb K f c k D:=by
 cases d<;>first
  |(cases e;obtain⟨a,D,rfl,_⟩:=c4.sqL h;refine⟨MH,a,rfl,λf c t=>?_⟩;obtain⟨j,E,g,G,i⟩:=c4.sqL (c4.tr t _ _ h);cases g;exact⟨E,G,i⟩)
  |(cases e;obtain⟨a,D,rfl,_⟩:=c4.sqT h;refine⟨ML,a,rfl,λf c t=>?_⟩;obtain⟨j,E,g,G,i⟩:=c4.sqT (c4.tr t _ _ h);cases g;exact⟨E,G,i⟩)
  |cases e
theorem HW{G h:Bool}(o:∀b a,Tr F H b a->∃D,t7 G K a L D/\bb K b a N D)(q:∀b a,Tr F H b a->∃D,t7 h K a O D/\bb K b a P D):vu K (X1 G h K L O) F H (eV N P):=λb a V t fr i=>by
 obtain⟨D,c,M⟩:=o b a t;obtain⟨E,e,S⟩:=q b a t;refine⟨λd X=>?_,λr=>?_⟩
 .obtain⟨x,y,f,g,rfl⟩:=uu X
  obtain⟨u,j,s⟩:=M.get f;obtain⟨v,k,w⟩:=S.get g;refine⟨⟨D,E,u,v,c,e,j,k⟩,λz C A=>?_⟩;obtain⟨p,I,J,l,rfl,rfl,B⟩:=A;obtain⟨m,n⟩:=B D E c e;rw[j]at m;rw[k]at n;cases m;cases n;exact⟨bS.upd l,c4.newT fr l (bb.cons s (bb.cons w bb.nil))⟩
 .rw[ut]at r
  have f:=M.length;have g:=S.length;refine⟨D,E,c,e,?_⟩;rw[<-f,<-g];lia
def yo(g:FL):FL:=cK DT g
theorem uc{W}(n:Gl X "zip")(S:X.mg "zip"=ME)(V:PA X [a,b] (i0 X.K g E))(z:MY [a,b] X.env=[(ML,NW a X.env),(ML,NW b X.env)]:=by rfl)(f:MY [b] X.env=[(ML,NW b X.env)]:=by rfl):
  PI X (.Tuple s W x) (.Call (.Name "zip" p) [a,b] [] Y) (iV X.K (yo g) E):=
 (Jy n S V z f).imp λI H R i=>ko i λF L N fr o h=>⟨F,L,N,fr,o,(run.bind (R:=bb X.K F) h).mono λZ D i=>by
  obtain⟨ds,O,t,P,Q⟩:=i;obtain⟨l,e,k⟩:=run.ofO Q;unfold DT at e;split at e
  .rename_i c d
   obtain⟨v,J,rfl,q,r⟩:=bb.two P;cases G:ge c with
   |none=>rw[G]at e;cases e
   |some xs=>
    cases M:ge d with
    |none=>rw[G,M]at e;cases e
    |some ys=>
     rw[G,M]at e;cases e;obtain⟨T,u,rfl,j⟩:=c4.sqS q G;obtain⟨w,y,rfl,m⟩:=c4.sqS r M;obtain⟨U,A,_⟩:=j F D (Tr.refl F D);obtain⟨B,C,_⟩:=m F D (Tr.refl F D);exact⟨T,w,u,y,U,B,rfl,A,C,k _ D (To.refl t.fr) (HW j m)⟩
  .cases e⟩
def jV(K:M9)(f:Dn->M Unit)(c:Nat)(E:a0r):TJ:=λa H n Q=>n+c<=M1/\∃F D G,Fr F H G/\ix K F H D a/\run (λ_ (_:Unit) (m:Nat)=>m<=n+c) F E a (f D) H Q G
theorem _root_.L2.PJ.imp{X:Cx}(h:PJ X e t)(f:∀a H n Q,g a H n Q->t a H n Q):PJ X e g:=λb s a H D Q I c d=>h b s a H D Q I c (f a H _ _ d)
def Md:Dn->M Unit:=λ_=>M.ret ()
def yF(f:FD)(g:Dn->M Unit):Dn->M Unit:=λD=>M.bind (f D) λd=>match d with
 | .int i=>if i.natAbs.log2<1920 then g D else M.fail
 |_=>M.fail
variable{s:List Expr}
theorem yG:PJ X [] (jV X.K Md 0 E):=Jw.imp λb H n Q a=>by obtain⟨_,F,s,D,fr,c,r⟩:=a;exact run.ret fr r (MW _)
theorem nF{x:NA}(h:PJ X s (jV X.K g c E))(b:Qy (.Constant (.str x) j p::s) X.env=NW (.Constant (.str x) j p) X.env::Qy s X.env:=by rfl):PJ X (.Constant (.str x) j p::s) (jV X.K g (x.length+c) E):=
 (Jv h b).imp λl H n Q d=>by
  obtain⟨o,F,D,G,fr,f,r,a,e,k⟩:=d;exact⟨by lia,by lia,F,D,G,fr,f,r,a,e,by
   cases r with
   |ok u=>exact λm i t M=>k m i t (by lia)
   |error C=>exact k⟩
theorem ub(l:PE X v (tV X.K f E))(h:PJ X s (jV X.K g c E))(o:Qy (.FormattedValue v (-1) ME p::s) X.env=NW (.FormattedValue v (-1) ME p) X.env::Qy s X.env:=by rfl):PJ X (.FormattedValue v (-1) ME p::s) (jV X.K (yF f g) (1921+c) E):=
 (Jx l h o).imp λI H n Q ⟨J,F,M,S,fr,j,r⟩=>⟨F,M,S,fr,j,(run.bind (R:=c4 X.K F) r).mono λv z w=>by
  obtain⟨d,G,t,V,D⟩:=w;cases d with
  |int i=>
   by_cases q:i.natAbs.log2<1920
   .simp only[MU q]at D
    refine⟨i,V,q,by lia,λm L=>⟨by lia,F,M,G,t.fr,j.tr (t.tr fr),?_⟩⟩;obtain⟨b,a,e,k⟩:=D;refine⟨b,a,e,?_⟩;cases b with
    |ok u=>exact λy A x B=>k y A x (by lia)
    |error C=>exact k
   .simp only[MS q]at D
    obtain⟨b,a,e,k⟩:=D;cases e
  |_=>obtain⟨b,a,e,k⟩:=D;cases e⟩
def yX(f:Dn->M Unit):FD:=λs=>M.bind (f s) λ_=>M.ret .txt
theorem uw(h:PJ X (v1::v2::rest) (jV X.K f c E))(e:c<=M1):PE X (.JoinedStr (v1::v2::rest) j) (tV X.K (yX f) E):=
 (Hz h).imp λg H Q a=>ko a λF s D fr b r=>⟨by lia,F,s,D,fr,b,(run.bind (R:=λ_ (_:Unit) (m:Nat)=>m<=0+c) r).mono λm S a=>oa a λd G t V M=>⟨by lia,λz i=>run.ret t.fr M ⟨z,rfl⟩⟩⟩
def xX(C:MK)(n:Nat):Sp:=λD H Q _=>∃(x:MK) (s:a0i),D= .ref x::s/\s.length=n/\H x=My (eL C x ME)/\
 ∀(E:a0B) (a:Hp),a x=My (eL C x E)->(∀b o,H b=My o->b≠x->a b=My o)->Q .non a
noncomputable def qK(C:MK)(f:FL):G:=λs D=>match f (fc s) D with
 |some (.ok _,β1)=>My (.ex C s,β1)
 |some (.error C',β1)=>My (.ex C' s,β1)
 |none=>ME
end
section
variable{P:Ny}{w:NC}{K:M9}{X:a0j}{W:NS}{N:a0h}{U:NA}{z:Scope}{f:MK}{Y:MO}{A:NX}{T:a0C}{s:MQ}{H:Hp}{E:XK}
theorem m9(V:XC K C)(hn:∀G M r c,g G M=My (.ok r,c)->r.length=n)(v:n<=M1)
  (h:PS (dz (fh P w) P w K X W N U z f Y A T s H E) (.Raise (My e) ME Z) (zE H K E (IN C (xX C n) [] E' (i0 K g (λ_=>E))))):
  PS (dz (fh P w) P w K X W N U z f Y A T s H E) (.Raise (My e) ME Z) (tG K H (qK C g) (λ_=>E)):=h.imp λD y H1 F=>by
 obtain⟨B,bg,G,M,o,c,ok,e,q⟩:=F;refine⟨l_ B bg,fc G,M,ok.frA,ok.viewA,?_⟩;unfold qK at e;split at e
 .rename_i ds β1 d
  cases e;refine⟨.ok ds,_,d,λS I t hd=>?_⟩;obtain⟨a,i⟩:=ok.to rfl t;have m:S.length=n:=by rw[<-hd.length];exact hn _ _ _ _ d
  refine⟨by rw[m];exact v,λx p=>⟨x,S++[],rfl,by rw[NJ];exact m,ao,λdx j J L=>⟨rfl,x,C,dx,rfl,J,?_,V,?_⟩⟩⟩
  .cases O:H x with
   |none=>rfl
   |some o=>exact Nh p (a.cov x (by rw[O];simp))
  .have sm:∀b o,I b=My o->gq j x b=My o:=λb o u=>by
    have k:b≠x:=b5 u p;rw[jc k];exact L b o (by rw[bt k];exact u) k
   obtain⟨l,Q⟩:=a.to rfl (a.fr.same sm);exact q y B _ (i.trans Q) l
 .rename_i R β1 d
  cases e;refine⟨.error R,_,d,λj t=>?_⟩;obtain⟨a,i⟩:=ok.to rfl t;exact q _ B j i a
 .cases e
end
section
variable{X:Cx}{E:a0r}{K:M9}
abbrev Gh:=MK->G
noncomputable def Xa:Gh:=λ_ _ _=>ME
noncomputable def lh(K:M9)(a:MK)(g:G)(r:Gh):Gh:=λC D E=>match Vu K (.ref C) (.ref a)with
 |some MH=>g D E
 |some ML=>r C D E
 |none=>ME
def tH(K:M9)(D:Hp)(g:Gh)(E:a0r):MK->TS:=λC=>tG K D (g C) E
theorem _root_.L2.PHd.imp{X:Cx}(h:PHd X d t)(f:∀C D a H,e C D a H->t C D a H):PHd X d e:=λb a G H c s E x C D I F q=>h b a G H c s E x C D I F (f C D a H q)
theorem ug:PHd X [] (tH X.K X.H₀ Xa E):=Hv.imp λC D c H a=>by obtain⟨B,G,M,S,o,b,ok,e,q⟩:=a;cases e
theorem qG(b:Gl X cn)(V:X.mg cn=My (.ref Dc))(h:∀A,PSs (X.inA A) (b0::suite) (tG X.K X.H₀ g E))(c:PHd X rest (tH X.K X.H₀ r E))(i:b0c cn:=by decide):
  PHd X (.ExceptHandler (My (.Name cn np)) ME (b0::suite) j::rest) (tH X.K X.H₀ (lh X.K Dc g r) E):=(EH b V h c i).imp λC D f H d=>by
 obtain⟨B,G,M,S,o,a,ok,e,q⟩:=d;unfold lh at e;split at e
 .rename_i eq
  exact⟨MH,eq,by rw[MU rfl];exact⟨B,G,M,S,o,a,ok,e,q⟩⟩
 .rename_i eq
  exact⟨ML,eq,by rw[MS MT];exact⟨B,G,M,S,o,a,ok,e,q⟩⟩
 .cases e
noncomputable def jz(g:G)(h:Gh):G:=λD E=>match g D E with
 |some (.ex C δ1,β1)=>h C δ1 β1
 |r=>r
theorem tQ(c:X.stack=X.env::X.outer)(d:X.env.frame=My X.env.locals)
  (k:∀(j:a0r) (M:a0b) (S:a0e),cc (fh X.prog X.w) (X.inTry M S) j->PSs (X.inTry M S) body (tG X.K X.H₀ g j)) (l:PHd X (h0::F) (tH X.K X.H₀ h E)):PS X (.Try body (h0::F) [] [] I) (tG X.K X.H₀ (jz g h) E):=(Jr c d k l).imp λD y H m=>by
 obtain⟨B,G,V,x,o,a,ok,e,q⟩:=m;refine⟨λb v _ f=>∃C,v= .ref C/\tH X.K X.H₀ h E C D b f,λb C J f ⟨A,n,z⟩=>by cases n;exact z,?_⟩;unfold jz at e;split at e
 .rename_i C δ1 β1 p
  exact⟨B,G,V,x,.ex C δ1,β1,ok,p,λb t f s i=>⟨C,rfl,t,G,δ1,β1,o,a,i,e,ib.pre s q⟩⟩
 .rename_i r u
  refine⟨B,G,V,x,o,a,ok,e,?_⟩;cases o with
  |ex C δ1=>exact Nh e (u C δ1 a)
  |_=>exact q
variable{y A v:Expr}{w:List Expr}{rest:a0P}{u:Scope}{z:Ri}{B c_:a0h}{cx:a0a}{g:TG}{I:a0W}
theorem aQ:eD X [] (hW X.K (λ_=>M.ret MH) E0):=λa s b H Q I c=>by obtain⟨F,g,u,fr,d,r⟩:=c;exact uV a s b H Q I (run.ret fr r rfl)
theorem uk(a:PT X c (hW X.K t E0)):eD X [c] (hW X.K t E0):=EE a
theorem bx(c:X.calm=MH)(S:db X u B c_ cx)(d:PI X A v (iV X.K m E))
  (e:∀(G:a0m) (C:MK) (a:a0n) (s:MQ) (H:Hp),PG (aI X B u G C a s H) A g/\eD (aI X B u G C a s H) w (hW X.K n E0)/\∀D,PB (aI X B u G C a s H) y (⟨A,v,w,0⟩::rest) u z 0 D (I D))
  (f:cV X.K g l) (i:eB l) (j:∀D,j3 X.K D (I D) b) (M:∀x,NO v X.env x=OW x:=by intro _;rfl):PE X (.ListComp y (⟨A,v,w,0⟩::rest) u z) (tV X.K (eK c_.length cx m l n b) E):=
 (nh c S d e M).imp λk H Q h=>uA f i j h
theorem pU{a c:Ri}(j:X.N.Nodup)(d:X.N[i]?=My x)(k:B3 X.env.scope x)(l:X.calm=MH)(S:db X u B c_ cx)(m:PI X A v (iV X.K J E))
  (n:∀(G:a0m) (C:MK) (f:a0n) (s:MQ) (H:Hp),PG (aI X B u G C f s H) A g/\eD (aI X B u G C f s H) w (hW X.K L E0)/\∀D,PB (aI X B u G C f s H) y (⟨A,v,w,0⟩::rest) u z 0 D (I D))
  (o:cV X.K g F) (p:eB F) (q:∀D,j3 X.K D (I D) b)
  (e:Q1 (.ListComp y (⟨A,v,w,0⟩::rest) u z) (My (.Name x a)) c.line X.env=OW MH:=by rfl)
  (M:∀x,NO v X.env x=OW x:=by intro _;rfl) (r:b0d X x:=by first|exact .inl rfl|exact .inr rfl|assumption):
  PS X (.Assign [.Name x a] (.ListComp y (⟨A,v,w,0⟩::rest) u z) c) (tG X.K X.H₀ (cD i (eK c_.length cx J F L b)) E):=
 aD ((wQ j d k l S m n e M r).imp λD t H h=>uA o p q h)
noncomputable def YB:D->a0k
 | .int i=>My (.int (-i))
 |_=>ME
theorem LG:GR K (rU λi=> .int (-i)) YB:=λF H u Q g d b fr a e k=>by
 cases g<;>first|(cases e;exact⟨_,a,k _ H (To.refl fr) rfl⟩)|cases e
noncomputable def DL:D->a0u
 | .int i=>My i
 |_=>ME
noncomputable def pe(g:a0d)(u a:a0u):a0d:=(g.drop (HT.sIx g.length 0 u)).take (HT.sIx g.length g.length a-HT.sIx g.length 0 u)
def Z0:D->a0u->a0u->a0k
 | .lst xs,lo,hi=>My (.lst (pe xs lo hi))
 | .scr ns,lo,hi=>My (.lst (pe (ns.map D.int) lo hi))
 |_,_,_=>ME
def ul(f:Option (FD)):Dn->M a0u:=λu=>match f with
 |none=>M.ret ME
 |some g=>M.bind (g u) λd=>M.bind (M.ofO (DL d)) λi=>M.ret (My i)
def Zh(f:FD)(u a:Option (FD)):FD:=λg=>M.bind (f g) λd=>M.bind (ul u g) λl=>M.bind (ul a g) λh=>M.ofO (Z0 d l h)
def zh(X:Cx)(e:Option Expr)(f:Option (FD))(E:a0r):Prop:=PO X e (λc H Q=>∃F g u,Fr F H u/\ix X.K F H g c/\run (λ_ (a b:a0u)=>b=a) F E c (ul f g) H Q u)
theorem AV:zh X ME ME E:=λa s b H Q I c=>by obtain⟨F,g,u,fr,d,r⟩:=c;exact wT a s b H Q I (run.ret fr r rfl)
theorem AU(h:PE X e (tV X.K f E)):zh X (My e) (My f) E:=λa s c H Q I b=>ko b λF g u fr j r=>wS h a s c H Q I ⟨F,g,u,fr,j,(run.bind (R:=c4 X.K F) r).mono λv A b=>by
  obtain⟨d,w,t,y,z⟩:=b;obtain⟨i,e,k⟩:=run.ofO_bind z;cases d<;>first|(cases e;exact⟨_,y,run.ret t.fr k rfl⟩)|cases e⟩
theorem bb.cut(h:bb K F H b c)(g a:a0u):bb K F H (pe b g a) (mJ c g a):=by
 unfold pe mJ;rw[h.length];exact(h.drop _).take _
theorem wu{S y:Option Expr}{fl A:Option (FD)}(B:PE X e (tV X.K f E))(C:zh X S fl E)(I:zh X y A E):PE X (.Subscript e (.Slice S y ME p2) z) (tV X.K (Zh f fl A) E):=
 (uX wD B C I).imp λO H Q o=>ko o λF g V fr q r=>⟨F,g,V,fr,q,(run.bind (R:=c4 X.K F) r).mono λv Z ⟨d,D,t,s,x⟩=>
  ⟨F,g,D,t.fr,q.tr (t.tr fr),(run.bind (R:=λ_ (a b:a0u)=>b=a) x).mono λl P ⟨T,G,n,u,J⟩=>
   ⟨F,g,G,n.fr,q.tr ((t.tr fr).trans (n.tr t.fr)),(run.bind (R:=λ_ (a b:a0u)=>b=a) J).mono λh U o=>by
    obtain⟨h',W,i,w,L⟩:=o;subst u w;obtain⟨c,e,k⟩:=run.ofO L;have j:=c4.tr ((n.tr t.fr).trans (i.tr n.fr)) _ _ s;cases d<;>first
     |(cases e;obtain⟨a,Y,rfl,M,N⟩:=c4.sqL j;exact⟨a,Y,rfl,M,λp m=>k _ _ (i.fr.upd _ m) (c4.newL i.fr m (N.cut l h))⟩)
     |(cases e;obtain⟨a,rfl,M⟩:=c4.scr j;exact⟨a,_,rfl,M,λp m=>k _ _ (i.fr.upd _ m) (c4.newL i.fr m ((bb.ofInts _).cut l h))⟩)
     |cases e⟩⟩⟩
def Bg.ok(β:Bg):Prop:=β.cells≠[]/\β.cells.length<=64/\(∀c∈β.cells,0<=c)/\0<=β.j
end
noncomputable def Bg.pos(D:Bg):Nat:=(D.i % (D.cells.length:Int)).toNat
def Bg.cell(D:Bg):Int:=D.cells.getD D.pos 0
noncomputable def Bg.nxt(D:Bg):Int:=(D.j+D.cell % 2147483629+77)*48271 % 2147483629
noncomputable def jQ(E:Bg)(D:Int):Int:=if 10^18<=E.cell then E.cell % D else E.nxt/64 % D
noncomputable def kU(D:Bg)(E:Int):Bg:=if 10^18<=D.cell then⟨D.cells.set D.pos (D.cell/E),D.i,D.j⟩else⟨D.cells,D.i+1,D.nxt⟩
open Classical in
def dY:a0d->M D:=λG E=>match G with
 |[.bag,.int lot]=>if E.ok/\0<lot/\lot<1073741824 then My (Oq (D.int (jQ E lot)),kU E lot)else ME
 |_=>ME
theorem E4{D:Bg}(h:D.ok)(a:0<c)(b:c<1073741824):dY [.bag,.int c] D=My (.ok (.int (jQ D c)),kU D c):=by
 unfold dY;exact MU ⟨h,a,b⟩
theorem BG{E:Bg}(h:dY b E=My (r,a)):∃D,b=[.bag,.int D]/\E.ok/\0<D/\D<1073741824/\r= .ok (.int (jQ E D))/\a=kU E D:=by
 unfold dY at h;split at h
 .split at h
  .rename_i D q
   cases h;exact⟨D,rfl,q.1,q.2.1,q.2.2,rfl,rfl⟩
  .cases h
 .cases h
theorem Bg.ok.at{β:Bg}(h:β.ok):β.pos<β.cells.length/\β.cells[β.pos]?=My β.cell/\0<=β.cell/\β.i % (β.cells.length:Int)=(β.pos:Int):=by
 obtain⟨D,G,E,b⟩:=id h;have c:0<β.cells.length:=List.length_pos_iff.mpr D;have K:0<=β.i % (β.cells.length:Int):=Rj _ (by lia);have M:β.i % (β.cells.length:Int)<β.cells.length:=RJ _ (by lia);have a:β.pos<β.cells.length:=by unfold Bg.pos;lia
 have e:β.cell=β.cells[β.pos]:=by
  unfold Bg.cell;rw[MN,MI a];rfl
 refine⟨a,by rw[e];exact MI a,by rw[e];exact E _ (NB a),?_⟩;unfold Bg.pos;lia
theorem wM{D:Bg}(h:D.ok)(b:0<g):0<=jQ D g/\jQ D g<g/\(kU D g).ok:=by
 obtain⟨f,_,d,_⟩:=h.at;obtain⟨E,G,K,e⟩:=id h;unfold jQ kU;split
 .refine⟨Rj _ (by lia),RJ _ b,?_,by rw[NT];exact G,λc a=>?_,e⟩
  .intro z
   have:=N6 SR z;rw[NT]at this;exact E (QO.mp this)
  .rcases Oc a with a|rfl
   .exact K c a
   .exact Int.ediv_nonneg d (by lia)
 .exact⟨Rj _ (by lia),RJ _ b,E,G,K,Rj _ (by decide)⟩
section
variable{X:Cx}{E:a0r}{K:M9}{a b:Expr}{es:List Expr}{s:Ri}
theorem To.none(t:To F H H1 f)(h:H1 p=ME):H p=ME:=by
 cases q:H p with
 |none=>rfl
 |some o=>
  have:H1 p=My o:=t.kp p o q λb l e=>by
   obtain⟨c,d⟩:=t.fr.bag b l e;exact⟨λw=>(by subst w;rw[c]at h;cases h),λw=>(by subst w;rw[d]at h;cases h)⟩
  rw[this]at h;cases h
noncomputable def Fx.but(F:Fx)(a:MK):Fx:=⟨λc=>F.A c\/c=a,F.bg⟩
theorem Fx.tr_but{F:Fx}(fr:Fr F H g)(d:H p=ME)(a:∀c o,H c=My o->H1 c=My o):Tr F H (F.but p) H1:=⟨λc e f z=>by
 rcases z with z|z
 .exact e z
 .subst z;exact f d,λc o _ h=>a c o h,rfl⟩
theorem Fx.tr_of{F:Fx}:Tr (F.but p) H F H:=⟨λc h _ z=>h (OC z),λ_ _ _ h=>h,rfl⟩
def gb(K:M9)(F:Fx)(s H:Hp)(D:a0d)(v:V):Prop:=∃a b,v= .ref a/\s a=ME/\H a=My (.lst b)/\bb K (F.but a) H D b
def P_(K:M9)(f:FL)(E:a0r):TE:=λc H Q=>∃F a b,Fr F H b/\ix K F H a c/\run (gb K F H) F E c (f a) H Q b
def Xi(K:M9)(f:Dn->M a0o)(E:a0r):TE:=λc H Q=>∃F a b,Fr F H b/\ix K F H a c/\run (iA K F H) F E c (f a) H Q b
noncomputable def XD(ds:a0d):a0z:=if ds.length<=M1 then My ds else ME
def yk(a:a0d->a0z)(g:FL):FL:=λb=>M.bind (g b) λs=>M.ofO (a s)
theorem gb.new(t:To F H H1 f)(d:H1 p=ME)(a:bb K F H1 g e):gb K F H (upd H1 p (.lst e)) g (.ref p):=
 ⟨p,e,rfl,t.none d,ao,bb.tr (Fx.tr_but t.fr d λc o h=>by rw[bt (b5 h d)];exact h) _ _ a⟩
def GQ(K:M9)(r:a0F)(G:a0d->a0z):Prop:=∀(F:Fx) (a H:Hp) (b:Bg) (Q:VK) (s D:a0d) (E:a0i),To F a H b->bb K F H s E->G s=My D->
 (∀v c,To F H c b->gb K F a c D v->Q v c)->r E H Q
theorem ER(i:dP X (.type T) r)(l:GQ X.K r op)(j:Gl X x)(b:X.mg x=ME)(m:Qh x=My (.type T))(D:PA X (e::es) (i0 X.K g E))(G:x≠"__name__":=by decide)(c:b0c x:=by decide)
  (n:b0a X e es:=by rfl) (d:b0b X s es:=by rfl):PE X (.Call (.Name x p) (e::es) [] s) (P_ X.K (yk op g) E):=
 (sI i j b m D G c n d).imp λu H Q f=>ko f λF M S fr o h=>⟨F,M,S,fr,o,(run.bind (R:=bb X.K F) h).mono λV v f=>by
  obtain⟨w,a,t,y,z⟩:=f;obtain⟨A,q,k⟩:=run.ofO z;exact l F H v a Q w A V t y q k⟩
def tY:a0d->a0z
 |[.lst xs]=>My xs
 |[.tup xs]=>My xs
 |_=>ME
theorem HN:GQ K (λb H Q=>∃p s,b=[.ref p]/\(et K H p s\/hY K H p s)/\∀l,H l=ME->Q (.ref l) (upd H l (.lst s))) tY:=λF D H E Q G M S t h e k=>by
 unfold tY at e;split at e
 .cases e
  obtain⟨v,rfl,g⟩:=bb.one h;obtain⟨a,b,rfl,r,d⟩:=c4.sqL g;exact⟨a,b,rfl,.inl r,λl c=>k _ _ (t.fr.upd _ c) (gb.new t c d)⟩
 .cases e
  obtain⟨v,rfl,g⟩:=bb.one h;obtain⟨a,b,rfl,r,d⟩:=c4.sqT g;exact⟨a,b,rfl,.inr r,λl c=>k _ _ (t.fr.upd _ c) (gb.new t c d)⟩
 .cases e
theorem bb.rep(h:bb K F H c d):∀n:Nat,bb K F H (Nd n c).flatten (Nd n d).flatten
 |0=>rfl
 |n+1=>by
  rw[Ox,Pt,Ox,Pt];exact bb.append h (bb.rep h n)
noncomputable def uS(a:a0d)(d:D):a0z:=match d with
 | .int k=>if(decide (-(2^63)<=k)&&decide (k<2^63)&&decide (a.length<=M1)&&decide (a.length*k.toNat<=M1))=MH then My (Nd k.toNat a).flatten else ME
 |_=>ME
def yj(g:FL)(f:FD):FL:=λb=>M.bind (g b) λa=>M.bind (M.ofO (XD a)) λa=>M.bind (f b) λd=>M.ofO (uS a d)
theorem Gq(ha:PA X es (i0 X.K g E))(O:PE X b (tV X.K f E)):PE X (.BinOp (.List es pos') .Mult b s) (P_ X.K (yj g f) E):=
 (dX JI (gz ha) O).imp λP H Q j=>ko j λF G β fr B r=>⟨F,G,β,fr,B,(run.bind (R:=bb X.K F) r).mono λD H1 j=>by
  obtain⟨ds,a,t,S,r1⟩:=j;obtain⟨T,n,U⟩:=run.ofO_bind r1;unfold XD at n;split at n
  .rename_i W
   cases n;refine⟨by rw[<-S.length];exact W,λp I=>?_⟩;have m:=t.fr.upd (.lst D) I;have J:=t.fr.fresh I;refine⟨F,G,a,m.fr,(B.tr (t.tr fr)).tr (m.tr t.fr),?_⟩;obtain⟨L,V,e,h⟩:=U;have u:run (gb X.K F H) F E P (M.bind (f G) λd=>M.ofO (uS ds d)) (upd H1 p (.lst D)) Q a:=by
    refine⟨L,V,e,?_⟩;cases L with
    |ok d=>exact λv y c=>h v y (m.trans c)
    |error C=>exact λy c=>h y (m.trans c)
   refine(run.bind (R:=c4 X.K F) u).mono λw Y j=>oa j λd aa c Z r3=>?_;obtain⟨os,i,k⟩:=run.ofO r3;unfold uS at i;split at i
   .split at i
    .rename_i kk o
     cases i;simp only[No,Nv]at o;cases Z;have A:Y p=My (.lst D):=c.kp p _ ao λb l q=>⟨λz=>J (z▸(fr.bgA b l q).1),λz=>J (z▸(fr.bgA b l q).2.1)⟩;have x:=m.trans c;exact⟨p,_,D,rfl,rfl,A,o.1.1.1,o.1.1.2,by rw[<-S.length];exact o.2,λq N=>k _ _ (c.fr.upd _ N) (gb.new (t.trans x) N ((bb.tr (x.tr t.fr) _ _ S).rep _))⟩
    .cases i
   .cases i
  .cases n⟩
def iq(nv:Nat)(cx:a0a)(it:Dn->M (List Pu.D))(tg:lI)(s:a0q)(b:Dn->M (List Pu.D)):Dn->M (List Pu.D):=λa E=>match it a E with
 |none=>ME
 |some (.error C,β1)=>My (.error C,β1)
 |some (.ok ds,β1)=>match m_ tg s b ds (lb nv cx a) β1 with
  |some (.ok os,β2)=>if os.length<=M1 then My (.ok os,β2)else ME
  |_=>ME
theorem zF{S:a0h}{V:a0a}{X:Dn->M (List Pu.D)}{g:TG}{G:lI}{tt:a0q}{B:a0W}{b:Dn->M (List Pu.D)}(P:cV K g G)(T:eB G)(U:∀D,j3 K D (B D) b){I:St}{H:Hp}{Q:VK}(h:P_ K (iq S.length V X G tt b) E I H Q):
  pM S V (iV K X E) (λD J=>dB J g (hW K tt E0) (B D)) I H Q:=by
 obtain⟨F,δ,β,fr,L,r,j,e,h⟩:=h;unfold iq at e;refine⟨F,δ,β,fr,L,?_⟩;split at e
 .cases e
 .rename_i C β1 q
  cases e;exact⟨.error C,_,q,h⟩
 .rename_i ds β1 q
  split at e
  .rename_i os β2 q2
   split at e
   .rename_i W
    cases e;refine⟨.ok ds,β1,q,λJ s t Y D c=>?_⟩;have d:¬F.A D:=t.fr.fresh c;have Z:∀b l,F.bg=My (b,l)->D≠b/\D≠l:=λb l z=>⟨λw=>d (w▸(fr.bgA b l z).1),λw=>d (w▸(fr.bgA b l z).2.1)⟩;have N:=t.fr.upd (.lst []) c;have k:Fr ⟨λa=>F.A a\/a=D,F.bg⟩ (upd s D (.lst [])) β1:=by
     refine⟨λa ha z=>?_,λb l z=>let ⟨x,y,w⟩:=fr.bgA b l z;⟨.inl x,.inl y,w⟩,N.fr.bag⟩
     rcases ha with ha|ha
     .exact N.fr.occ a ha z
     .subst ha;rw[ao]at z;cases z
    have f:Tr F s ⟨λa=>F.A a\/a=D,F.bg⟩ (upd s D (.lst [])):=⟨λa ha hs z=>by
     rcases z with z|z
     .exact ha z
     .subst z;exact hs c,λa o ha z=>by rw[bt (b5 z c)];exact z,rfl⟩
    refine nC (R:=RL K) (D:=D) (as:=[]) (os:=os) P T (U D) k (.inr rfl) Z (qQ (L.tr ((t.tr fr).trans f))) ⟨[],ao,rfl⟩ (Y.tr f) q2 (show os.length<=M1 from W) λaa O m ab p=>?_;obtain⟨i,u,v⟩:=p;have tf:To F s O j:=by
     refine⟨λa o z n=>m.kp a o (by rw[bt (b5 z c)];exact z) (b5 z c) n,λa ha z=>m.fr.occ a (OC ha) z,fr.bgA,m.fr.bag⟩
    exact h _ O (t.trans tf) ⟨D,i,rfl,t.none c,u,v⟩
   .cases e
  .cases e
def pk(s:lI)(E:a0q)(b:Dn->M (List (List Pu.D))):List Pu.D->Dn->M (List (List Pu.D))
 |[],_=>M.ret []
 |d::ds,δ=>match s d δ with
  |none=>M.fail
  |some a=>M.bind (E a) λc=>M.bind (if c=MH then b a else M.ret []) λo=>M.bind (pk s E b ds δ) λG=>M.ret (o++G)
def G_(K:M9)(F:Fx)(D:MK)(s H:Hp)(E:List (List Pu.D))(a:a0i):Prop:=(∀c,s c≠ME->H c≠ME)/\∃b,a=b.map V.ref/\(D::b).Nodup/\aR K F H (λr=>s r=ME) E b
theorem G_.mono{F:Fx}{D:MK}(g:F.A D)(i:∀b l,F.bg=My (b,l)->H0 b≠ME/\H0 l≠ME)(fr:Fr F H β)(t:l9 F D H H1 u)(h:G_ K F D H0 H as n):G_ K F D H0 H1 as n:=by
 obtain⟨cv,E,e,a,j⟩:=h;refine⟨λc k z=>?_,E,e,a,aR.tr (t.tr fr g) j λr G m p q=>⟨p,t.kp r _ q (λz=>?_) λb l w=>⟨λz=>?_,λz=>?_⟩⟩⟩
 .cases q:H c with
  |none=>exact cv c k q
  |some o=>
   by_cases s:c=D
   .subst s;exact t.fr.occ _ g z
   .by_cases d:∃b l,F.bg=My (b,l)/\(c=b\/c=l)
    .obtain⟨b,l,w,f⟩:=d
     rcases f with rfl|rfl
     .exact t.fr.occ _ (fr.bgA _ _ w).1 z
     .exact t.fr.occ _ (fr.bgA _ _ w).2.1 z
    .rw[t.kp c o q s λb l w=>⟨λy=>d ⟨b,l,w,.inl y⟩,λy=>d ⟨b,l,w,.inr y⟩⟩]at z
     cases z
 .subst z;exact(Nz.mp a).1 m
 .subst z;exact(i _ _ w).1 p
 .subst z;exact(i _ _ w).2 p
def qT(K:M9)(D:MK)(h:TB)(f:Dn->M (List (List Pu.D))):Prop:=∀(F:Fx) (E H:Hp) (G:Dn) (X d:Bg) (g:St) (a:a0i) (S V:List (List Pu.D)) (Q:a0E),Fr F H X->F.A D->(∀b l,F.bg=My (b,l)->D≠b/\D≠l)->(∀b l,F.bg=My (b,l)->E b≠ME/\E l≠ME)->ix K F H G g->H D=My (.lst a)->G_ K F D E H S a->
 f G X=My (.ok V,d)->S.length+V.length<=M1->(∀e s c,l9 F D H s d->ix K F s G e->s D=My (.lst c)->G_ K F D E s (S++V) c->Q e s)->h g H Q
def pp(f:Dn->M (List Pu.D)):Dn->M (List (List Pu.D)):=λa=>M.bind (f a) λd=>M.ret [d]
theorem aR.snoc(p:P r)(c:H r=My (.lst e))(d:bb K F H f e):∀{a:List (List Pu.D)} {b:a0n},aR K F H P a b->aR K F H P (a++[f]) (b++[r])
 |[],[],_=>⟨p,⟨e,c,d⟩,trivial⟩
 |_::_,_::_,h=>⟨h.1,h.2.1,aR.snoc p c d h.2.2⟩
 |[],_::_,h=>h.elim
 |_::_,[],h=>h.elim
theorem rq{D:MK}:qT K D (ze D (P_ K f E0)) (pp f):=λF E H δ β j W s as os Q fr m p P R T G e Y k=>by
 obtain⟨d,aa,Z,e2⟩:=M.bind_inv e;cases e2;refine⟨F,δ,β,fr,R,E0.run Z λv S t hv=>?_⟩;have u:=t.kp D _ T p;have w:=G.mono m P fr (t.toD D);obtain⟨r,xs,rfl,g,n1,n2⟩:=hv;obtain⟨cv,X,A,nd,U⟩:=w;obtain⟨B,c,C,I,J⟩:=G;have i:s.length=as.length:=by rw[A,MD,U.len]
 have L:c=X:=by
  have:c.map V.ref=X.map V.ref:=C.symm.trans A;exact Tg (λa b q=>by cases q;rfl)|>.mp this
 subst L;have nD:r≠D:=λz=>by subst z;rw[T]at g;cases g
 have nr:r∉c:=λz=>by
  obtain⟨_,ys,q⟩:=J.all r z;rw[q]at g;cases g
 have N:E r=ME:=by
  cases q:E r with
  |none=>rfl
  |some o=>exact Nh g (B r (by rw[q];simp))
 refine⟨s,u,by rw[i];simp at Y;lia,?_⟩;have O:l9 F D S (upd S D (.lst (s++[.ref r]))) j:=by
  refine⟨λa o h n _=>by rw[bt n];exact h,λa h q=>?_,fr.bgA,λb l q=>?_⟩
  .by_cases z:a=D
   .subst z;rw[ao]at q;cases q
   .rw[bt z]at q;exact t.fr.occ a h q
  .rw[bt (p b l q).1.symm,bt (p b l q).2.symm]
   exact t.fr.bag b l q
 have tt:=O.tr t.fr m;refine k W _ _ ((t.toD D).trans O) (R.tr ((t.tr fr).trans tt)) ao (G_.mono m P t.fr O ⟨cv,c++[r],by rw[A,NH];rfl,?_,aR.snoc N n1 (bb.tr Fx.tr_of _ _ n2) U⟩);rw[<-Qq,TF];refine⟨I,by simp,λx hx y hy=>?_⟩;obtain rfl:y=r:=by simpa using hy
 rcases M4.mp hx with rfl|hx
 .exact nD.symm
 .exact λz=>nr (z▸hx)
end
section
variable{X:Cx}{E:a0r}{K:M9}
theorem HM{D:MK}(hg:cV K g tg)(sg:eB tg)(hb:qT K D tb b){F:Fx}{as os:List (List Pu.D)}(fr:Fr F H β)(U:F.A D)(hn:∀b l,F.bg=My (b,l)->D≠b/\D≠l)(h0:∀b l,F.bg=My (b,l)->H0 b≠ME/\H0 l≠ME)(vk:ix K F H z σ)(hD:H D=My (.lst acc))(hd:G_ K F D H0 H as acc)
  (it:vu K J F H s) (e:pk tg tt b s z β=My (.ok os,β')) (hz:as.length+os.length<=M1) (k:∀f E a,l9 F D H E β'->ix K F E z f->E D=My (.lst a)->G_ K F D H0 E (as++os) a->Q f E):dB J g (hW K tt E0) tb σ H Q:=by
 refine⟨λi m f E=>m+i=s.length/\∃G a j r,l9 F D H E G/\ix K F E z f/\E D=My (.lst a)/\G_ K F D H0 E j a/\pk tg tt b (s.drop i) z G=My (.ok r,β')/\j++r=as++os,
  ⟨s.length,by lia,β,acc,as,os,⟨λ_ _ h _ _=>h,fr⟩,vk,hD,hd,e,rfl⟩,?_⟩
 rintro i m f E ⟨hm,G,a,j,r,t,w,y,B,p,ea⟩;have aa:=t.tr fr U;obtain⟨iy,is⟩:=it F E G aa t.fr i;cases W:s[i]? with
 |none=>
  have Y:s.length<=i:=RP.mp W;rw[OT Y]at p;cases p;refine .inl ⟨is (by lia),k f E a t w y ?_⟩;rw[<-ea,NJ];exact B
 |some d=>
  have Y:i<s.length:=(MR.mp W).1;obtain⟨go,yl⟩:=iy d W;have ed:s.drop i=d::s.drop (i+1):=by
   rw[NR Y];congr 1;exact Np ((MI Y).symm.trans W)
  rw[ed]at p;unfold pk at p;cases q:tg d z with
  |none=>rw[q]at p;cases p
  |some S=>
   rw[q]at p;obtain⟨c,X,e2,e3⟩:=M.bind_inv p;obtain⟨o,V,Z,e5⟩:=M.bind_inv e3;obtain⟨C,ai,e6,e7⟩:=M.bind_inv e5;cases e7;obtain⟨s1,s2⟩:=sg _ _ _ q;refine .inr ⟨go,λI L=>∃n,l9 F D H L V/\ix K F L z I/\L D=My (.lst n)/\G_ K F D H0 L (j++o) n,?_,λx H2 hy=>?_⟩
   .rintro I L ⟨n,t9,vk9,hD9,hd9⟩
    exact⟨m-1,by lia,by lia,V,n,j++o,C,t9,vk9,hD9,hd9,e6,by rw[N4];exact ea⟩
   .obtain⟨sm,dx⟩:=yl x H2 hy
    have v:To F E H2 G:=t.fr.same sm;have ab:=v.tr t.fr;refine hg F H2 z S f d x _ (w.tr ab) dx q λac u=>⟨F,S,G,v.fr,u,E0.run e2 λc' H3 N ec=>?_⟩;subst ec;have ad:=sm _ _ y;have O:=N.kp D _ ad hn;have P:=N.tr v.fr;have d3:=(B.mono U h0 t.fr (v.toD D)).mono U h0 v.fr (N.toD D);have R:l9 F D H H3 X:=t.trans ((v.trans N).toD D);have ae:j.length+(o++C).length<=M1:=by
     have:=N6 SR ea;simp only[Nb]at this⊢;lia
    cases c' with
    |true=>
     rw[MU rfl]at Z⊢;refine hb F H0 H3 S X V ac a j o _ N.fr U hn h0 (u.tr P) O d3 Z (by rw[Nb]at ae;lia) λaj H4 T t4 af ag ah=>?_;exact⟨T,R.trans t4,af.sub s1 s2,ag,ah⟩
    |false=>
     rw[MS MT]at Z⊢;cases Z;exact⟨a,R,(u.tr P).sub s1 s2,O,by rw[NJ];exact d3⟩
def gD(G:Nat)(K:a0a)(S:Dn->M (List Pu.D))(V:lI)(X:a0q)(b:Dn->M (List (List Pu.D))):Dn->M (List (List Pu.D)):=λE a=>match S E a with
 |none=>ME
 |some (.error C,β1)=>My (.error C,β1)
 |some (.ok ds,β1)=>match pk V X b ds (lb G K E) β1 with
  |some (.ok os,β2)=>if os.length<=M1 then My (.ok os,β2)else ME
  |_=>ME
theorem se{V:a0h}{X:a0a}{s:Dn->M (List Pu.D)}{g:TG}{S:lI}{tt:a0q}{B:a0W}{b:Dn->M (List (List Pu.D))}(R:cV K g S)(T:eB S)(U:∀D,qT K D (B D) b){I:St}{H:Hp}{Q:VK}(h:Xi K (gD V.length X s S tt b) E I H Q):
  pM V X (iV K s E) (λD J=>dB J g (hW K tt E0) (B D)) I H Q:=by
 obtain⟨F,δ,β,fr,L,r,j,e,h⟩:=h;unfold gD at e;refine⟨F,δ,β,fr,L,?_⟩;split at e
 .cases e
 .rename_i C β1 q
  cases e;exact⟨.error C,_,q,h⟩
 .rename_i ds β1 q
  split at e
  .rename_i os β2 q2
   split at e
   .rename_i W
    cases e;refine⟨.ok ds,β1,q,λJ G t Y D d=>?_⟩;have f:¬F.A D:=t.fr.fresh d;have Z:∀b l,F.bg=My (b,l)->D≠b/\D≠l:=λb l z=>⟨λw=>f (w▸(fr.bgA b l z).1),λw=>f (w▸(fr.bgA b l z).2.1)⟩;have N:=t.fr.upd (.lst []) d;have k:Fr ⟨λa=>F.A a\/a=D,F.bg⟩ (upd G D (.lst [])) β1:=by
     refine⟨λa ha z=>?_,λb l z=>let ⟨x,y,w⟩:=fr.bgA b l z;⟨.inl x,.inl y,w⟩,N.fr.bag⟩
     rcases ha with ha|ha
     .exact N.fr.occ a ha z
     .subst ha;rw[ao]at z;cases z
    have i:Tr F G ⟨λa=>F.A a\/a=D,F.bg⟩ (upd G D (.lst [])):=⟨λa ha hs z=>by
     rcases z with z|z
     .exact ha z
     .subst z;exact hs d,λa o ha z=>by rw[bt (b5 z d)];exact z,rfl⟩
    have cv:∀c,H c≠ME->upd G D (.lst []) c≠ME:=λc hc z=>by
     by_cases w:c=D
     .subst w;rw[ao]at z;cases z
     .rw[bt w]at z;exact hc (t.none z)
    refine HM (D:=D) (H0:=H) (as:=[]) (os:=os) R T (U D) k (.inr rfl) Z (λb l z=>⟨fr.occ _ (fr.bgA b l z).1,fr.occ _ (fr.bgA b l z).2.1⟩) (qQ (L.tr ((t.tr fr).trans i))) ao ⟨cv,[],rfl,by simp,trivial⟩ (Y.tr i) q2 (by simpa using W) λaa O P m ab u v=>?_;have tf:To F G O j:=by
     refine⟨λa o z n=>m.kp a o (by rw[bt (b5 z d)];exact z) (b5 z d) n,λa ha z=>m.fr.occ a (OC ha) z,fr.bgA,m.fr.bag⟩
    obtain⟨_,rs,ea,nd,rl⟩:=v;subst ea;exact h _ O (t.trans tf) ⟨D,rs,rfl,t.none d,u,nd,aR.tr (F:=⟨λa=>F.A a\/a=D,F.bg⟩) ⟨λa ha _ z=>ha (OC z),λa o _ z=>z,rfl⟩ rl λr xs _ p q=>⟨p,q⟩⟩
   .cases e
  .cases e
section
variable{q r m:Expr}{o:List Expr}{n:a0P}{l:Scope}{p:Ri}{t w:a0h}{v:a0a}{g:TG}{u:a0W}
theorem JR(c:X.calm=MH)(S:db X l t w v)(d:PI X r m (iV X.K z E))
  (e:∀(G:a0m) (C:MK) (a:a0n) (s:MQ) (H:Hp),PG (aI X t l G C a s H) r g/\eD (aI X t l G C a s H) o (hW X.K A E0)/\∀D,PB (aI X t l G C a s H) q (⟨r,m,o,0⟩::n) l p 0 D (u D))
  (f:cV X.K g y) (i:eB y) (j:∀D,j3 X.K D (u D) b) (M:∀x,NO m X.env x=OW x:=by intro _;rfl):PE X (.ListComp q (⟨r,m,o,0⟩::n) l p) (P_ X.K (iq w.length v z y A b) E):=
 (nh c S d e M).imp λk H Q h=>zF f i j h
theorem CI(c:X.calm=MH)(S:db X l t w v)(d:PI X r m (iV X.K z E))
  (e:∀(G:a0m) (C:MK) (a:a0n) (s:MQ) (H:Hp),PG (aI X t l G C a s H) r g/\eD (aI X t l G C a s H) o (hW X.K A E0)/\∀D,PB (aI X t l G C a s H) q (⟨r,m,o,0⟩::n) l p 0 D (u D))
  (f:cV X.K g y) (i:eB y) (j:∀D,qT X.K D (u D) b) (M:∀x,NO m X.env x=OW x:=by intro _;rfl):PE X (.ListComp q (⟨r,m,o,0⟩::n) l p) (Xi X.K (gD w.length v z y A b) E):=
 (nh c S d e M).imp λk H Q h=>se f i j h
end
mutual
noncomputable def noL:D->Bool
 | .int _=>MH
 | .bl _=>MH
 | .str _=>MH
 | .non=>MH
 | .tup ds=>noLs ds
 |_=>ML
noncomputable def noLs:a0d->Bool
 |[]=>MH
 |d::ds=>noL d&&noLs ds
end
mutual
theorem w5{F b:Fx}(hF:∀c,b.A c->F.A c\/A_ H c):∀(d:D) (v:V),noL d=MH->c4 K F H d v->c4 K b H d v
 | .int i,v,_,h=>h
 | .bl i,v,_,h=>h
 | .str i,v,_,h=>h
 | .non,v,_,h=>h
 | .tup ds,v,n,h=>by
  obtain⟨a,E,e,h1,f⟩:=h;refine⟨a,E,e,?_,noLs_den hF ds E (by simpa[noL]using n) f⟩;rcases h1 with⟨h1,r⟩|h1
  .refine .inl ⟨λz=>?_,r⟩
   rcases hF a z with z|⟨G,z⟩|⟨G,z⟩
   .exact h1 z
   .rcases r with r|⟨o,r⟩<;>rw[z]at r<;>cases r
   .rcases r with r|⟨o,r⟩<;>rw[z]at r<;>cases r
  .exact .inr h1
 | .lst _,_,n,_=>by simp[noL]at n
 | .scr _,_,n,_=>by simp[noL]at n
 | .ty _,_,n,_=>by simp[noL]at n
 | .txt,_,n,_=>by simp[noL]at n
 | .obj _ _ _,_,n,_=>by simp[noL]at n
 | .bag,_,n,_=>by simp[noL]at n
 | .adr _,_,n,_=>by simp[noL]at n
 | .dct _ _ _,_,n,_=>by simp[noL]at n
theorem noLs_den{F a:Fx}(hF:∀c,a.A c->F.A c\/A_ H c):∀(D:a0d) (E:a0i),noLs D=MH->bb K F H D E->bb K a H D E
 |[],E,_,h=>h
 |d::D,E,n,h=>by
  have b:noL d=MH/\noLs D=MH:=by simpa[noLs]using n
  obtain⟨x,f,e,g,i⟩:=h;exact⟨x,f,e,w5 hF d x b.1 g,noLs_den hF D f b.2 i⟩
end
theorem aR.noL{F b:Fx}(hF:∀c,b.A c->F.A c\/A_ H c):∀{D:a0o} {E:a0n},(∀ds∈D,noLs ds=MH)->aR K F H P D E->(∀r∈E,P2 r)->aR K b H P2 D E
 |[],[],_,_,_=>trivial
 |ds::D,r::E,n,h,p=>by
  obtain⟨g,⟨G,d,e⟩,f⟩:=h;exact⟨p r MP,⟨G,d,noLs_den hF _ _ (n ds MP) e⟩,aR.noL hF (λx a=>n x (MJ _ a)) f λx a=>p x (MJ _ a)⟩
 |[],_::_,_,h,_=>h.elim
 |_::_,[],_,h,_=>h.elim
theorem eo.newGrd{E:Ds}{d:St}(M:eo K H₀ B l H E q d)(t:To (ee B l) H H' m)(S:∀V∈n,noLs V=MH)(h:iA K (ee B l) H H' n v):
  ∃e,eo K H₀ e l H' (E.set i (My (.grd n))) m (d.set i (My v))/\hU B H e H':=by
 obtain⟨a,D,rfl,j,f,o,b⟩:=h;have g:∀c,c=a\/c∈D->H c=ME/\A_ H' c:=λc hc=>by
  rcases hc with rfl|hc
  .exact⟨j,.inl ⟨_,f⟩⟩
  .exact⟨(b.all c hc).1,.inl (b.all c hc).2⟩
 exact M.claim (λc=>c=a\/c∈D) t g λG p _=>⟨a,D,rfl,G a (.inl rfl),f,o,aR.noL (F:=ee B l) (λc hc=>(p c hc).imp id λw=>(g c w).2) S b λr k=>G r (.inr k)⟩
end
section
variable{X:Cx}{E:a0r}{K:M9}{st:N3}{L:Hp}{B:Ow}{J:a0s}{H H':Hp}{δ:Ds}{β aa:Bg}{Z:St}
def rF(i:Nat)(f:Dn->M a0o):G:=λδ β=>match f (vw δ) β with
 |some (.ok a_,β1)=>if(a_.all noLs)=MH then My (.nx (δ.set i (My (.grd a_))),β1)else ME
 |some (.error C,β1)=>My (.ex C δ,β1)
 |none=>ME
theorem x8(h:PS X st (iC (Xi X.K f E) (fQ i))):PS X st (tG X.K X.H₀ (rF i f) E):=h.imp λD Z H g=>by
 obtain⟨B,J,δ,β,o,aa,ok,e,q⟩:=g;refine⟨ee B J,vw δ,β,ok.fr,ok.view,?_⟩;unfold rF at e;split at e
 .rename_i a_ β1 b
  split at e
  .rename_i hn
   cases e;refine⟨.ok a_,_,b,λv H' t G=>?_⟩;obtain⟨j,a,c⟩:=ok.newGrd (i:=i) t (λL d=>OR.mp hn L d) G;exact q _ _ _ c a
  .cases e
 .rename_i C β1 b
  cases e;refine⟨.error C,_,b,λH' t=>?_⟩;obtain⟨a,c⟩:=ok.to rfl t;exact q _ B H' c a
 .cases e
theorem aR.put{H:Hp}(t:Tr F H F (upd H r (.lst k)))(E:bb K F (upd H r (.lst k)) ds k):∀{a_:a0o} {B:a0n} (j:Nat),aR K F H P a_ B->B.Nodup->B[j]?=My r->aR K F (upd H r (.lst k)) P (a_.set j ds) B
 |d0::a_,r0::B,0,h,nd,e=>by
  obtain rfl:r0=r:=by simpa using e
  have D:∀a∈B,a≠r0:=λa b z=>(Nz.mp nd).1 (z▸b);exact⟨h.1,⟨k,ao,E⟩,aR.tr t h.2.2 λa G b p q=>⟨p,by rw[bt (D a b)];exact q⟩⟩
 |d0::a_,r0::B,j+1,h,nd,e=>by
  have c:B[j]?=My r:=by simpa using e
  obtain⟨d,⟨G,f,g⟩,i⟩:=h;have D:r0≠r:=λz=>(Nz.mp nd).1 (z▸M2 c);exact⟨d,⟨G,by rw[bt D];exact f,bb.tr t _ _ g⟩,aR.put t E j i (Nz.mp nd).2 c⟩
 |[],[],_,_,_,e=>by simp at e
 |[],_::_,_,h,_,_=>h.elim
 |_::_,[],_,h,_,_=>h.elim
theorem aR.at{H:Hp}:∀{a_:a0o} {rs:a0n} {j:Nat} {ds:a0d},aR K F H P a_ rs->a_[j]?=My ds->∃r xs,rs[j]?=My r/\P r/\H r=My (.lst xs)/\bb K F H ds xs
 |d0::a_,r0::rs,0,ds,h,e=>by
  obtain rfl:d0=ds:=by simpa using e
  obtain⟨a,⟨B,b,c⟩,g⟩:=h;exact⟨r0,B,rfl,a,b,c⟩
 |d0::a_,r0::rs,j+1,ds,h,e=>by
  obtain⟨r,xs,d,f⟩:=aR.at h.2.2 (j:=j) (ds:=ds) (by simpa using e);exact⟨r,xs,by simpa using d,f⟩
 |[],[],_,_,_,e=>by simp at e
 |[],_::_,_,_,h,_=>h.elim
 |_::_,[],_,_,h,_=>h.elim
theorem eo.writeRow{E:a0n}{X:a0o}(D:eo K L B J H δ β Z)(x:Z[i]?=My (My (.ref a)))(hB:B a=My (i+2))(G:H a=My (.lst (E.map V.ref)))(M:(a::E).Nodup)(u:aR K (ee B J) H (λr=>B r=My (i+2)) X E)(w:E[j]?=My r)(I:H r=My (.lst O))(N:bb K (ee B J) H ds xs):
  eo K L B J (upd H r (.lst xs)) (δ.set i (My (.grd (X.set j ds)))) β Z/\hU B H B (upd H r (.lst xs)):=by
 have m:r∈E:=M2 w;have f:B r=My (i+2):=(u.all r m).1;have g:hU B H B (upd H r (.lst xs)):=by
  refine⟨λc o h n=>?_,λ_ _=>rfl,λ_ _ _ n=>n,λc p=>?_⟩
  .rw[bt]
   .exact h
   .intro z;subst z;rw[f]at n;rcases n with n|n<;>cases n
  .by_cases z:c=r
   .subst z;rw[ao];simp
   .rw[bt z];exact p
 have S:Tr (ee B J) H (ee B J) (upd H r (.lst xs)):=g.tr;refine⟨⟨⟨λc p z=>?_,D.fr.bgA,λb l e=>?_⟩,D.bgt,by rw[NT,D.len],λa G=>g.al a (D.cov a G),D.new,λc k p=>(by
  by_cases z:c=r
  .subst z;exact .inl ⟨xs,ao⟩
  .exact(D.lst c k p).imp λo y=>by rw[bt z];exact y),λk s e=>?_⟩,g⟩
 .by_cases q:c=r
  .subst q;rw[ao]at z;cases z
  .rw[bt q]at z;exact D.fr.occ c p z
 .obtain⟨b1,A⟩:=D.bgt b l e
  rw[bt (λz=>by subst z;rw[f]at b1;cases b1),bt (λz=>by subst z;rw[f]at A;cases A)];exact D.fr.bag b l e
 .rw[OB]at e
  by_cases q:i=k
  .subst q
   rw[MU rfl]at e;split at e
   .cases e
    have t:a≠r:=λz=>(Nz.mp M).1 (z▸m);exact⟨_,x,a,E,rfl,hB,by rw[bt t];exact G,M,aR.put S (bb.tr S _ _ N) j u (Nz.mp M).2 w⟩
   .cases e
  .rw[MS q]at e
   obtain⟨v,C,F⟩:=D.tell k s e;exact⟨v,C,F.tr S λc d=>⟨d,λo z=>(bt λy=>by subst y;rw[f]at d;cases d;exact q rfl).trans z⟩⟩
def kF(f:Dn->M a0o):G:=λδ β=>match f (vw δ) β with
 |some (.ok a_,β1)=>My (.rg a_,β1)
 |some (.error C,β1)=>My (.ex C δ,β1)
 |none=>ME
theorem wF(h:PS X (.Return (My e) s) (Em (Xi X.K f E))):PS X (.Return (My e) s) (tG X.K X.H₀ (kF f) E):=h.imp λD Z H j=>by
 obtain⟨B,J,δ,β,o,aa,ok,e,q⟩:=j;refine⟨ee B J,vw δ,β,ok.fr,ok.view,?_⟩;unfold kF at e;split at e
 .rename_i a_ β1 d
  cases e;refine⟨.ok a_,_,d,λv H' t G=>?_⟩;obtain⟨b,g⟩:=ok.to rfl t;have i:∀c,H c=ME->X.H₀ c=ME:=λc k=>by
   cases w:X.H₀ c with
   |none=>rfl
   |some o=>exact Nh k (ok.cov c (by rw[w];simp))
  obtain⟨a,L,rfl,l,m,M,n⟩:=G;exact q _ B H' g b.fr ⟨a,L,rfl,i a l,m,M,aR.tr (Tr.refl _ _) n λr S _ p y=>⟨i r p,y⟩⟩
 .rename_i C β1 d
  cases e;refine⟨.error C,_,d,λH' t=>?_⟩;obtain⟨b,g⟩:=ok.to rfl t;exact q _ B H' g b
 .cases e
def XF(K:M9)(n:Nat)(m:a0d->M a0o):Sp:=λB H Q E=>B.length=n/\∃F D β,Fr F H β/\bb K F H D B/\run (iA K F H) F (λ_=>E) [] (m D) H Q β
def lH(n:Nat)(g:G):a0d->M a0o:=λB β=>match g (o0 n B) β with
 |some (.rg a_,aa)=>My (.ok a_,aa)
 |some (.ex C _,aa)=>My (.error C,aa)
 |_=>ME
variable{P:Ny}{w:NC}{mg:a0j}{ab:NS}
theorem xk{st:N3}{N V:a0h}(n m:Nat)(g:G)(F:g_ K x qual st f fd)(S:b4 N V (af st))(L:V.length=n)(O:N.length=m)
  (j:∀(c:MO) (A:NX) (D:a0C) (s:MQ) (H:Hp) (E:XK),d4 k (A.deeper (QR qual (af st) s.heap.objs.size f c))->
   PSs (dz (fh P w) P w K mg ab N qual (af st) f c A D s H E) (cA st) (tG K H g (λ_=>E))):eg P w K mg ab (fh P w) (k+1) f fd V (XF K n (lH m g)):=by
 subst L O;refine F.okE S (λvs H Q E h=>h.1) λc A D s H vs Q E hr h=>?_;obtain⟨hl,u,X,β,fr,hd,r,aa,e,h⟩:=h;refine⟨_,j c A D s H E hr,?_⟩;obtain⟨B,ok,R,h1,hn⟩:=uC (N:=N) fr hd;have J:∀{I:Ow} {H':Hp},hU B H I H'->Fr (ee I u.bg) H' aa->To u H H' aa/\Tr (ee I u.bg) H' u H':=λ{I H'} s i=>by
  have hs:∀a,u.A a->I a≠ME:=λa M=>by
   rw[s.tg a (R a M)];rcases R a M with z|z<;>rw[z]<;>simp
  refine⟨⟨λa o M n=>s.kp a o M ?_,λa M=>i.occ a (hs a M),λb l e=>fr.bgA b l e,i.bag⟩,λa M _ z=>M (hs a z),λ_ _ _ h=>h,rfl⟩;cases q:B a with
  |none=>exact .inl rfl
  |some t=>
   have:=R a (hn a (by rw[q];simp));rcases this with z|z
   .rw[q]at z;exact .inr z
   .obtain⟨b,l,e,w⟩:=h1 a z
    obtain⟨T,n2⟩:=n b l e;rcases w with w|w
    .exact Nh w T
    .exact Nh w n2
 unfold lH at e;split at e
 .rename_i d β1 U
  cases e;refine⟨B,u.bg,o0 N.length X,β,.rg d,aa,ok,U,λv I H' s i hv=>?_⟩;obtain⟨W,t2⟩:=J s i;obtain⟨a,rs,ev,n0,T,nd,rl⟩:=hv;exact h v H' W ⟨a,rs,ev,n0,T,nd,aR.tr t2 rl λr xs _ p y=>⟨p,y⟩⟩
 .rename_i C Y β1 U
  cases e;refine⟨B,u.bg,o0 N.length X,β,.ex C Y,aa,ok,U,λac I H' s Z=>?_⟩;obtain⟨W,t2⟩:=J s Z.fr;exact h H' W
 .cases e
variable{e:Expr}{z:List Expr}{s p:Ri}{x:NA}{k n:Nat}{f:MK}{P:Nk}{B:a0h}
def vN(m:a0d->M a0o)(g:FL):Dn->M a0o:=λδ=>M.bind (g δ) λe=>m e
theorem iA.pre{K:M9}{H e H':Hp}(t:To F H e i)(h:iA K F e H' j v):iA K F H H' j v:=by
 obtain⟨a,f,b,c,d,k,g⟩:=h;exact⟨a,f,b,t.none c,d,k,aR.tr (Tr.refl _ _) g λr n _ p y=>⟨t.none p,y⟩⟩
theorem CJ(G:eg X.prog X.w X.K X.mg X.base (fh X.prog X.w) k f P B (XF X.K n m))(q:d4 k X.A)(u:Gl X x)(hm:X.mg x=My (.ref f))(y:Sd X.K (.ref f)=MH)(I:ci X.K P B [])(J:cc (fh X.prog X.w) X E)
  (ha:PA X (e::z) (i0 X.K g E)) (hn:∀δ β r aa,g δ β=My (.ok r,aa)->r.length=n) (a:b0c x:=by decide) (L:b0a X e z:=by rfl) (b:b0b X s z:=by rfl):
  PE X (.Call (.Name x p) (e::z) [] s) (Xi X.K (vN m g) E):=
 (nk G q u hm y I .nil J ha a L b).imp λZ H Q N=>ko N λF δ β fr O r=>⟨F,δ,β,fr,O,by
  obtain⟨S,c,h,i⟩:=run.bind (R:=bb X.K F) r;refine⟨S,c,h,?_⟩;cases S with
  |error C=>exact i
  |ok ds=>
   intro vs H1 t V;obtain⟨d',D,j,d,r1⟩:=i vs H1 t V;have T:=hn _ _ _ _ h;refine⟨by rw[NJ,<-V.length,T],F,d',D,j.fr,by rw[NJ];exact d,?_⟩;obtain⟨l,M,U,o⟩:=r1;refine⟨l,M,U,?_⟩;cases l with
   |ok a_=>exact λv H' W Y=>o v H' W (iA.pre j Y)
   |error C=>exact o⟩
end
end L2.Pu
namespace L2
end L2
namespace L2.Pu
section
variable{X:Cx}{E:a0r}{K:M9}
def oj(K:M9)(E:a0j)(x:NA)(d:D):Prop:=∃u v,E x=My u/\aN v u/\∀F H,c4 K F H d v
theorem lU(c:oj X.K X.mg x d)(a:Gl X x:=by rfl)(D:b0c x:=by decide):PE X (.Name x g) (tV X.K (fC d) E):=by
 obtain⟨u,v,b,e,f⟩:=c;exact I0 (Hy a b e D) f
mutual
noncomputable def n_:D->Option Vl
 | .non=>My .none
 | .bl b=>My (.bool b)
 | .int i=>My (.int i)
 | .str x=>My (.str x)
 | .lst xs=>(toPs xs).map PyData.list
 | .tup xs=>(toPs xs).map Si
 |_=>ME
noncomputable def toPs:a0d->Option (List Vl)
 |[]=>My []
 |x::xs=>match n_ x,toPs xs with
  |some p,My ps=>My (p::ps)
  |_,_=>ME
end
mutual
theorem kx{s:MQ}(I:cy X ba y H s):∀(d:D) (v:V) (u:MO) (p:Vl),c4 X.K F H d v->n_ d=My p->aN v u->∃G,Reads s.heap u p G
 | .non,v,u,p,h,e,r=>by cases e;cases h.non;cases r;exact⟨_,.none⟩
 | .bl b,v,u,p,h,e,r=>by cases e;cases h.bl;cases r;exact⟨_,.bool b⟩
 | .int i,v,u,p,h,e,r=>by cases e;cases h.int;obtain⟨t,rfl⟩:=r;exact⟨_,.int i t⟩
 | .str x,v,u,p,h,e,r=>by cases e;cases h.str;obtain⟨t,rfl⟩:=r;exact⟨_,.str x t⟩
 | .lst xs,v,u,p,h,e,r=>by
  unfold n_ at e;cases q:toPs xs with
  |none=>rw[q]at e;cases e
  |some M=>
   rw[q]at e;cases e;obtain⟨a,S,rfl,l,c⟩:=c4.sqL h;cases r;obtain⟨E,f,m,_⟩:=I.list l;obtain⟨G,g⟩:=reads_L I xs S E M c q f;obtain⟨o,j,k,n,w⟩:=m.isList;exact⟨_,.list j k w (by simpa using g)⟩
 | .tup xs,v,u,p,h,e,r=>by
  unfold n_ at e;cases q:toPs xs with
  |none=>rw[q]at e;cases e
  |some M=>
   rw[q]at e;cases e;obtain⟨a,S,rfl,l,c⟩:=c4.sqT h;cases r;obtain⟨E,f,m,_⟩:=I.tuple l;obtain⟨G,g⟩:=reads_L I xs S E M c q f;obtain⟨o,j,k,n,w⟩:=m;exact⟨_,.tuple j k w (by simpa using g)⟩
 | .ty _,_,_,_,_,e,_=>by cases e
 | .txt,_,_,_,_,e,_=>by cases e
 | .scr _,_,_,_,_,e,_=>by cases e
 | .obj _ _ _,_,_,_,_,e,_=>by cases e
 | .bag,_,_,_,_,e,_=>by cases e
 | .adr _,_,_,_,_,e,_=>by cases e
 | .dct _ _ _,_,_,_,_,e,_=>by cases e
theorem reads_L{s:MQ}(I:cy X ba m H s):∀(E:a0d) (D:a0i) (G:a0f) (M:List Vl),bb X.K F H E D->toPs E=My M->ar D G->∃S,ReadsAll s.heap G M S
 |[],D,G,M,h,e,r=>by
  have q:D=[]:=h;subst q;cases e;cases r;exact⟨_,.nil⟩
 |d::E,D,G,M,h,e,r=>by
  obtain⟨x,a,rfl,b,c⟩:=h;unfold toPs at e;split at e
  .rename_i p pr f g
   cases e;cases r with
   |cons V i=>
    obtain⟨S,j⟩:=kx I d x _ p b f V;obtain⟨l,k⟩:=reads_L I E a _ pr c g i;exact⟨_,.cons j k⟩
  .cases e
end
def lF(a b:D):a0S:=match n_ a,n_ b with
 |some p,My q=>if(Rq p&&Rq q)=MH then My (Q0 p q)else ME
 |_,_=>ME
def gE(a b:D):a0k:=match Xo a b with
 |some c=>My (.bl c)
 |none=>(lF a b).map D.bl
def fW(a b:D):a0k:=match Xo a b with
 |some c=>My (.bl (!c))
 |none=>(lF a b).map λc=>D.bl (!c)
def rf(X:Cx)(g:Bool->Bool):R2:=λx y H Q=>∃(F:Fx) (a b:D) (c:Bool),c4 X.K F H a x/\c4 X.K F H b y/\lF a b=My c/\Q (.bl (g c)) H
theorem sX{c:Bool}(h:lF a b=My c):∃p q,n_ a=My p/\n_ b=My q/\Rq p=MH/\Rq q=MH/\c=Q0 p q:=by
 unfold lF at h;split at h
 .rename_i p q d e
  split at h
  .rename_i hs
   rw[No]at hs;cases h;exact⟨p,q,d,e,hs.1,hs.2,rfl⟩
  .cases h
 .cases h
theorem JN(f:d4 k X.A):f0 X (Od .Eq) (rf X id):=by
 intro d s t H x y v u Q I g i h;obtain⟨F,a,b,c,D,E,e,q⟩:=h;obtain⟨p,j,l,m,n,o,rfl⟩:=sX e;obtain⟨K,G⟩:=kx I a x v p D l g;obtain⟨M,r⟩:=kx I b y u j E m i;exact eq_dataH G r n o f.units ⟨.bl _,H,I,rfl,q⟩
theorem JK(f:d4 k X.A):f0 X (Od .NotEq) (rf X not):=by
 intro d s t H x y v u Q I g i h;obtain⟨F,a,b,c,D,E,e,q⟩:=h;obtain⟨p,j,l,m,n,o,rfl⟩:=sX e;obtain⟨K,G⟩:=kx I a x v p D l g;obtain⟨M,r⟩:=kx I b y u j E m i;exact ne_dataH G r n o f.units ⟨.bl _,H,I,rfl,q⟩
theorem cR(a:d4 k X.A):f0 X (Od .Eq) (λx y H Q=>Yw x y H Q\/rf X id x y H Q):=Lw.or (JN a)
theorem eM(a:d4 k X.A):f0 X (Od .NotEq) (λx y H Q=>Yu x y H Q\/rf X not x y H Q):=Lu.or (JK a)
theorem dO:bn X.K (λx y H Q=>Yw x y H Q\/rf X id x y H Q) gE:=λF H G Q D E d h i fr a b e k=>by
 unfold gE at e;split at e
 .rename_i c q
  cases e;obtain⟨f,g⟩:=CT q a b;exact .inl ⟨f,by rw[g];exact k _ H (To.refl fr) rfl⟩
 .cases q:lF D E with
  |none=>rw[q]at e;cases e
  |some c=>rw[q]at e;cases e;exact .inr ⟨F,D,E,c,a,b,q,k _ H (To.refl fr) rfl⟩
theorem gh:bn X.K (λx y H Q=>Yu x y H Q\/rf X not x y H Q) fW:=λF H G Q D E d h i fr a b e k=>by
 unfold fW at e;split at e
 .rename_i c q
  cases e;obtain⟨f,g⟩:=CT q a b;exact .inl ⟨f,by rw[g];exact k _ H (To.refl fr) rfl⟩
 .cases q:lF D E with
  |none=>rw[q]at e;cases e
  |some c=>rw[q]at e;cases e;exact .inr ⟨F,D,E,c,a,b,q,k _ H (To.refl fr) rfl⟩
theorem Mv(i j:Int):gE (.int i) (.int j)=My (.bl (decide (i=j))):=rfl
theorem Mt(i j:Int):fW (.int i) (.int j)=My (.bl (!decide (i=j))):=rfl
theorem Mw(i j:Bool):gE (.bl i) (.bl j)=My (.bl (decide (i=j))):=rfl
theorem Mu(i j:Bool):fW (.bl i) (.bl j)=My (.bl (!decide (i=j))):=rfl
def lE(d:D):Bool:=match n_ d with
 |some p=>Rq p
 |none=>ML
theorem GB{C:a0V}{c:Int->Int->Bool}{g:a0K}(b:∀i j,c i j=MH->C i j):bn K (Xn C g) (o1 λi j=>if c i j=MH then My (.int (g i j))else ME):=λF H D Q E G d l m fr f h e k=>by
 obtain⟨i,j,rfl,rfl,a⟩:=gR e;split at a
 .cases a
  exact⟨i,j,f,h,b _ _ (by assumption),k _ H (To.refl fr) rfl⟩
 .cases a
def ZH:D->D->a0k:=o1 λi j=>My (.int (i+j))
theorem gU:bn K (XN λi j=>i+j) ZH:=λF H D Q E G d f g fr a b e k=>by
 obtain⟨i,j,rfl,rfl,c⟩:=gR e;cases c;exact⟨i,j,a,b,k _ H (To.refl fr) rfl⟩
theorem HU:bn K (XN λi j=>i-j) oQ:=λF H D Q E G d f g fr a b e k=>by
 obtain⟨i,j,rfl,rfl,c⟩:=gR e;cases c;exact⟨i,j,a,b,k _ H (To.refl fr) rfl⟩
theorem rE:Xs X .Mult (Xn ur λi j=>i*j):=by
 intro a s e H x y v u Q I b d h;obtain⟨i,j,rfl,rfl,c,q⟩:=h;obtain⟨t,rfl⟩:=b;obtain⟨D,rfl⟩:=d;exact imul_int ⟨.int _,H,I.tok _,⟨_,rfl⟩,q⟩ (VG (jZ c.1) (jZ c.2))
theorem rA:bn K (Xn ur λi j=>i*j) EW:=GB λi j h=>by
 simp only[No,ic,Nv]at h;exact h
theorem vp:bn K (Xn GS λi j=>i/j) GL:=GB λi j h=>by
 simp only[No,Nv]at h;exact h
abbrev iS:=Er
theorem DD(b:X.calm=MH):dP X (.builtin "sum") (λE H Q=>∃(a:MK) (D:a0c),E=[.ref a]/\et X.K H a (D.map V.int)/\Q (.int D.sum) H):=sY b
theorem J6:fS K (λE H Q=>∃(a:MK) (D:a0c),E=[.ref a]/\et K H a (D.map V.int)/\Q (.int D.sum) H) iS:=LE
def GT(H:Hp)(b l:MK):Prop:=∃(D:a0c) (i j:Int),H b=My (.lst [.ref l,.int i,.int j])/\H l=My (.lst (D.map V.int))/\D≠[]/\D.length<=64/\(∀c∈D,0<=c)/\0<=j
theorem nK{n k:Nat}(h:k<n):li n (k:Int)=My k:=by
 unfold li;rw[MU (by lia),MU (by lia)];simp
theorem Mz(D:a0c):∃a:a0c,mJ (D.map V.int) ME (My 63)=a.map V.int/\a.length<=63:=by
 refine⟨(D.drop (HT.sIx D.length 0 ME)).take (HT.sIx D.length D.length (My 63)-HT.sIx D.length 0 ME),?_,?_⟩
 .unfold mJ
  rw[MD,S9,Q8]
 .rw[PP]
  have:HT.sIx D.length D.length (My 63)<=63:=by
   unfold HT.sIx;simp;lia
  lia
def Lk(K:M9):Sp:=λD H Q _=>∃(a:MK) (E:a0c),D=[.ref a]/\et K H a (E.map V.int)/\∀(b l:MK) (c:Hp),H b=ME->H l=ME->GT c b l->bS H c->Q (.ref b) c
def Gf(K:M9):Sp:=λE H Q _=>∃(a:MK) (D:a0c),E=[.ref a]/\et K H a (D.map V.int)/\D.length<=63/\∀b,Q (.bl MH) b
theorem Ir(sm:bS H₀ H)(A:H₀ b=ME)(C:H₀ l=ME)(B:GT H b l):∃E,E.ok/\eo K H₀ (λc=>if c=b\/c=l then My 1 else ME) (My (b,l)) H (ME::My (.sh .bag)::Nd n ME) E (My (.ref a)::My (.ref b)::Nd n ME):=by
 obtain⟨D,i,j,g,h,p,v,w,y⟩:=B;have m:b≠l:=LB g h (by
  intro z;cases D with
  |nil=>exact p rfl
  |cons c r=>simp at z)
 refine⟨⟨D,i,j⟩,⟨p,v,w,y⟩,⟨⟨λc f=>?_,λt u e=>?_,λt u e=>?_⟩,λt u e=>?_,by simp,λc f=>?_,λc k f=>(by
  have d:(if c=b\/c=l then My 1 else ME)=My (k+2):=f;split at d<;>cases d),λc k f=>(by
  have d:(if c=b\/c=l then My 1 else ME)=My (k+2):=f;split at d<;>cases d),λk s e=>?_⟩⟩
 .have d:(if c=b\/c=l then My 1 else ME)≠(ME:a0I):=f
  split at d
  .rename_i q
   rcases q with rfl|rfl
   .rw[g];simp
   .rw[h];simp
  .exact Nh rfl d
 .cases e
  refine⟨?_,?_,m⟩
  .show(if b=b\/b=l then My 1 else ME)≠(ME:a0I)
   rw[MU (.inl rfl)];simp
  .show(if l=b\/l=l then My 1 else ME)≠(ME:a0I)
   rw[MU (.inr rfl)];simp
 .cases e
  exact⟨g,h⟩
 .cases e
  exact⟨MU (.inl rfl),MU (.inr rfl)⟩
 .cases q:H₀ c with
  |none=>exact Nh q f
  |some o=>rw[sm c o q];simp
 .match k with
  |0=>simp at e
  |1=>
   simp at e;subst e;exact⟨.ref b,rfl,b,l,rfl,rfl⟩
  |k+2=>
   simp only[UZ,O7]at e;split at e<;>cases e
variable{P:Ny}{w:NC}{mg:a0j}{base:NS}
theorem lx{M:N3}{N V:a0h}(n m:Nat)(g:G)(F:g_ K x c M f h)(S:b4 N V (af M))(d:V.length=n)(e:N.length=m)
  (a:∀(b:MO) (A:NX) (D:a0C) (s:MQ) (H:Hp) (E:XK),d4 k (A.deeper (QR c (af M) s.heap.objs.size f b))->
   PSs (dz (fh P w) P w K mg base N c (af M) f b A D s H E) (cA M) (tG K H g (λ_=>E))):eg P w K mg base (fh P w) (k+1) f h V (J_ K n (ia m g)):=by
 subst d e;exact Ie F S a
end
end L2.Pu
namespace L2
theorem db.ofB{X:Cx}{w:Scope}{D:a0a}(k:w.kind= .function)(E:(w.names.map (·.1)).Nodup)
  (fr:(w.names.all λy=>y.2 != .free||(X.env.scope.names.lookup y.1==My .cell||X.env.scope.names.lookup y.1==My .free))=MH) (G:Nc=c_++D.map (λj=>X.N.getD j Qe))
  (a:(D.all λj=>decide (j<X.N.length)&&w.names.lookup (X.N.getD j Qe)==My .free)=MH):db X w Nc c_ D:=by
 refine⟨k,E,λy b e=>?_,G,λj c=>?_⟩
 .have:=OR.mp fr y b
  rw[e]at this;simp only[Qc,Bool.false_or,T8,PV]at this;exact this
 .have:=OR.mp a j c
  simp only[No,Nv,PV]at this;exact this
end L2
namespace L2.Pu
end L2.Pu
namespace L2.Pu
section
variable{X:Cx}{E:a0r}{K:M9}{A B v:Expr}{y:List Expr}{w:a0P}{u:Scope}{z:Ri}{F L:a0h}{J:a0a}{g:TG}{I:a0W}
theorem I9{a c:Ri}(j:X.N.Nodup)(d:X.N[i]?=My x)(k:B3 X.env.scope x)(l:X.calm=MH)(S:db X u F L J)(m:PI X B v (iV X.K Q E))
  (n:∀(G:a0m) (C:MK) (f:a0n) (s:MQ) (H:Hp),PG (aI X F u G C f s H) B g/\eD (aI X F u G C f s H) y (hW X.K R E0)/\∀D,PB (aI X F u G C f s H) A (⟨B,v,y,0⟩::w) u z 0 D (I D))
  (o:cV X.K g O) (p:eB O) (q:∀D,qT X.K D (I D) b)
  (e:Q1 (.ListComp A (⟨B,v,y,0⟩::w) u z) (My (.Name x a)) c.line X.env=OW MH:=by rfl)
  (M:∀x,NO v X.env x=OW x:=by intro _;rfl) (r:b0d X x:=by first|exact .inl rfl|exact .inr rfl|assumption):
  PS X (.Assign [.Name x a] (.ListComp A (⟨B,v,y,0⟩::w) u z) c) (tG X.K X.H₀ (rF i (gD L.length J Q O R b)) E):=
 x8 ((wQ j d k l S m n e M r).imp λD t H h=>se o p q h)
end
end L2.Pu
namespace L2
section
variable{X:Cx}
theorem FJ{D:a0X}{w:a0f}(r:ar (D.map V.bl) w){i:Nat}{v:MO}(h:w.toArray[i]?=My v):v= .bool (D.getD i ML):=by
 have E:w[i]?=My v:=by simpa using h
 have a:=r.length;rw[MD]at a;have b:i<D.length:=by rw[a];exact(MR.mp E).1
 obtain⟨u,c,d⟩:=r.get (i:=i) (x:=V.bl D[i]) (by rw[MM,MI b];rfl);rw[E]at c;cases c;rw[MN,MI b];exact d
theorem AB{α:Type}(f:Bool->Bool)(w:a0X):(MX w.length).map (λi=>w.getD i ML)=w:=by
 apply WH;intro i;rw[MM];by_cases h:i<w.length
 .rw[On h,MI h]
  simp[MN,MI h]
 .rw[Q2 (by simpa using h),Q2 (by lia)];rfl
theorem AC(w:a0X):((MX w.length).any λi=>w.getD i ML)=w.any id:=by
 conv=>rhs;rw[<-AB (α:=Bool) id w]
 rw[List.any_map];rfl
theorem jY(l:X.calm=MH):dP X (.builtin "any") (λG H Q=>∃(a:MK) (E:a0X),G=[.ref a]/\et X.K H a (E.map V.bl)/\Q (.bl (E.any id)) H):=by
 intro j s B H G P Q I r h;obtain⟨a,E,rfl,m,q⟩:=h;cases r with
 |cons M n=>
  cases M;cases n;obtain⟨D,k,p,C⟩:=I.list m;have f:=p.isList;have c:D.toArray.size=E.length:=by rw[Nf,<-k.length,MD]
  have d:∀b o,s.heap.get? b=My o->b≠s.heap.objs.size:=λb o e z=>by
   rw[z,VF (MW _)]at e;cases e
  have g:a≠s.heap.objs.size:=by
   obtain⟨o,e,_⟩:=f;exact d a o e
  have W:=Walks.list (prog:=X.prog) (w:=X.w) (A:=X.A.in1) (show X.A.in1.handled=ME from I.ok.hd l) s.heap.objs.size a g D.toArray;refine call_any_walk (Sv f ⟨s.heap.objs.size,[s.heap.objs.size,a],[s.heap.objs.size],D.toArray.size,_,_,λi=>E.getD i ML,rfl,W,⟨⟨_,M7 s.heap rfl,rfl,rfl⟩,f.push _⟩,λi v S F J t u=>?_,λx L y=>?_⟩)
  .rw[FJ k t]
   exact N8 u
  .rw[c,AC]
   exact⟨.bl (E.any id),H,I.kept λb o e=>y b o (λz=>d b o e (by simpa using z)) (MG _ e),rfl,q⟩
end
end L2
namespace L2.Pu
noncomputable def eU:a0d->Option a0X
 |[]=>My []
 | .bl b::r=>(eU r).map (b::·)
 |_=>ME
theorem oJ{K:M9}:∀{w:a0d} {D:a0i} {E:a0X},eU w=My E->bb K F H w D->D=E.map V.bl
 |[],D,E,e,h=>by
  cases e;cases h;rfl
 |d::w,D,E,e,h=>by
  obtain⟨x,f,rfl,a,c⟩:=h;cases d<;>first
   |(rename_i b
     cases q:eU w with
     |none=>simp[eU,q]at e
     |some r=>
     simp[eU,q]at e;subst e;cases a.bl;rw[oJ q c];rfl)
   |simp[eU]at e
def zg:a0d->a0k
 |[.lst ds]=>(eU ds).map λw=> .bl (w.any id)
 |_=>ME
variable{K:M9}
theorem t8:fS K (λD H Q=>∃(a:MK) (w:a0X),D=[.ref a]/\et K H a (w.map V.bl)/\Q (.bl (w.any id)) H) zg:=λF H E Q G d M fr h e k=>by
 unfold zg at e;split at e
 .obtain⟨v,rfl,g⟩:=bb.one h
  obtain⟨a,D,rfl,r,b⟩:=c4.sqL g;obtain⟨w,q,e⟩:=Sh.mp e;subst e;rw[oJ q b]at r;exact⟨a,w,rfl,r,k _ H (To.refl fr) rfl⟩
 .cases e
end L2.Pu
namespace L2
section
variable{X:Cx}{a b c d:Expr}{ta w tc P:TE}{aa:Ri}
def Le(i e:R2)(tc P:TE)(y:V):TE:=λf H Q=>tc f H λw j=>i y w j λk g=>∃h,k= .bl h/\(if h=MH then P f g λl m=>e w l m Q else Q (.bl ML) g)
def wy(r h e:R2)(ta w tc P:TE):TE:=λf H Q=>ta f H λx a=>w f a λy i=>r x y i λz g=>∃k,z= .bl k/\(if k=MH then Le h e tc P y f g Q else Q (.bl ML) g)
theorem AE(J:f0 X (Od op) r)(l:f0 X (Od op') r')(i:f0 X (Od op'') r'')(G:PE X a ta)(L:PE X b w)(N:PE X c tc)(K:PE X d P)
  (M:WB [op,op',op''] [b,c,d]=ML:=by with_unfolding_all rfl):PT X (.Compare a [op,op',op''] [b,c,d] aa) (xP (wy r r' r'' ta w tc P)):=by
 intro f s g H Q I h;refine isTrue_chain (d5 (G f s g H _ I h) λv O ⟨x,S,R,V,q1⟩=>test_link (d5 (L f O g S _ R q1) λu T ⟨y,U,W,o,q2⟩=>
  d5 (J f T g U x y v u _ W V o q2) λdd Y ⟨z,p,q,Z,k,e,D⟩=>?_)) M
 subst e;cases Z;refine N8 ?_;cases k with
 |false=>
  obtain⟨m,j,n⟩:=D;cases j;exact ite_ff ⟨p,q,n⟩
 |true=>
  refine ite_tt (test_link (d5 (N f Y g p _ q D) λt s4 ⟨A,H4,I4,B,q4⟩=>d5 (l f s4 g H4 y A u t _ I4 o B q4) λdd s5 ⟨z',C,F,r5,m,j,E⟩=>?_));subst j;cases r5;refine N8 ?_;cases m with
  |false=>
   obtain⟨m,j,n⟩:=E;cases j;exact ite_ff ⟨C,F,n⟩
  |true=>
   refine ite_tt (test_last (d5 (K f s5 g C _ F E) λw' s6 ⟨z2,H6,I6,r6,q6⟩=>d5 (i f s6 g H6 A z2 t w' _ I6 B r6 q6) λd' s7 ⟨z3,H7,I7,r7,k3,e3,q7⟩=>?_));subst e3;cases r7;exact N8 ⟨H7,I7,q7⟩
end
end L2
namespace L2.Pu
section
variable{X:Cx}{E:a0r}{a b c d:Expr}{pos:Ri}{K:M9}
def GM(f e:a0H)(h i:FD)(y:D):FD:=λa=>M.bind (h a) λw=>M.bind (M.ofO (f y w)) λz=>M.bind (M.ofO (asB z)) λc=>if c=MH then M.bind (i a) (λg=>M.ofO (e w g))else M.ret (.bl ML)
def nZ(o j e:a0H)(f g h i:FD):FD:=λd=>M.bind (f d) λa=>M.bind (g d) λb=>M.bind (M.ofO (o a b)) λz=>M.bind (M.ofO (asB z)) λc=>if c=MH then GM j e h i b d else M.ret (.bl ML)
theorem run.later{c i:Type}{R:Hp->c->i->Prop}{F:Fx}{j:St}{m:M c}{H w:Hp}{Q:i->Hp->Prop}{a:Bg}(t:To F H w a)(h:run R F E j m H Q a):run R F E j m w Q a:=by
 obtain⟨k,f,e,q⟩:=h;refine⟨k,f,e,?_⟩;cases k with
 |ok d=>exact λv g b=>q v g (t.trans b)
 |error C=>exact λg b=>q g (t.trans b)
theorem xS(l:bn K r o)(l':bn K r' o')(O:bn K s x)(T:tV K (nZ o o' x f g h i) E σ H Q):wy r r' s (tV K f E) (tV K g E) (tV K h E) (tV K i E) σ H Q:=by
 obtain⟨F,b,β,fr,U,T⟩:=T;refine⟨F,b,β,fr,U,(run.bind (R:=c4 K F) T).mono λv H1 n=>oa n λd D t hd r1=>⟨F,b,D,t.fr,U.tr (t.tr fr),(run.bind (R:=c4 K F) r1).mono λV H2 n=>oa n λX a p u r2=>?_⟩⟩;obtain⟨z,ez,r3⟩:=run.ofO_bind r2;obtain⟨c,ec,L⟩:=run.ofO_bind r3;rw[jD ec]at ez;have W:=U.tr ((t.tr fr).trans (p.tr t.fr));refine l F H2 a _ d X _ v V p.fr (c4.tr (p.tr t.fr) _ _ hd) u ez λvz H3 j hz=>⟨c,hz,?_⟩;cases c with
 |true=>
  rw[MU rfl]at L;have Y:=c4.tr (j.tr p.fr) _ _ u;have y:=W.tr (j.tr p.fr);have r5:=run.later j L;refine⟨F,b,a,j.fr,y,(run.bind (R:=c4 K F) r5).mono λw H4 n=>oa n λdw A B C r6=>?_⟩;obtain⟨z',I,r7⟩:=run.ofO_bind r6;obtain⟨c',Z,N⟩:=run.ofO_bind r7;rw[jD Z]at I;refine l' F H4 A _ X dw _ V w B.fr (c4.tr (B.tr j.fr) _ _ Y) C I λaa H5 m G=>⟨c',G,?_⟩;cases c' with
  |true=>
   rw[MU rfl]at N;refine⟨F,b,A,m.fr,y.tr ((B.tr j.fr).trans (m.tr B.fr)),(run.bind (R:=c4 K F) (run.later m N)).mono λw' H6 ⟨M,P,t6,J,r9⟩=>?_⟩;obtain⟨d3,e3,k⟩:=run.ofO r9;exact O F H6 P Q dw M d3 w w' t6.fr (c4.tr ((m.tr B.fr).trans (t6.tr m.fr)) _ _ C) J e3 k
  |false=>
   rw[MS MT]at N;obtain⟨rr,S,e,q⟩:=N;cases e;exact q _ H5 m rfl
 |false=>
  rw[MS MT]at L;obtain⟨rr,S,e,q⟩:=L;cases e;exact q _ H3 j rfl
theorem El(m:f0 X (Od op) r)(j:f0 X (Od v) z)(e:f0 X (Od s) x)(l:bn X.K r o)(n:bn X.K z A)(k:bn X.K x y)(w:PE X a (tV X.K f E))(p:PE X b (tV X.K g E))(t:PE X c (tV X.K h E))(D:PE X d (tV X.K i E))(G:WB [op,v,s] [b,c,d]=ML:=by with_unfolding_all rfl):
  PT X (.Compare a [op,v,s] [b,c,d] pos) (hW X.K (fB (nZ o A y f g h i)) E):=(AE m j e w p t D G).imp λu H Q q=>xS l n k (oN q)
variable{st:N3}{aa:Hp}{B:Ow}{bg:a0s}{H o:Hp}{δ:Ds}{β ab:Bg}{σ:St}
theorem aR.put2{H:Hp}{P:MK->Prop}(p:P r)(e:H r=My (.lst f))(a:bb K F H g f):∀{b:a0o} {c:a0n} (j:Nat),aR K F H P b c->aR K F H P (b.set j g) (c.set j r)
 |[],[],_,_=>trivial
 |_::_,_::_,0,h=>⟨p,⟨f,e,a⟩,h.2.2⟩
 |_::_,_::_,j+1,h=>⟨h.1,h.2.1,aR.put2 p e a j h.2.2⟩
 |[],_::_,_,h=>h.elim
 |_::_,[],_,h=>h.elim
theorem fy{b:Type}{x y:b}:∀{l:List b} {j:Nat},x∈l.set j y->x=y\/x∈l
 |[],_,h=>by cases h
 |a::l,0,h=>by
  rcases M4.mp h with rfl|h
  .exact .inl rfl
  .exact .inr (MJ _ h)
 |a::l,j+1,h=>by
  rcases M4.mp h with rfl|h
  .exact .inr MP
  .rcases fy h with z|z
   .exact .inl z
   .exact .inr (MJ _ z)
theorem sJ:∀{b:a0n} {j:Nat},b.Nodup->r∉b->(b.set j r).Nodup
 |[],_,h,_=>h
 |a::b,0,h,n=>Nz.mpr ⟨λz=>n (MJ _ z),(Nz.mp h).2⟩
 |a::b,j+1,h,n=>Nz.mpr ⟨λz=>(by
  rcases fy z with z|z
  .exact n (z▸MP)
  .exact(Nz.mp h).1 z),sJ (Nz.mp h).2 λz=>n (MJ _ z)⟩
theorem eo.putRow{H1 g:Hp}{β1 S:Bg}{a r:MK}{D:a0n}{X:a0o}(E:eo K aa B bg H δ β σ)(t:eo K aa B bg g δ S σ)(s2:hU B H B g)(kk:∀c o,H c=My o->B c≠My 1->g c=My o)
  (hs:σ[i]?=My (My (.ref a))) (hB:B a=My (i+2)) (ha:g a=My (.lst (D.map V.ref))) (R:H a=My (.lst (D.map V.ref))) (nd:(a::D).Nodup) (rl:aR K (ee B bg) g (λr=>B r=My (i+2)) X D) (G:H r=ME) (O:g r=My (.lst xs)) (hn:noLs ds=MH) (hd:bb K (ee B bg) g ds xs) (J:∀c∈D,H c≠ME) (T:∀w∈X,noLs w=MH):
  ∃B',eo K aa B' bg (upd g a (.lst ((D.map V.ref).set j (.ref r)))) (δ.set i (My (.grd (X.set j ds)))) S σ/\hU B H B' (upd g a (.lst ((D.map V.ref).set j (.ref r)))):=by
 classical
 have C:B r=ME:=OD λz=>E.fr.occ r z G;have u:a≠r:=λz=>by rw[<-z,R]at G;cases G
 have U:r∉D:=λz=>J r z G;have own:∀c,c∈D->B c=My (i+2):=λc hc=>(rl.all c hc).1;have nb:∀b l,bg=My (b,l)->b≠r/\l≠r:=λb l e=>by
  obtain⟨M,I⟩:=E.bgt b l e;exact⟨λz=>(by rw[z,C]at M;cases M),λz=>(by rw[z,C]at I;cases I)⟩
 have W:∀b l,bg=My (b,l)->b≠a/\l≠a:=λb l e=>by
  obtain⟨M,I⟩:=E.bgt b l e;exact⟨λz=>(by rw[z,hB]at M;cases M),λz=>(by rw[z,hB]at I;cases I)⟩
 have L:hU B H (λc=>if c=r then My (i+2)else B c) (upd g a (.lst ((D.map V.ref).set j (.ref r)))):=by
  refine⟨λc o h n=>?_,λc hc=>?_,λc o h n=>?_,λc hc=>?_⟩
  .rw[bt (λz=>by subst z;rw[hB]at n;rcases n with n|n<;>cases n)]
   exact s2.kp c o h n
  .have:c≠r:=λz=>by rw[z,C]at hc;rcases hc with hc|hc<;>cases hc
   simp only[MS this]
  .have:c≠r:=λz=>by rw[z,G]at h;cases h
   simp only[MS this];exact n
  .by_cases z:c=a
   .subst z;rw[ao];simp
   .rw[bt z];exact s2.al c hc
 have x:Tr (ee B bg) H (ee (λc=>if c=r then My (i+2)else B c) bg) (upd g a (.lst ((D.map V.ref).set j (.ref r)))):=L.tr;refine⟨λc=>if c=r then My (i+2)else B c,⟨⟨λc hc z=>?_,λb l e=>?_,λb l e=>?_⟩,λb l e=>?_,by rw[NT,E.len],λc hc=>?_,λc k hc=>?_,λc k hc=>(by
  have f:(if c=r then My (i+2)else B c)=My (k+2):=hc;by_cases w:c=a
  .subst w;exact .inl ⟨_,ao⟩
  .by_cases z:c=r
   .subst z;exact .inl ⟨xs,by rw[bt w];exact O⟩
   .rw[MS z]at f;exact(t.lst c k f).imp λo y=>by rw[bt w];exact y),λk s e=>?_⟩,L⟩
 .by_cases q:c=a
  .subst q;rw[ao]at z;cases z
  .rw[bt q]at z
   by_cases w:c=r
   .subst w;rw[O]at z;cases z
   .have f:(if c=r then My (i+2)else B c)≠ME:=hc
    rw[MS w]at f;exact t.fr.occ c f z
 .obtain⟨x1,x2⟩:=nb b l e
  obtain⟨M,I⟩:=E.bgt b l e;refine⟨?_,?_,(E.fr.bgA b l e).2.2⟩
  .show(if b=r then My (i+2)else B b)≠ME
   rw[MS x1,M];simp
  .show(if l=r then My (i+2)else B l)≠ME
   rw[MS x2,I];simp
 .obtain⟨x1,x2⟩:=W b l e
  rw[bt x1,bt x2];exact t.fr.bag b l e
 .obtain⟨x1,x2⟩:=nb b l e
  simp only[MS x1,MS x2];exact E.bgt b l e
 .by_cases z:c=a
  .subst z;rw[ao];simp
  .rw[bt z];exact t.cov c hc
 .have f:(if c=r then My (i+2)else B c)=My (k+2):=hc
  by_cases z:c=r
  .cases w:aa c with
   |none=>rfl
   |some o=>exact Nh (z▸G) (E.cov c (by rw[w];simp))
  .rw[MS z]at f;exact E.new c k f
 .rw[OB]at e
  by_cases q:i=k
  .subst q
   rw[MU rfl]at e;split at e
   .cases e
    have Y:=aR.put2 (P:=λc=>c=r\/B c=My (i+2)) (.inl rfl) O hd j (aR.tr (Tr.refl _ _) rl λc ys _ p y=>⟨.inr p,y⟩);have Z:aR K (ee B bg) (upd g a (.lst ((D.map V.ref).set j (.ref r)))) (λc=>c=r\/B c=My (i+2)) (X.set j ds) (D.set j r):=aR.tr (⟨λ_ n _=>n,λc o n h=>by rw[bt (λz=>n (by subst z;show B c≠ME;rw[hB];simp))];exact h,rfl⟩) Y λc ys hc p y=>⟨p,by
     rw[bt (λz=>by
      subst z;rcases fy hc with w|w
      .exact u w
      .exact(Nz.mp nd).1 w)]
     exact y⟩
    have ab:∀c∈D.set j r,(if c=r then My (i+2)else B c)=My (i+2):=λc hc=>by
     rcases fy hc with w|w
     .rw[MU w]
     .split
      .rfl
      .exact own c w
    refine⟨_,hs,a,D.set j r,rfl,by simp only[MS u];exact hB,by rw[ao,Pw],Nz.mpr ⟨λz=>?_,sJ (Nz.mp nd).2 U⟩,aR.noL (F:=ee B bg) (λc hc=>?_) (λw hw=>?_) Z ab⟩
    .rcases fy z with w|w
     .exact u w
     .exact(Nz.mp nd).1 w
    .have f:(if c=r then My (i+2)else B c)≠ME:=hc
     by_cases w:c=r
     .subst w;exact .inr (.inl ⟨xs,by rw[bt u.symm];exact O⟩)
     .rw[MS w]at f;exact .inl f
    .rcases fy hw with w|w
     .subst w;exact hn
     .exact T _ w
   .cases e
  .rw[MS q]at e
   obtain⟨v,h1,Q⟩:=E.tell k s e;refine⟨v,h1,?_⟩;have na:∀c,B c=My (k+2)->c≠a:=λc m z=>by subst z;rw[hB]at m;cases m;exact q rfl
   have nr:∀c,H c≠ME->c≠r:=λc hc z=>hc (z▸G);have k3:∀c o,H c=My o->B c=My (k+2)->upd g a (.lst ((D.map V.ref).set j (.ref r))) c=My o:=λc o h h'=>by
    rw[bt (na c h')];exact kk c o h (by rw[h'];intro z;cases z)
   cases s with
   |sh d=>exact c4.tr x _ _ Q
   |own cs=>
    obtain⟨c,zs,N,m,A,e4⟩:=Q;exact⟨c,zs,N,by simp only[MS (nr c (by rw[A];simp))];exact m,k3 c _ A m,bb.tr x _ _ e4⟩
   |grd rows2=>
    obtain⟨c,qs,N,m,A,e4,e5⟩:=Q;exact⟨c,qs,N,by simp only[MS (nr c (by rw[A];simp))];exact m,k3 c _ A m,e4,aR.tr x e5 λr' zs _ p y=>⟨by simp only[MS (nr r' (by rw[y];simp))];exact p,k3 r' _ y p⟩⟩
   |odc b ks vs=>
    obtain⟨c,N,m,A⟩:=Q;exact⟨c,N,by simp only[MS (nr c A.ne)];exact m,A.tr x λo z=>k3 c o z m⟩
theorem eo.AtoB(a:eo K aa B bg H δ β σ):∀c,(ee B bg).A c->(l_ B bg).A c\/A_ H c:=λc f=>by
 have e:B c≠ME:=f;cases q:B c with
 |none=>exact Nh q e
 |some k=>
  match k,q with
  |0,q=>exact .inl (.inl q)
  |1,q=>exact .inl (.inr q)
  |k+2,q=>exact .inr (a.lst c k q)
theorem eo.noB{d:D}(a:eo K aa B bg H δ β σ)(b:noL d=MH)(h:c4 K (l_ B bg) H d v):c4 K (ee B bg) H d v:=w5 a.AtoB d v b h
theorem eo.noBs(a:eo K aa B bg H δ β σ)(b:noLs ds=MH)(h:bb K (l_ B bg) H ds e):bb K (ee B bg) H ds e:=noLs_den a.AtoB ds e b h
def lq(i:Nat)(e f g:FD):G:=λδ β=>match g (fc δ) β with
 |some (.ok d,β1)=>match e (fc δ) β1 with
  |some (.ok (.int ka),β2)=>match f (fc δ) β2 with
   |some (.ok (.int kb),β3)=>match δ.getD i ME with
    |some (.grd a_)=>match li a_.length ka with
     |some a=>match a_[a]? with
      |some b=>match li b.length kb with
       |some c=>if noL d=MH then My (.nx (δ.set i (My (.grd (a_.set a (b.set c d))))),β3)else ME
       |none=>ME
      |none=>ME
     |none=>ME
    |_=>ME
   |_=>ME
  |_=>ME
 |_=>ME
theorem fY(h:PS X st (iC (tV X.K fv E) (Fo (W5 (yc X.K) (oM i) (tV X.K fa E)) (tV X.K fb E) yb))):PS X st (tG X.K X.H₀ (lq i fa fb fv) E):=h.imp λD σ H h_=>by
 obtain⟨B,bg,δ,β,o,ab,ok,e,q⟩:=h_;refine⟨l_ B bg,fc δ,β,ok.frA,ok.viewA,?_⟩;unfold lq at e;split at e
 .rename_i d β1 e1
  refine⟨.ok d,_,e1,λv H1 t1 G=>?_⟩;obtain⟨f,s1⟩:=ok.to rfl t1;split at e
  .rename_i ka β2 e2
   split at e
   .rename_i kb β3 e3
    split at e
    .rename_i a_ O
     split at e
     .rename_i ja ea
      split at e
      .rename_i ds er
       split at e
       .rename_i jb eb
        split at e
        .rename_i Q
         cases e;have G:=f.noB Q G;obtain⟨w,N,a,rs,rfl,hB,ha,nd,rl⟩:=f.tell i _ (getD_some O);refine⟨_,N,l_ B bg,fc δ,β1,f.frA,f.viewA,.ok (.int ka),β2,e2,λy H2 t2 hy=>?_⟩;cases hy;obtain⟨j,P⟩:=f.to (F:=l_ B bg) rfl t2;obtain⟨w2,S,a2,g,ew,k,m,aa,n⟩:=j.tell i _ (getD_some O);rw[N]at S;cases S;cases ew;obtain⟨r,xs,R,hp,hx,dl⟩:=n.at er;refine⟨a,g.map V.ref,ka,.ref r,rfl,rfl,et.of m,?_,?_⟩
         .unfold o_
          rw[MD,<-n.len,ea];show(g.map V.ref)[ja]?=_;rw[MM,R];rfl
         .refine⟨l_ B bg,fc δ,β2,j.frA,j.viewA,.ok (.int kb),_,e3,λz s x hz=>?_⟩
          cases hz;obtain⟨p,s3⟩:=j.to (F:=l_ B bg) rfl x;obtain⟨w3,h3,a3,t,T,U,u,W,A⟩:=p.tell i _ (getD_some O);rw[N]at h3;cases h3;cases T;have Y:g=t:=by
           have c:s a=My (.lst (g.map V.ref)):=x.kp a _ m (λb l y=>⟨λw=>(by subst w;rw[(ok.bgt _ _ y).1]at k;cases k),λw=>(by subst w;rw[(ok.bgt _ _ y).2]at k;cases k)⟩);rw[u]at c;have k2:t.map V.ref=g.map V.ref:=by injection c with c;injection c
           exact(Tg (λa b q=>by cases q;rfl)|>.mp k2).symm
          subst Y;obtain⟨r',C,I,ac,J,L⟩:=A.at er;rw[R]at I;cases I;have Z:c4 X.K (ee B bg) s d v:=c4.tr (s3.tr) _ _ (c4.tr (P.tr) _ _ G);refine⟨r,C,kb,jb,rfl,rfl,J,by rw[<-L.length];exact eb,?_⟩;obtain⟨M,s4⟩:=p.writeRow (ds:=ds.set jb d) (xs:=C.set jb v) N U u W A R J (bb.set jb L Z);exact q _ _ _ (s1.trans (P.trans (s3.trans s4))) M
        .cases e
       .cases e
      .cases e
     .cases e
    .cases e
   .cases e
  .cases e
 .cases e
def uj(i:Nat)(e:FD)(f:FL):G:=λδ β=>match f (fc δ) β with
 |some (.ok ds,β1)=>match e (fc δ) β1 with
  |some (.ok (.int ka),β2)=>match δ.getD i ME with
   |some (.grd a_)=>match li a_.length ka with
    |some a=>if(noLs ds&&a_.all noLs)=MH then My (.nx (δ.set i (My (.grd (a_.set a ds)))),β2)else ME
    |none=>ME
   |_=>ME
  |_=>ME
 |_=>ME
theorem IZ(h:PS X st (iC (P_ X.K fv E) (Fo (oM i) (tV X.K fa E) yb))):PS X st (tG X.K X.H₀ (uj i fa fv) E):=h.imp λD σ H Z=>by
 obtain⟨B,bg,δ,β,o,ab,ok,e,q⟩:=Z;refine⟨l_ B bg,fc δ,β,ok.frA,ok.viewA,?_⟩;unfold uj at e;split at e
 .rename_i ds β1 e1
  refine⟨.ok ds,_,e1,λv H1 R P=>?_⟩;obtain⟨r,S,rfl,d,u,s⟩:=P;obtain⟨f,T⟩:=ok.to rfl R;split at e
  .rename_i ka β2 e2
   split at e
   .rename_i a_ ec
    split at e
    .rename_i ja ea
     split at e
     .rename_i hn
      cases e;rw[No]at hn;obtain⟨w,U,a,G,rfl,hB,M,x,W⟩:=ok.tell i _ (getD_some ec);refine⟨_,U,l_ B bg,fc δ,β1,f.frA,f.viewA,.ok (.int ka),_,e2,λy A C hy=>?_⟩;cases hy;obtain⟨I,J⟩:=f.to (F:=l_ B bg) rfl C;have g:∀c,B c≠My 1->∀b l,bg=My (b,l)->c≠b/\c≠l:=λc t b l e=>⟨λz=>t (z▸(ok.bgt b l e).1),λz=>t (z▸(ok.bgt b l e).2)⟩;have L:∀c o,H c=My o->B c≠My 1->A c=My o:=λc o h n=>C.kp c o (R.kp c o h (g c n)) (g c n);have N:B r=ME:=OD λz=>ok.fr.occ r z d;have O:A r=My (.lst S):=C.kp r _ u (g r (by rw[N];simp));have Y:∀c,B c=My (i+2)->B c≠My 1:=λc h=>by rw[h];intro z;cases z
      have k:=L a _ M (Y a hB);have m:aR X.K (ee B bg) A (λr=>B r=My (i+2)) a_ G:=aR.tr (T.trans J).tr W λc ys _ p y=>⟨p,L c _ y (Y c p)⟩;refine⟨a,G.map V.ref,ka,ja,rfl,rfl,k,by rw[MD,<-m.len];exact ea,?_⟩;obtain⟨B',Q,s3⟩:=eo.putRow (i:=i) (j:=ja) (r:=r) (ds:=ds) (β1:=β1) (H1:=H1) ok I (T.trans J) L U hB k M x m d O hn.1 (bb.tr J.tr _ _ (f.noBs hn.1 (bb.tr Fx.tr_of _ _ s))) (λc t z=>by
       obtain⟨_,ys,y⟩:=W.all c t;rw[y]at z;cases z) (λw hw=>OR.mp hn.2 w hw)
      exact q _ _ _ s3 Q
     .cases e
    .cases e
   .cases e
  .cases e
 .cases e
variable{e:Expr}{z:List Expr}
def za(x y:D):a0z:=match x,y with
 | .lst a,.lst b=>if a.length+b.length<=M1 then My (a++b)else ME
 |_,_=>ME
def o2(c:D->D->a0z)(f g:FD):FL:=λδ=>M.bind (f δ) λa=>M.bind (g δ) λb=>M.ofO (c a b)
theorem Lz(z:PE X a (tV X.K f E))(C:PE X b (tV X.K g E)):PE X (.BinOp a .Add b pos) (P_ X.K (o2 za f g) E):=
 (dX wZ z C).imp λσ H Q i=>ko i λF δ β fr y r=>⟨F,δ,β,fr,y,(run.bind (R:=c4 X.K F) r).mono λv P i=>oa i λd e t B w=>⟨F,δ,e,t.fr,y.tr (t.tr fr),(run.bind (R:=c4 X.K F) w).mono λI J i=>by
  obtain⟨S,D,m,n,o⟩:=i;obtain⟨V,h,k⟩:=run.ofO o;have u:=c4.tr (m.tr t.fr) _ _ B;unfold za at h;split at h
  .split at h
   .cases h
    obtain⟨p,G,rfl,w,j⟩:=c4.rdL u;obtain⟨q,M,rfl,o,l⟩:=c4.rdL n;exact⟨p,q,G,M,rfl,rfl,w,o,by rw[<-j.length,<-l.length];assumption,λc A=>k _ _ (m.fr.upd _ A) (gb.new (t.trans m) A (j.append l))⟩
   .cases h
  .cases h⟩⟩
def Fs(f:FL):FD:=λδ=>M.bind (f δ) λa=>M.ret (.lst a)
theorem Lb(h:PE X e (P_ X.K f E)):PE X e (tV X.K (Fs f) E):=h.imp λσ H Q g=>ko g λF δ β fr i r=>⟨F,δ,β,fr,i,(run.bind (R:=gb X.K F H) r).mono λv o g=>by
  obtain⟨w,a,t,b,c⟩:=g;obtain⟨p,d,rfl,j,k,l⟩:=b;have m:¬F.A p:=λz=>fr.occ p z j;exact run.ret t.fr c ⟨p,d,rfl,⟨m,.inl k⟩,bb.tr Fx.tr_of _ _ l⟩⟩
noncomputable def X2(K:M9)(l:MK):It:=
 ⟨λi H=>∃a x,et K H l a/\a[i]?=My x,
  λi H v o=>∃p x,H p=ME/\v= .ref p/\o=upd H p (.tup [.int (i:Int),x])/\∀a,et K H l a->a[i]?=My x,
  λi H=>∃a,et K H l a/\a.length=i⟩
theorem zy{P:Ny}{w:NC}{K:M9}{x1}{pos:Ri}(l e a:MK)(t:e≠a):
  nw P w K (.Tuple elts x1 pos) (X2 K l) [e,a] e (λi h=>(∃f,IsEnum h e a (i:Int) f)/\h.IsListIter a l i) where
 mem:=by simp
 obj:=λi h st b j=>by
  obtain⟨⟨f,m⟩,p⟩:=st;simp only[M4,Op,QX]at j;rcases j with rfl|rfl
  .exact⟨_,m,λv q=>by cases q⟩
  .obtain⟨o,q,_,d⟩:=p
   exact⟨o,q,λv z=>by rw[d]at z;cases z⟩
 keep:=λi h B st k=>by
  obtain⟨⟨f,m⟩,p⟩:=st;exact⟨⟨f,k e (by simp) _ m⟩,p.at λo q=>k a (by simp) o q⟩
 item:=by
  intro X L N O Q i r s σ H E I y st R;subst L N O;obtain⟨S,x,c,T⟩:=R;obtain⟨⟨f,m⟩,p⟩:=st;obtain⟨g,D,U⟩:=cy.src (b:=MH) I c;have G:=I.ok.hd Q;have V:l≠e:=cy.src_ne (b:=MH) I c (y e (by simp));have W:l≠a:=cy.src_ne (b:=MH) I c (y a (by simp));have k1:i<g.toArray.size:=by
   rw[Nf,<-D.length];exact(MR.mp T).1
  refine wpAny_pyNext_enum_itemD (VU (show(X.A.in1).handled=ME from G) a l W g.toArray) m ⟨p,U⟩ k1 t (by simp[t,V.symm]) λu B Y pu fo f1 fT sz M=>?_;refine⟨_,rfl,wpAny_letOwnedTupleGo_enum (s:={s with heap:=B,toks:=Y+1}) fo λC F J=>?_⟩
  replace J:Nx e B C:=J
  have zT:s.heap.objs.size≠e:=Pe (Nl m);obtain⟨u',Z,ru⟩:=D.get T;have eu:u=u':=by
   have:g[i]?=My u:=by simpa using pu
   rw[this]at Z;exact Np Z
  subst eu;have kk:∀b o,b∉[e,a]->s.heap.get? b=My o->C.get? b=My o:=λb o j q=>by
   simp only[M4,Op,QX,not_or]at j;exact J.extBut b o j.1 (M b o j.1 j.2 q)
  have I2:cy X r σ (upd H s.heap.objs.size (.tup [.int (i:Int),x])) {s with heap:=C,toks:=Y+1}:=by
   refine cy.turnNew I y kk (MW _) ⟨by show 2<=M1;decide,[.int i Y,u],.cons ⟨_,rfl⟩ (.cons ru .nil),_,J.extBut _ _ zT fT,rfl,_,rfl⟩
  refine⟨.ref s.heap.objs.size,_,I2,rfl,⟨s.heap.objs.size,x,I.hok.fresh (MW _),rfl,rfl,λas h1=>by rw[cy.src_inj (b:=MH) I h1 c];exact T⟩,⟨⟨_,by simpa using F⟩,?_⟩,λb j=>?_⟩
  .exact f1.1.at λo q=>J.extBut _ _ t.symm q
  .rw[bt]
   .exact(y b j).1
   .intro q
    have ol:∃o,s.heap.get? b=My o:=by
     simp only[M4,Op,QX]at j;rcases j with rfl|rfl
     .exact⟨_,m⟩
     .obtain⟨o,z,_⟩:=p;exact⟨o,z⟩
    obtain⟨o,z⟩:=ol;exact Nh (Nl z) (by rw[q];exact NU _)
 done:=by
  intro X L N O Q i r s σ H E I y st R;subst L N O;obtain⟨S,c,hl⟩:=R;obtain⟨⟨f,m⟩,p⟩:=st;obtain⟨g,D,U⟩:=cy.src (b:=MH) I c;have G:=I.ok.hd Q;have W:l≠a:=cy.src_ne (b:=MH) I c (y a (by simp));have g1:g.toArray.size=i:=by rw[Nf,<-D.length,hl]
  refine wpAny_pyNext_enum_endD (n:=g.toArray.size) (VU (show(X.A.in1).handled=ME from G) a l W g.toArray) m (by rw[g1];exact⟨p,U⟩) λB M=>⟨rfl,?_⟩;refine cy.turnL (t':=s.toks) I y λb o j q=>?_;simp only[M4,Op,QX,not_or]at j;exact M b o j.2 q
 self:=λ_ _ _ _ _ st h=>by
  obtain⟨⟨f,m⟩,p⟩:=st;exact wpAny_pyIter_enum m h
def iEn(K:M9)(f:TA):TI:=λσ H R=>f σ H λb a=>∃l c,b=[.ref l]/\et K a l c/\R (X2 K l) a
theorem Hu{a:Expr}{p pos:Ri}{F}(n:Gl X "enumerate")(B:X.mg "enumerate"=ME)(D:PA X [a] J)(E:MY [a] X.env=[(ML,NW a X.env)]:=by rfl):
  PI X (.Tuple x F C) (.Call (.Name "enumerate" p) [a] [] pos) (iEn X.K J):=by
 intro f s σ H R I h;refine Call_ (f9 I n B Boot.«enumerate» (Ot (d5 (D pos f s σ H _ I h) λP g ⟨S,w,j,G,d⟩=>?_) (by rw[E];rfl) (by rfl)));obtain⟨l,V,e,d,q⟩:=d;subst e;cases G with
 |cons r o=>
  cases o;cases r;obtain⟨t,A,u⟩:=cy.src (b:=MH) j d;refine call_enumerate_list u λz k v L M=>?_;refine wpAny_pyIter_enum (s:={g with heap:=z}) k ?_;have y:cy X f σ w {g with heap:=z}:=j.kept (t':=g.toks) M;refine⟨_,[g.heap.objs.size+1,g.heap.objs.size],_,X2 X.K l,w,rfl,y,zy l (g.heap.objs.size+1) g.heap.objs.size (Nat.succ_ne_self _),⟨⟨_,k⟩,v⟩,λc m=>?_,q⟩;have i:g.heap.objs.size<=c:=by
   simp only[M4,Op,QX]at m;rcases m with rfl|rfl
   .exact PU _ _
   .exact MW _
  exact j.fpOk i (j.hok.fresh i)
noncomputable def cU:Nat->a0d->a0d
 |_,[]=>[]
 |n,x::xs=> .tup [.int (n:Int),x]::cU (n+1) xs
theorem jW:∀(n:Nat) (a:a0d),(cU n a).length=a.length
 |_,[]=>rfl
 |n,x::a=>by
  show(cU (n+1) a).length+1=a.length+1;rw[jW (n+1) a]
theorem mH:∀{n:Nat} {b:a0d} {i:Nat} {d:D},(cU n b)[i]?=My d->∃x,b[i]?=My x/\d= .tup [.int ((n+i:Nat):Int),x]
 |n,[],i,d,h=>by simp[cU]at h
 |n,x::b,0,d,h=>by
  simp[cU]at h;exact⟨x,rfl,by rw[<-h];simp⟩
 |n,x::b,i+1,d,h=>by
  have c:(cU (n+1) b)[i]?=My d:=by simpa[cU]using h
  obtain⟨a,f,g⟩:=mH c;exact⟨a,by simpa using f,by rw[g,show n+1+i=n+(i+1) by lia]⟩
def GN:a0d->a0z
 |[.lst xs]=>My (cU 0 xs)
 |_=>ME
theorem Ff{H:Hp}(o:∀g f,Tr F H g f->∃a,et K f l a/\bb K g f s a):vu K (X2 K l) F H (cU 0 s):=λg f c t fr i=>by
 obtain⟨a,h,b⟩:=o g f t;refine⟨λd e=>?_,λj=>?_⟩
 .obtain⟨x,q,rfl⟩:=mH e
  obtain⟨u,k,w⟩:=b.get q;refine⟨⟨a,u,h,k⟩,λz y r=>?_⟩;obtain⟨p,A,m,rfl,rfl,v⟩:=r;have n:=v a h;rw[k]at n;cases n;rw[Oo];exact⟨bS.upd m,c4.newT fr m (bb.cons rfl (bb.cons w bb.nil))⟩
 .rw[jW]at j
  exact⟨a,h,by rw[<-b.length,j]⟩
def Gx(g:FL):FL:=cK GN g
theorem kE{a:Expr}{p pos:Ri}{I}(o:Gl X "enumerate")(d:X.mg "enumerate"=ME)(w:PA X [a] (i0 X.K g E))(B:MY [a] X.env=[(ML,NW a X.env)]:=by rfl):
  PI X (.Tuple s I x) (.Call (.Name "enumerate" p) [a] [] pos) (iV X.K (Gx g) E):=
 (Hu o d w B).imp λσ H R i=>ko i λF δ β fr q h=>⟨F,δ,β,fr,q,(run.bind (R:=bb X.K F) h).mono λV b i=>by
  obtain⟨J,D,t,G,M⟩:=i;obtain⟨l,e,k⟩:=run.ofO M;unfold GN at e;split at e
  .rename_i xs
   cases e;obtain⟨v,rfl,n⟩:=bb.one G;have z:∃a,v= .ref a/\∀j f,Tr F b j f->∃c,et X.K f a c/\bb X.K j f xs c:=by
    obtain⟨a,c,rfl,_⟩:=c4.sqL n;refine⟨a,rfl,λj f r=>?_⟩;obtain⟨C,m,u,P,y⟩:=c4.sqL (c4.tr r _ _ n);cases u;exact⟨m,P,y⟩
   obtain⟨a,rfl,z⟩:=z;obtain⟨S,A,_⟩:=z F b (Tr.refl F b);exact⟨a,S,rfl,A,k _ b (To.refl t.fr) (Ff z)⟩
  .cases e⟩
def bO(K:M9)(g:Nk)(b:a0h)(c:a0d):Prop:=∃a f,ci K g b a/\ar f a/\∀F H,bb K F H c f
inductive Sr (α:Type) where
 |kw (j:Nat)|df (a:α)
noncomputable def Sr.pick{b:Type}(z:b)(f:List b):Sr b->b
 | .kw j=>f.getD j z
 | .df a=>a
def gK{a:Type}(z:a)(n k:Nat)(b:List (Sr a))(c f:List a):List a:=if c.length=n/\f.length=k then c++b.map (Sr.pick z f)else[]
inductive ll {α γ:Type} (R:α->γ->Prop):List (Sr α)->List (Sr γ)->Prop where
 |nil:ll R [] []
 |kw {j:Nat} {a:List (Sr α)} {c:List (Sr γ)}:ll R a c->ll R (.kw j::a) (.kw j::c)
 |df {x:α} {y:γ} {a:List (Sr α)} {c:List (Sr γ)}:R x y->ll R a c->ll R (.df x::a) (.df y::c)
theorem ar.getD:∀{f:a0i} {g:a0f} (j:Nat),ar f g->aN (f.getD j .non) (g.getD j .none)
 |_,_,_,.nil=>rfl
 |_,_,0,.cons r _=>r
 |_,_,j+1,.cons _ t=>ar.getD j t
theorem ll.vals(r:ar zs ws):∀{a:List (Sr V)} {c:List (Sr MO)},ll aN a c->ar (a.map (Sr.pick .non zs)) (c.map (Sr.pick .none ws))
 |_,_,.nil=> .nil
 |_,_,.kw (j:=j) h=> .cons (ar.getD j r) (ll.vals r h)
 |_,_,.df q h=> .cons q (ll.vals r h)
theorem bb.getD{K:M9}{H:Hp}:∀{ds:a0d} {f:a0i} (j:Nat),bb K F H ds f->c4 K F H (ds.getD j .non) (f.getD j .non)
 |[],f,j,h=>by have q:f=[]:=h;subst q;rfl
 |d::ds,f,0,h=>by
  obtain⟨x,r,e,g,i⟩:=h;subst e;exact g
 |d::ds,f,j+1,h=>by
  obtain⟨x,r,e,g,i⟩:=h;subst e;exact bb.getD j i
theorem ll.den{K:M9}{H:Hp}(r:bb K F H f zs):∀{a:List (Sr D)} {c:List (Sr V)},ll (λd v=>∀F H,c4 K F H d v) a c->bb K F H (a.map (Sr.pick .non f)) (c.map (Sr.pick .non zs))
 |_,_,.nil=>bb.nil
 |_,_,.kw (j:=j) h=>bb.cons (bb.getD j r) (ll.den r h)
 |_,_,.df q h=>bb.cons (q F H) (ll.den r h)
theorem ll.len{b f:Type}{R:b->f->Prop}:∀{a:List (Sr b)} {c:List (Sr f)},ll R a c->a.length=c.length
 |_,_,.nil=>rfl
 |_,_,.kw h=>by rw[M5,M5,ll.len h]
 |_,_,.df _ h=>by rw[M5,M5,ll.len h]
structure D2 (K:M9) (fd:Nk) (ps ks:a0h) (n:Nat) (src:List (Sr D)):Prop where
 ex:∃(sv:List (Sr MO)) (sx:List (Sr V)),ll aN sx sv/\ll (λd v=>∀F H,c4 K F H d v) src sx/\∀(s:MQ) (us ws:a0f),K.In s.heap->us.length=n->ws.length=ks.length->Tu s fd ⟨us,ks.zip ws⟩ (ps.zip (us++sv.map (Sr.pick .none ws)))
 len:ps.length=n+src.length
 pos:0<ps.length
theorem D2.kb{K:M9}{e a:a0h}(h:D2 K p e a n src):∃(c:List (Sr MO)) (f:List (Sr V)),ll (λd v=>∀F H,c4 K F H d v) src f/\D_ K p e a (gK .none n a.length c) (gK .non n a.length f):=by
 obtain⟨c,f,z,l,b⟩:=h.ex;refine⟨c,f,l,λs w k m g=>?_,λ{B w o k} i j=>?_⟩
 .unfold gK at g⊢
  split at g
  .rename_i q
   rw[MU q];exact b s w k m q.1 q.2
  .exact Nh g (by have:=h.pos;simp;lia)
 .unfold gK
  by_cases q:B.length=n/\o.length=a.length
  .rw[MU q,MU (by rw[<-i.length,<-j.length];exact q)]
   exact i.append (ll.vals j z)
  .rw[MS q,MS (by rw[<-i.length,<-j.length];exact q)]
   exact .nil
variable{p c:Ri}{x:NA}{k n:Nat}{f:MK}{d:Nk}{a h:a0h}{b:List TC}{y:Option NA}
def KA(m:a0d->M D)(g:FL)(a:a0d):FD:=λδ=>M.bind (g δ) λb=>m (b++a)
theorem G3{c:a0d}(G:eg X.prog X.w X.K X.mg X.base (fh X.prog X.w) k f d a (J_ X.K n m))(u:d4 k X.A)(v:Gl X x)(V:X.mg x=My (.ref f))(y:Sd X.K (.ref f)=MH)(I:bO X.K d a c)(J:cc (fh X.prog X.w) X E)
  (s:PA X (e::z) (i0 X.K g E)) (hn:∀δ β r ab,g δ β=My (.ok r,ab)->r.length+c.length=n) (h:b0c x:=by decide) (L:b0a X e z:=by rfl) (i:b0b X pos z:=by rfl):
  PE X (.Call (.Name x p) (e::z) [] pos) (tV X.K (KA m g c) E):=by
 obtain⟨ds,N,b,O,M⟩:=I;refine(nk G u v V y b O J s h L i).imp λσ H Q T=>ko T λF δ β fr U r=>⟨F,δ,β,fr,U,?_⟩;obtain⟨P,j,o,q⟩:=run.bind (R:=bb X.K F) r;refine⟨P,j,o,?_⟩;cases P with
 |error C=>exact q
 |ok as=>
  intro vs B t S;obtain⟨d',D,W,l,r1⟩:=q vs B t S;have Y:=hn _ _ _ _ o;have Z:=(M F B).length;refine⟨by rw[Nb,<-S.length,<-Z,Y],F,d'++c,D,W.fr,bb.append l (M F B),run.toE r1⟩
theorem Iy:PK X [] (i0 X.K az E):=λpos g s σ H Q I h=>by obtain⟨F,δ,β,fr,i,r⟩:=h;exact Jt pos g s σ H Q I (run.ret fr r bb.nil)
theorem GW{f:FD}(k:PE X e (tV X.K f E))(m:PK X b (i0 X.K g E)):PK X (⟨y,e,c⟩::b) (i0 X.K (ae f g) E):=λpos h s σ H Q I ⟨F,δ,β,fr,j,r⟩=>
 Hr k m pos h s σ H Q I ⟨F,δ,β,fr,j,(run.bind (R:=c4 X.K F) r).mono λv x ⟨d,a,t,n,p⟩=>
  ⟨F,δ,a,t.fr,j.tr (t.tr fr),(run.bind (R:=bb X.K F) p).mono λz u o=>oa o λB w l i q=>run.ret l.fr q (bb.cons (c4.tr (l.tr t.fr) _ _ n) i)⟩⟩
theorem rN{b:FL}{δ:Dn}{β a c:Bg}{e d:a0d}(g:j δ β=My (.ok e,a))(h:m_ l m b e (lb q cx δ) a=My (.ok d,c))(i:d.length<=M1):eK q cx j l m b δ β=My (.ok (.lst d),c):=by
 unfold eK;simp only[g,h,i,NN]
def XJ:Nat->D->Prop
 |_,.int _=>True
 |_,.bl _=>True
 |_,.non=>True
 |n+1,.lst xs=>∀x∈xs,XJ n x
 |n+1,.tup xs=>∀x∈xs,XJ n x
 |_,_=>False
theorem Hq:∀(n:Nat) (d:D),XJ n d->∃p,n_ d=My p/\p.canLay0=MH/\p.depth<=n+1:=by
 have g:∀(n:Nat) (b:a0d),(∀x∈b,∃p,n_ x=My p/\p.canLay0=MH/\p.depth<=n)->∃a,toPs b=My a/\V2 a=MH/\Qx a<=n:=by
  intro n b
  induction b with
  |nil=>intro _;exact⟨[],rfl,rfl,by simp[Qx]⟩
  |cons x b c=>
   intro h;obtain⟨p,q,r,u⟩:=h x MP;obtain⟨a,j,l,o⟩:=c λy t=>h y (MJ _ t);refine⟨p::a,?_,?_,?_⟩
   .unfold toPs;simp only[q,j]
   .simp[V2,r,l]
   .simp only[Qx];lia
 intro n
 induction n with
 |zero=>
  intro d h;cases d with
  |int i=>exact⟨.int i,rfl,rfl,by simp[Po]⟩
  |bl i=>exact⟨.bool i,rfl,rfl,by simp[Po]⟩
  |non=>exact⟨.none,rfl,rfl,by simp[Po]⟩
  |_=>exact h.elim
 |succ n c=>
  intro d h;cases d with
  |int i=>exact⟨.int i,rfl,rfl,by simp[Po]⟩
  |bl i=>exact⟨.bool i,rfl,rfl,by simp[Po]⟩
  |non=>exact⟨.none,rfl,rfl,by simp[Po]⟩
  |lst b=>
   obtain⟨a,j,l,o⟩:=g (n+1) b λx m=>c x (h x m);exact⟨.list a,by unfold n_;simp[j],by simp[PyData.canLay0,l],by simp only[Po];lia⟩
  |tup b=>
   obtain⟨a,j,l,o⟩:=g (n+1) b λx m=>c x (h x m);exact⟨.tuple a,by unfold n_;simp[j],by simp[PyData.canLay0,l],by simp only[Po];lia⟩
  |_=>exact h.elim
theorem vY{d:D}(n:Nat)(h:XJ n d)(a:n<=60):lE d=MH:=by
 obtain⟨p,g,i,j⟩:=Hq n d h;unfold lE;simp only[g,Rq,i,Py,Nv];lia
def Gw(g:G)(δ:Ds)(β:Bg)(Q:a0v):Prop:=∃o ab,g δ β=My (o,ab)/\Q o ab
end
section
variable{g h a b s p:G}{δ δ1:Ds}{β β1 β2 β3:Bg}{Q R:a0v}{i:Nat}{f q u v:FD}{fl:FL}{j:Dn->M a0o}{d x y z:D}{ds as:a0d}{t:a0q}{c:Bool}{C:MK}{K:M9}
theorem Gw.mono(k:Gw g δ β R)(q:∀o β,R o β->Q o β):Gw g δ β Q:=let ⟨o,β',e,r⟩:=k;⟨o,β',e,q _ _ r⟩
theorem Hg:ay g gNil=g:=by
 funext δ β;unfold ay gNil;split
 .rename_i δ1 β1 e;exact e.symm
 .rfl
theorem am(k:Gw (ay g gNil) δ β Q):Gw g δ β Q:=by rw[Hg]at k;exact k
theorem bp(q:Q (.nx δ) β):Gw gNil δ β Q:=⟨_,_,rfl,q⟩
theorem eW(e:g δ β=My (.nx δ1,β1))(k:Gw h δ1 β1 Q):Gw (ay g h) δ β Q:=by
 obtain⟨o,j,l,q⟩:=k;exact⟨o,j,by unfold ay;rw[e];exact l,q⟩
theorem m3(k:Gw (ay a (ay b h)) δ β Q):Gw (ay (ay a b) h) δ β Q:=by
 obtain⟨o,j,l,q⟩:=k;refine⟨o,j,?_,q⟩;rw[<-l];unfold ay;split<;>rename_i e<;>(split at e<;>simp_all)
theorem bD(k:Gw h δ β Q):Gw (ay gNil h) δ β Q:=eW rfl k
theorem aC(e:f (vw δ) β=My (.ok d,β1))(k:Gw h (δ.set i (My (.sh d))) β1 Q):Gw (ay (cD i f) h) δ β Q:=eW (by unfold cD;rw[e]) k
theorem zr(e:f (fc δ) β=My (.ok d,β1))(k:Gw h (δ.set i (My (.sh d))) β1 Q)(j:eZ d=MH:=by rfl):Gw (ay (ui i f) h) δ β Q:=eW (by unfold ui;simp only[e,j,NN]) k
theorem pC(e:g δ β=My (.ex C δ1,β1))(q:Q (.ex C δ1) β1):Gw (ay g h) δ β Q:=⟨_,_,by unfold ay;rw[e],q⟩
theorem jf(e:f (fc δ) β=My (.ok d,β1))(k:Gw h δ β1 Q):Gw (ay (gi f) h) δ β Q:=eW (by unfold gi;rw[e]) k
theorem qW(e:f (fc δ) β=My (.error C,β1))(q:Q (.ex C δ) β1):Gw (ay (gi f) h) δ β Q:=pC (by unfold gi;rw[e]) q
theorem gJ(e:t (fc δ) β=My (.ok c,β1))(k:Gw (ay (if c=MH then s else p) h) δ β1 Q):Gw (ay (xi t s p) h) δ β Q:=by
 obtain⟨o,j,l,q⟩:=k;refine⟨o,j,?_,q⟩;rw[<-l];unfold ay xi;rw[e];cases c<;>rfl
theorem pF(e:t (fc δ) β=My (.ok MH,β1))(k:Gw (ay s h) δ β1 Q):Gw (ay (xi t s p) h) δ β Q:=gJ e k
theorem gZ(e:t (fc δ) β=My (.ok ML,β1))(k:Gw (ay p h) δ β1 Q):Gw (ay (xi t s p) h) δ β Q:=gJ e k
theorem aJ(e:f (fc δ) β=My (.ok d,β1))(q:Q (.rt d) β1):Gw (ay (jA f) h) δ β Q:=⟨_,_,by unfold ay jA;rw[e],q⟩
theorem wr(e:j (vw δ) β=My (.ok k,β1))(q:Q (.rg k) β1):Gw (ay (kF j) h) δ β Q:=⟨_,_,by unfold ay kF;rw[e],q⟩
theorem mZ(e:fl (fc δ) β=My (.ok ds,β1))(q:Q (.ex C δ) β1):Gw (ay (qK C fl) h) δ β Q:=pC (by unfold qK;rw[e]) q
theorem xH{a_:a0o}(e:j (vw δ) β=My (.ok a_,β1))(a:a_.all noLs=MH)(k:Gw h (δ.set i (My (.grd a_))) β1 Q):Gw (ay (rF i j) h) δ β Q:=eW (by unfold rF;simp only[e,a,NN]) k
theorem xG{a_:a0o}(e:v (fc δ) β=My (.ok d,β1))(j:q (fc δ) β1=My (.ok (.int ka),β2))(l:u (fc δ) β2=My (.ok (.int kb),β3))(m:δ.getD i ME=My (.grd a_))
  (n:li a_.length ka=My ja) (o:a_[ja]?=My ds) (p:li ds.length kb=My jb) (a:noL d=MH) (k:Gw h (δ.set i (My (.grd (a_.set ja (ds.set jb d))))) β3 Q):Gw (ay (lq i q u v) h) δ β Q:=
 eW (by unfold lq;simp only[e,j,l,m,n,o,p,a,NN]) k
theorem K5{a_:a0o}(e:fl (fc δ) β=My (.ok ds,β1))(j:q (fc δ) β1=My (.ok (.int ka),β2))(l:δ.getD i ME=My (.grd a_))(m:li a_.length ka=My ja)(a:noLs ds=MH)(b:a_.all noLs=MH)
  (k:Gw h (δ.set i (My (.grd (a_.set ja ds)))) β2 Q):Gw (ay (uj i q fl) h) δ β Q:=eW (by unfold uj;simp only[e,j,l,m,a,b,Q6,NN]) k
theorem pE(e:fl (vw δ) β=My (.ok ds,β1))(j:ds.length<=M1)(k:Gw h (δ.set i (My (.own ds))) β1 Q):Gw (ay (yM i fl) h) δ β Q:=eW (by unfold yM;simp only[e,j,NN]) k
theorem pI{cs:a0d}(j:δ.getD i ME=My (.own cs))(e:fl (vw δ) β=My (.ok [d],β1))(l:cs.length<M1)(k:Gw h (δ.set i (My (.own (cs++[d])))) β1 Q):Gw (ay (yP i fl) h) δ β Q:=
 eW (by unfold yP;simp only[j,e,l,NN]) k
theorem pG(e:f (vw δ) β=My (.ok d,β1))(j:l d δ=My δ1)(k:Gw h δ1 β1 Q):Gw (ay (yO f l) h) δ β Q:=eW (by unfold yO;simp only[e,j,OI]) k
theorem F4(k:Gw g δ β (λo β1=>match o with| .nx δ1=>Gw h δ1 β1 Q| .ex C δ1=>Gw (ay (hd C) h) δ1 β1 Q|o=>Q o β1)):Gw (ay (jz g hd) h) δ β Q:=by
 obtain⟨o,e,j,q⟩:=k;cases o with
 |nx δ1=>exact eW (by unfold jz;rw[j]) q
 |ex C δ1=>
  obtain⟨o,β2,l,a⟩:=q;refine⟨o,β2,?_,a⟩;rw[<-l];unfold ay jz;rw[j]
 |_=>exact⟨_,e,by unfold ay jz;rw[j],q⟩
theorem X6(e:Vu K (.ref C) (.ref Dc)=My MH)(k:Gw (ay g h) δ β Q):Gw (ay (lh K Dc g r C) h) δ β Q:=by
 obtain⟨o,j,l,q⟩:=k;refine⟨o,j,?_,q⟩;rw[<-l];unfold ay lh;rw[e]
def Tn(I:Ds->Bg->Prop)(h:G)(Q:a0v):lK->Bg->Prop:=λo β=>match o with
 | .nx δ=>I δ β
 | .ct δ=>I δ β
 | .bk δ=>Gw h δ β Q
 |o=>Q o β
theorem bT(e:it δ β=My (.ok ds,β1))(u:Nat->Ds->Bg->Prop)(N:u 0 δ β1)(b:∀i d δ β,ds[i]?=My d->u i δ β->∃δ1,tg d δ=My δ1/\Gw g δ1 β (Tn (u (i+1)) h Q))(k:∀δ β,u ds.length δ β->Gw h δ β Q):
  Gw (ay (lw it tg g) h) δ β Q:=by
 have c:∀(a:a0d) (j:Nat) (δ:Ds) (β:Bg),a=ds.drop j->j+a.length=ds.length->u j δ β->Gw (ay (o3 tg g a) h) δ β Q:=by
  intro a
  induction a with
  |nil=>
   intro j δ β _ B F;simp at B;exact eW (g:=o3 tg g []) rfl (k δ β (B▸F))
  |cons d a s=>
   intro j δ β L B F;have O:ds[j]?=My d:=by
    have:=N6 (λl=>l[0]?) L;simpa[Wh]using this.symm
   obtain⟨δ1,v,o,β2,A,q⟩:=b j d δ β O F;have H:a=ds.drop (j+1):=by
    have:=N6 List.tail L;simpa[List.tail_drop]using this
   have f:∀m,u (j+1) m β2->Gw (ay (o3 tg g a) h) m β2 Q:=λm I=>s (j+1) m β2 H (by simp at B;lia) I;have n:∀{r:G} {m:Ds},Gw (ay r h) m β2 Q->o3 tg g (d::a) δ β=r m β2->Gw (ay (o3 tg g (d::a)) h) δ β Q:=λ{r m} ⟨T,p,J,U⟩ W=>⟨T,p,by rw[<-J];unfold ay;rw[W],U⟩;cases o with
   |nx m=>exact n (r:=o3 tg g a) (f m q) (by rw[o3];simp only[v,A])
   |ct m=>exact n (r:=o3 tg g a) (f m q) (by rw[o3];simp only[v,A])
   |bk m=>exact n (r:=gNil) (bD q) (by rw[o3];simp only[v,A];rfl)
   |rt d'=>exact⟨_,β2,by unfold ay;rw[o3];simp only[v,A],q⟩
   |rg d'=>exact⟨_,β2,by unfold ay;rw[o3];simp only[v,A],q⟩
   |ex C m=>exact⟨_,β2,by unfold ay;rw[o3];simp only[v,A],q⟩
 obtain⟨o,p,J,q⟩:=c ds 0 δ β1 (by simp) (by simp) N;refine⟨o,p,?_,q⟩;rw[<-J];unfold ay lw;rw[e]
theorem gF{S:Except MK D->Bg->Prop}(k:Gw g (o0 n ds) β (λo j=>match o with| .rt d=>S (.ok d) j| .nx _=>S (.ok .non) j| .ex C _=>S (.error C) j|_=>False)):∃r j,ia n g ds β=My (r,j)/\S r j:=by
 obtain⟨o,j,e,q⟩:=k;cases o with
 |rt d=>exact⟨.ok d,j,by unfold ia;rw[e],q⟩
 |nx δ=>exact⟨.ok .non,j,by unfold ia;rw[e],q⟩
 |ex C δ=>exact⟨.error C,j,by unfold ia;rw[e],q⟩
 |_=>exact q.elim
theorem Iq{S:a0o->Bg->Prop}(k:Gw g (o0 n ds) β (λo j=>match o with| .rg d=>S d j|_=>False)):∃r j,lH n g ds β=My (.ok r,j)/\S r j:=by
 obtain⟨o,j,e,q⟩:=k;cases o with
 |rg d=>exact⟨d,j,by unfold lH;rw[e],q⟩
 |_=>exact q.elim
theorem aK(k:Gw g (o0 n ds) β (λo j=>j=β/\(match o with| .rt d=>r= .ok d| .nx _=>r= .ok .non| .ex C _=>r= .error C|_=>False))):ia n g ds β=My (r,β):=by
 obtain⟨l,j,e,a,b⟩:=gF (S:=λl j=>j=β/\r=l) (n:=n) (ds:=ds) (β:=β) (k.mono λo j h=>by
  cases o<;>first|exact h|exact h.2)
 subst a b;exact e
theorem xz(k:Gw g (o0 n ds) β (λo j=>j=β/\(match o with| .rg d=>r=d|_=>False))):lH n g ds β=My (.ok r,β):=by
 obtain⟨l,j,e,a,b⟩:=Iq (S:=λl j=>j=β/\r=l) (n:=n) (ds:=ds) (β:=β) (k.mono λo j h=>by
  cases o<;>first|exact h|exact h.2)
 subst a b;exact e
theorem ak{δ:Dn}(e:fl δ β=My (.ok as,β1))(j:m as β1=My r):bw m fl δ β=My r:=by unfold bw M.bind;rw[e];exact j
theorem wq{δ:Dn}(e:fl δ β=My (.ok as,β1))(j:m as β1=My r):vN m fl δ β=My r:=by unfold vN M.bind;rw[e];exact j
theorem dq{δ:Dn}(e:q δ β=My (.ok x,β1))(j:u δ β1=My (.ok y,β2))(k:op x y=My z):f2 op q u δ β=My (.ok z,β2):=by unfold f2 M.bind;rw[e];simp only[j,M.ofO,k]
theorem x_1{δ:Dn}(e:q δ β=My (.ok x,β1))(j:op x=My z):f1 op q δ β=My (.ok z,β1):=by unfold f1 M.bind;rw[e];simp only[M.ofO,j]
theorem ai{δ:Dn}(e:fl δ β=My (.ok as,β1))(j:op as=My z):br op fl δ β=My (.ok z,β1):=by unfold br M.bind;rw[e];simp only[M.ofO,j]
theorem aa{δ:Dn}(e:q δ β=My (.ok x,β1))(j:fl δ β1=My (.ok as,β2)):ae q fl δ β=My (.ok (x::as),β2):=by unfold ae M.bind;rw[e];simp only[j,M.ret]
theorem bE{δ:Dn}(e:fl δ β=My (.ok as,β1))(j:op as=My ds):cK op fl δ β=My (.ok ds,β1):=by unfold cK M.bind;rw[e];simp only[j,M.ofO]
theorem cL{δ:Dn}(e:q δ β=My (.ok x,β1))(j:ge x=My ds):ef q δ β=My (.ok ds,β1):=by unfold ef M.bind;rw[e];simp only[j,M.ofO]
theorem hE{δ:Dn}(e:q δ β=My (.ok (.bl c),β1)):fB q δ β=My (.ok c,β1):=by unfold fB M.bind;rw[e];rfl
theorem gX{δ:Dn}(e:q δ β=My (.ok x,β1))(j:Ej x=My c):yV q δ β=My (.ok c,β1):=by unfold yV M.bind;rw[e];simp only[M.ofO,j]
theorem gY{δ:Dn}(e:t δ β=My (.ok c,β1)):yW t δ β=My (.ok (!c),β1):=by unfold yW M.bind;rw[e];rfl
theorem bv(a:β.ok)(k:0<lot)(l:lot<1073741824):∃v e,dY [.bag,.int lot] β=My (.ok (.int v),e)/\0<=v/\v<lot/\e.ok:=by
 obtain⟨b,c,j⟩:=wM a k;exact⟨_,_,E4 a k l,b,c,j⟩
theorem kD{n:Nat}{k:Int}(e:0<=k)(j:k<n):li n k=My k.toNat:=by unfold li;rw[MU e,MU j]
theorem BV{k:Int}{d:D}(e:0<=k)(h:l[k.toNat]?=My d):j0 (.lst l) (.int k)=My d:=by
 have j:k.toNat<l.length:=(MR.mp h).1;show o_ l k=My d;unfold o_;rw[kD e (by lia)];exact h
theorem rC{x y:D}:j0 (.tup [x,y]) (.int 0)=My x:=rfl
theorem o7{x y:D}:j0 (.tup [x,y]) (.int 1)=My y:=rfl
end
section
variable{β β1 β2:Bg}{f g h i:FD}{t u:a0q}{δ:Dn}{c e:Bool}{x y z w:Int}{d:D}
theorem xE(a:t δ β=My (.ok MH,β1)):rJ t u δ β=My (.ok MH,β1):=by
 unfold rJ M.bind;rw[a];rfl
theorem fF(a:t δ β=My (.ok ML,β1))(b:u δ β1=My (.ok e,β2)):rJ t u δ β=My (.ok e,β2):=by
 unfold rJ M.bind;rw[a];simp[b]
theorem le_int:F3 (.int x) (.int y)=My (.bl (decide (x<=y))):=rfl
theorem lt_int:SF (.int x) (.int y)=My (.bl (decide (x<y))):=rfl
theorem gt_int:gtD (.int x) (.int y)=My (.bl (decide (y<x))):=rfl
theorem ge_int:geD (.int x) (.int y)=My (.bl (decide (y<=x))):=rfl
theorem wo(a:f δ β=My (.ok (.int x),β))(b:g δ β=My (.ok (.int y),β))(j:h δ β=My (.ok (.int z),β)):kG F3 F3 f g h δ β=My (.ok (.bl (decide (x<=y)&&decide (y<=z))),β):=by
 unfold kG M.bind;rw[a];simp only[b,le_int,M.ofO,asB];by_cases q:x<=y
 .simp only[q,decide_true,NN,j,le_int,Py]
 .simp only[q,V7,Na,N1,M.ret,QU]
theorem DV(a:f δ β=My (.ok (.int x),β))(b:g δ β=My (.ok (.int y),β))(j:h δ β=My (.ok (.int z),β))(k:i δ β=My (.ok (.int w),β)):nZ F3 F3 F3 f g h i δ β=My (.ok (.bl (decide (x<=y)&&decide (y<=z)&&decide (z<=w))),β):=by
 unfold nZ GM M.bind;rw[a];simp only[b,le_int,M.ofO,asB];by_cases q:x<=y
 .simp only[q,decide_true,NN,j,le_int,Py]
  by_cases c:y<=z
  .simp only[c,decide_true,NN,k,le_int,Py]
  .simp only[c,V7,Na,N1,M.ret,QU]
 .simp only[q,V7,Na,N1,M.ret,QU]
theorem BJ{x:Int}(a:-1000000<=x)(b:x<=1000000):x.natAbs.log2<1920:=by
 have h:x.natAbs<2^20:=by lia
 by_cases z:x.natAbs=0
 .rw[z];decide
 .have:=(Uf z).mpr h
  lia
theorem zo(a:j δ β=My (.ok (),β)):yX j δ β=My (.ok .txt,β):=by
 unfold yX M.bind;rw[a];rfl
noncomputable abbrev gI(a_:LI):a0o:=a_.map λr=>r.map D.int
noncomputable abbrev lG(c:a0o):D:= .lst (c.map D.lst)
abbrev aG(a_:LI):D:=lG (gI a_)
noncomputable def pD(p:Int×Int):D:= .tup [.int p.1,.int p.2]
abbrev gP(b:LP):a0o:=b.map λr=>r.map pD
abbrev c8(b:LP):D:=lG (gP b)
def e_{e:Type}(r c:Nat)(m:List (List e)):Prop:=m.length=r/\∀d∈m,d.length=c
noncomputable def tot(a_:LI):Int:=(a_.map N0).sum
theorem bh(h:n<=1000):n<=M1:=Ng h (by decide)
theorem jS:∀r:a0c,noLs (r.map D.int)=MH
 |[]=>rfl
 |x::r=>by
  show(noL (.int x)&&noLs (r.map D.int))=MH;rw[jS r];rfl
theorem qr:∀r:a0Y,noLs (r.map pD)=MH
 |[]=>rfl
 |x::r=>by
  show(noL (pD x)&&noLs (r.map pD))=MH;rw[qr r];rfl
theorem AY(a_:LI):(gI a_).all noLs=MH:=by
 rw[OR];intro x a;obtain⟨r,_,rfl⟩:=M8.mp a;exact jS r
theorem JS(b:LP):(gP b).all noLs=MH:=by
 rw[OR];intro x a;obtain⟨r,_,rfl⟩:=M8.mp a;exact qr r
theorem e_.map{d a:Type}{f:d->a}{r c:Nat}{m:List (List d)}(h:e_ r c m):e_ r c (m.map λx=>x.map f):=⟨by rw[MD,h.1],λe b=>by
 obtain⟨x,j,rfl⟩:=M8.mp b;rw[MD];exact h.2 x j⟩
theorem e_.set{d:Type}{r c i j:Nat}{m:List (List d)}{row:List d}{v:d}(h:e_ r c m)(b:m[i]?=My row):e_ r c (m.set i (row.set j v)):=⟨by rw[NT,h.1],λx a=>by
 rcases Oc a with a|rfl
 .exact h.2 x a
 .rw[NT];exact h.2 row (M2 b)⟩
theorem e_.at{d:Type}{r c i:Nat}{m:List (List d)}(h:e_ r c m)(b:i<r):∃row,m[i]?=My row/\row.length=c:=by
 have a:i<m.length:=by rw[h.1];exact b
 exact⟨m[i],MI a,h.2 _ (NB a)⟩
theorem zf{c:Type}{l:List c}{i:Nat}(h:i<l.length):∃x,l[i]?=My x:=⟨l[i],MI h⟩
theorem kh:∀{c:a0c} {j:Nat} {x v:Int},c[j]?=My x->(c.set j v).sum=c.sum-x+v
 |[],j,x,v,h=>by simp at h
 |y::c,0,x,v,h=>by
  simp at h;subst h;simp only[List.set_cons_zero,Nn];lia
 |y::c,j+1,x,v,h=>by
  have d:c[j]?=My x:=by simpa using h
  simp only[List.set_cons_succ,Nn,kh d];lia
theorem G5{a_:LI}{i j:Nat}{row:a0c}{x v:Int}(a:a_[i]?=My row)(b:row[j]?=My x):tot (a_.set i (row.set j v))=tot a_-x+v:=by
 unfold tot;rw[Pw,kh (x:=row.sum) (by rw[MM,a];rfl),kh b];lia
theorem JT{a_:LI}{i j:Nat}{row:a0c}(h:∀r∈a_,∀x∈r,0<=x)(k:a_[i]?=My row)(l:0<=v):∀r∈a_.set i (row.set j v),∀x∈r,0<=x:=λr a x b=>by
 rcases Oc a with a|rfl
 .exact h r a x b
 .rcases Oc b with b|rfl
  .exact h row (M2 k) x b
  .exact l
theorem lZ:∀{xs:a0c},(∀x∈xs,0<=x)->0<=xs.sum
 |[],_=>by simp
 |y::xs,h=>by
  have:=lZ (xs:=xs) λx a=>h x (MJ _ a);have:=h y MP;simp only[Nn];lia
theorem vn:∀{xs:a0c},(∀x∈xs,0<=x)->∀x∈xs,x<=xs.sum
 |[],_,x,hx=>by cases hx
 |y::xs,h,x,hx=>by
  have:=lZ (xs:=xs) λx hx=>h x (MJ _ hx);have:=h y MP;rcases M4.mp hx with rfl|hx
  .simp only[Nn];lia
  .have:=vn (xs:=xs) (λx hx=>h x (MJ _ hx)) x hx
   simp only[Nn];lia
theorem J3(h:∀r∈m,∀x∈r,0<=x):∀r∈m,∀x∈r,x<=tot m:=λr a x b=>by
 have k:=vn (h r a) x b;have l:=vn (xs:=m.map N0) (λs c=>by
  obtain⟨q,j,rfl⟩:=M8.mp c;exact lZ (h q j)) r.sum (M8.mpr ⟨r,a,rfl⟩)
 unfold tot;lia
structure V_ (r c:Nat) (a_:LI):Prop where
 shp:e_ r c a_
 nn:∀row∈a_,∀x∈row,0<=x
 tot:tot a_<=40
 r0:1<=r
 r1:r<=4
 c0:1<=c
 c1:c<=6
theorem fJ(c:a0c):iS [.lst (c.map D.int)]=My (.int c.sum):=by
 show((dn (c.map D.int)).map λl=>D.int l.sum)=_;have:∀c:a0c,dn (c.map D.int)=My c:=λc=>by
  induction c with
  |nil=>rfl
  |cons n c d=>simp[dn,d]
 rw[this];rfl
theorem w_{n:Int}(a:0<=n)(h:n<=10^9):gm [.int n]=My (aZ 0 n.toNat):=by
 have q:(decide (-(2^62)<=n)&&decide (n<2^62))=MH:=by
  simp only[No,Nv];lia
 show(if(decide (-(2^62)<=n)&&decide (n<2^62))=MH then My (aZ 0 n.toNat)else ME)=_;rw[MU q]
theorem tW{d:D}(h:(aZ 0 n)[k]?=My d):k<n/\d= .int (k:Int):=by
 unfold aZ at h;have a:k<n:=by
  have:=(MR.mp h).1;simpa using this
 rw[MM,On a]at h;exact⟨a,by cases h;simp⟩
theorem mj(n:Nat):(aZ 0 n).length=n:=by simp[aZ]
theorem bo{d:Type}{f:FD}{δ:Dn}{β:Bg}(xs:List d)(u v:d->D)(a:it δ β=My (.ok (xs.map u),β))
  (b:∀x∈xs,∃c,tg (u x) (lb nv cx δ)=My c/\f c β=My (.ok (v x),β)) (j:xs.length<=M1):eK nv cx it tg (λ_=>M.ret MH) (lB f) δ β=My (.ok (.lst (xs.map v)),β):=by
 refine rN a ?_ (by rw[MD];exact j);have e:∀xs:List d,(∀x∈xs,∃c,tg (u x) (lb nv cx δ)=My c/\f c β=My (.ok (v x),β))->m_ tg (λ_=>M.ret MH) (lB f) (xs.map u) (lb nv cx δ) β=My (.ok (xs.map v),β):=by
  intro xs
  induction xs with
  |nil=>intro _;rfl
  |cons x xs g=>
   intro h;obtain⟨c,k,l⟩:=h x MP;have m:=g λy n=>h y (MJ _ n);rw[MZ,m_];simp only[k,M.bind,M.ret,reduceIte,lB,l,m,MZ,Qq,Pp]
 exact e xs b
theorem mK{e:Type}{f:FL}{δ:Dn}{β:Bg}(d:List e)(u:e->D)(v:e->a0d)(a:it δ β=My (.ok (d.map u),β))
  (b:∀x∈d,∃c,tg (u x) (lb nv cx δ)=My c/\f c β=My (.ok (v x),β)) (j:d.length<=M1):gD nv cx it tg (λ_=>M.ret MH) (pp f) δ β=My (.ok (d.map v),β):=by
 have g:∀d:List e,(∀x∈d,∃c,tg (u x) (lb nv cx δ)=My c/\f c β=My (.ok (v x),β))->pk tg (λ_=>M.ret MH) (pp f) (d.map u) (lb nv cx δ) β=My (.ok (d.map v),β):=by
  intro d
  induction d with
  |nil=>intro _;rfl
  |cons x d i=>
   intro h;obtain⟨c,k,l⟩:=h x MP;have m:=i λy n=>h y (MJ _ n);rw[MZ,pk];simp only[k,M.bind,M.ret,reduceIte,pp,l,m,MZ,Qq,Pp]
 unfold gD;simp only[a,g d b,MD,j,NN]
theorem CZ{e:Type}{f:FD}{δ:Dn}{β:Bg}(d:List e)(u:e->D)(v:e->D)(a:it δ β=My (.ok (d.map u),β))
  (b:∀x∈d,∃c,tg (u x) (lb nv cx δ)=My c/\f c β=My (.ok (v x),β)) (j:d.length<=M1):iq nv cx it tg (λ_=>M.ret MH) (lB f) δ β=My (.ok (d.map v),β):=by
 have g:∀d:List e,(∀x∈d,∃c,tg (u x) (lb nv cx δ)=My c/\f c β=My (.ok (v x),β))->m_ tg (λ_=>M.ret MH) (lB f) (d.map u) (lb nv cx δ) β=My (.ok (d.map v),β):=by
  intro d
  induction d with
  |nil=>intro _;rfl
  |cons x d i=>
   intro h;obtain⟨c,k,l⟩:=h x MP;have m:=i λy n=>h y (MJ _ n);rw[MZ,m_];simp only[k,M.bind,M.ret,reduceIte,lB,l,m,MZ,Qq,Pp]
 unfold iq;simp only[a,g d b,MD,j,NN]
theorem Jk{ds:a0d}{c:Nat}(a:ds.length<=M1)(b:ds.length*c<=M1)(j:c<=1000000):uS ds (.int (c:Int))=My (Nd c ds).flatten:=by
 have q:(decide (-(2^63)<=(c:Int))&&decide ((c:Int)<2^63)&&decide (ds.length<=M1)&&decide (ds.length*(c:Int).toNat<=M1))=MH:=by
  simp only[No,Nv];exact⟨⟨⟨by lia,by lia⟩,a⟩,by rw[Oh];exact b⟩
 unfold uS;simp only[q,NN];rw[Oh]
theorem vJ{d:Type}(x:d):∀c:Nat,(Nd c [x]).flatten=Nd c x
 |0=>rfl
 |c+1=>by rw[Ox,Pt,vJ x c];rfl
theorem Gr{f:FD}{g:FD}{x:D}{c:Nat}{δ:Dn}{β:Bg}(b:f δ β=My (.ok x,β))(j:g δ β=My (.ok (.int (c:Int)),β))(k:c<=1000):yj (ae f az) g δ β=My (.ok (Nd c x),β):=by
 have a:[x].length<=M1:=by rw[N7];decide
 have l:[x].length*c<=M1:=by rw[N7,Nat.one_mul];exact bh k
 have r:=Jk (ds:=[x]) (c:=c) a l (by lia);rw[vJ]at r;have s:XD [x]=My [x]:=by
  unfold XD;rw[MU a]
 have m:ae f az δ β=My (.ok [x],β):=aa b rfl;unfold yj;rw[M.bind_ok m,s,M.bind_some,M.bind_ok j,r];rfl
theorem DH(c:a0X):eU (c.map D.bl)=My c:=by
 induction c with
 |nil=>rfl
 |cons b c d=>simp[eU,d]
theorem any_map{α:Type}(c:List α)(p:α->Bool):zg [.lst (c.map λx=>D.bl (p x))]=My (.bl (c.any p)):=by
 show(eU _).map _=_;rw[show(c.map λx=>D.bl (p x))=(c.map p).map D.bl by rw[MV];rfl,DH];simp only[OI,List.any_map];rfl
theorem jT{c:Type}(r:Nat)(x:c):(MX r).map (λ_=>x)=Nd r x:=by rw[List.map_const',Nr]
theorem bG{xs:a0d}(h:xs.length=r):eJ [.lst xs]=My (.int (r:Int)):=by subst h;rfl
theorem my{a_:a0o}(h:a_.length=r):eJ [lG a_]=My (.int (r:Int)):=bG (by rw[MD,h])
theorem nG{a_:a0o}{k:Nat}{row:a0d}(h:a_[k]?=My row):j0 (lG a_) (.int (k:Int))=My (.lst row):=BV (by lia) (by rw[Oh,MM,h];rfl)
theorem cw{xs:a0d}{k:Nat}{d:D}(h:xs[k]?=My d):j0 (.lst xs) (.int (k:Int))=My d:=BV (by lia) (by rw[Oh];exact h)
theorem fU{x y:D}:hZ [x,y]=My (.tup [x,y]):=by
 unfold hZ;rw[MU (show[x,y].length<=M1 by rw[M5,N7];decide)]
theorem YE:gB []=My (.lst []):=by
 unfold gB;rw[MU (show([]:a0d).length<=M1 by rw[Ub];decide)]
theorem yy{x:D}:gB [x]=My (.lst [x]):=by
 unfold gB;rw[MU (show[x].length<=M1 by rw[N7];decide)]
theorem EX{x y:Int}:vh [.int x,.int y]=My (.int (Rx x y)):=by
 unfold vh;simp only;congr 2;split<;>lia
theorem JZ{x y:Int}:yt [.int x,.int y]=My (.int (VO x y)):=by
 unfold yt;simp only;congr 2;split<;>lia
theorem eq_int{x y:Int}:gE (.int x) (.int y)=My (.bl (decide (x=y))):=by rw[Mv]
theorem ne_int{x y:Int}:fW (.int x) (.int y)=My (.bl (!decide (x=y))):=by rw[Mt]
theorem n5{i:Nat}{d:D}(h:(cU 0 j)[i]?=My d):∃x,j[i]?=My x/\d= .tup [.int (i:Int),x]:=by
 obtain⟨x,b,a⟩:=mH h;rw[Oo]at a;exact⟨x,b,a⟩
theorem bP{c a:Type}{f:c->a}{xs:List c}{i:Nat}{d:a}(h:(xs.map f)[i]?=My d):∃x,xs[i]?=My x/\d=f x:=by
 rw[MM]at h;cases q:xs[i]? with
 |none=>rw[q]at h;cases h
 |some x=>rw[q]at h;exact⟨x,rfl,by cases h;rfl⟩
noncomputable abbrev nW(r c:Nat):LP:=Nd r (Nd c (0,40))
theorem CK(r c:Nat):e_ r c (nW r c):=⟨by simp,λd h=>by rw[(OY.mp h).2];simp⟩
noncomputable def pa{d:Type}(m:List (List d))(i j:Nat):Option d:=(m[i]?).bind λc=>c[j]?
theorem M_{d:Type}{m:List (List d)}{i j k l:Nat}{c:List d}{v x:d}(a:m[i]?=My c)(h:pa (m.set i (c.set j v)) k l=My x):(k=i/\l=j/\x=v)\/(pa m k l=My x/\¬(k=i/\l=j)):=by
 unfold pa at h⊢;rw[OB]at h;by_cases q:i=k
 .subst q
  rw[MU rfl]at h;split at h
  .simp only[PD]at h
   rw[OB]at h;by_cases w:j=l
   .subst w
    rw[MU rfl]at h;split at h
    .exact .inl ⟨rfl,rfl,(Np h).symm⟩
    .cases h
   .rw[MS w]at h
    exact .inr ⟨by rw[a];exact h,λz=>w z.2.symm⟩
  .cases h
 .rw[MS q]at h
  exact .inr ⟨h,λz=>q z.1.symm⟩
theorem xB{d:Type}{m:List (List d)}{i j:Nat}{x:d}(h:pa m i j=My x):∃c∈m,x∈c:=by
 unfold pa at h;cases q:m[i]? with
 |none=>rw[q]at h;cases h
 |some c=>rw[q]at h;exact⟨c,M2 q,M2 h⟩
theorem iz{c:Type}{m:List (List c)}{i j:Nat}{row:List c}{x:c}(a:m[i]?=My row)(b:row[j]?=My x):pa m i j=My x:=by unfold pa;rw[a];exact b
structure pj (p:Int×Int):Prop where
 l:0<=p.1
 m:p.1<=p.2
 h:p.2<=40
def Kp(a_:LI)(b:LP):Prop:=∀i j x p,pa a_ i j=My x->pa b i j=My p->p.1<=x/\x<=p.2
structure u_ (r c:Nat) (b:LP):Prop where
 shp:e_ r c b
 ok:∀row∈b,∀p∈row,pj p
theorem u_.set{r c i j:Nat}{b:LP}{row:a0Y}(h:u_ r c b)(l:b[i]?=My row)(m:pj p):u_ r c (b.set i (row.set j p)):=⟨h.shp.set l,λq k x a=>by
 rcases Oc k with k|rfl
 .exact h.ok q k x a
 .rcases Oc a with a|rfl
  .exact h.ok row (M2 l) x a
  .exact m⟩
theorem u_.free(r c:Nat):u_ r c (nW r c):=⟨CK r c,λd b p a=>by
 rw[(OY.mp b).2]at a;rw[(OY.mp a).2];exact⟨by decide,by decide,by decide⟩⟩
theorem V_.le40{r c:Nat}(t:V_ r c a_):∀d∈a_,∀x∈d,0<=x/\x<=40:=λd a x b=>⟨t.nn d a x b,by
 have:=J3 t.nn d a x b;have:=t.tot;lia⟩
theorem Kp.free{r c:Nat}(t:V_ r c a_):Kp a_ (nW r c):=λi j x p k l=>by
 obtain⟨d,m,b⟩:=xB k;obtain⟨q,n,a⟩:=xB l;rw[(OY.mp n).2]at a;rw[(OY.mp a).2];exact t.le40 d m x b
theorem Kp.set{b:LP}{i j:Nat}{row:a0Y}{p:Int×Int}{x:Int}(h:Kp a_ b)(n:b[i]?=My row)(o:pa a_ i j=My x)(r:p.1<=x)(v:x<=p.2):Kp a_ (b.set i (row.set j p)):=λk l y q a m=>by
 rcases M_ n m with⟨rfl,rfl,rfl⟩|⟨m,_⟩
 .rw[o]at a
  cases a;exact⟨r,v⟩
 .exact h k l y q a m
theorem Io{e:Type}{δ:Dn}{β:Bg}(d:List e)(u:e->D)(o:e->a0d)(a:it δ β=My (.ok (d.map u),β))
  (j:∀x∈d,∃c,tg (u x) (lb nv cx δ)=My c/\b c β=My (.ok (o x),β)) (k:(d.flatMap o).length<=M1):eK nv cx it tg (λ_=>M.ret MH) b δ β=My (.ok (.lst (d.flatMap o)),β):=by
 refine rN a ?_ k;have f:∀d:List e,(∀x∈d,∃c,tg (u x) (lb nv cx δ)=My c/\b c β=My (.ok (o x),β))->m_ tg (λ_=>M.ret MH) b (d.map u) (lb nv cx δ) β=My (.ok (d.flatMap o),β):=by
  intro d
  induction d with
  |nil=>intro _;rfl
  |cons x d g=>
   intro h;obtain⟨c,l,m⟩:=h x MP;have n:=g λy p=>h y (MJ _ p);rw[MZ,m_];simp only[l,M.bind,M.ret,reduceIte,m,n,OA]
 exact f d j
theorem AW{e:Type}{f:FD}{δ:Dn}{β:Bg}(d:List e)(u v:e->D)(a:it δ β=My (.ok (d.map u),β))
  (b:∀x∈d,∃c,tg (u x) δ=My c/\f c β=My (.ok (v x),β)):Xd it tg (λ_=>M.ret MH) (lB f) δ β=My (.ok (d.map v),β):=by
 have g:∀d:List e,(∀x∈d,∃c,tg (u x) δ=My c/\f c β=My (.ok (v x),β))->m_ tg (λ_=>M.ret MH) (lB f) (d.map u) δ β=My (.ok (d.map v),β):=by
  intro d
  induction d with
  |nil=>intro _;rfl
  |cons x d i=>
   intro h;obtain⟨c,j,k⟩:=h x MP;have l:=i λy m=>h y (MJ _ m);rw[MZ,m_];simp only[j,M.bind,M.ret,reduceIte,lB,k,l,MZ,Qq,Pp]
 unfold Xd;rw[M.bind_ok a];exact g d b
theorem kM{e a:Type}(u:e->D)(v:a->D):∀(c:List e) (d:List a),eV (c.map u) (d.map v)=(c.zip d).map λp=>D.tup [u p.1,v p.2]
 |[],d=>by simp[eV]
 |x::c,[]=>by simp[eV]
 |x::c,y::d=>by simp[eV,kM u v c d]
theorem FW{c a:Type}{f g:FD}{δ:Dn}{β:Bg}{u:c->D}{v:a->D}{xs:List c}{ys:List a}(b:f δ β=My (.ok (.lst (xs.map u)),β))(j:g δ β=My (.ok (.lst (ys.map v)),β)):yo (ae f (ae g az)) δ β=My (.ok ((xs.zip ys).map λp=>D.tup [u p.1,v p.2]),β):=by
 rw[<-kM];exact bE (aa b (aa j rfl)) rfl
theorem vV{c:a0d}{k:Nat}:pe c (My (k:Int)) ME=c.drop k:=by
 unfold pe;rw[HT.sIx_none,HT.sIx_nat];by_cases h:k<=c.length
 .rw[show Rx k c.length=k by lia]
  rw[P3 (by rw[Sf];lia)]
 .rw[OT (by lia),OT (by lia)]
  simp
theorem rV{f g:FD}{δ:Dn}{β:Bg}(a:f δ β=My (.ok (.lst j),β))(b:g δ β=My (.ok (.int k),β)):Zh f (My g) ME δ β=My (.ok (.lst (pe j (My k) ME)),β):=by
 unfold Zh ul;simp only[M.bind,a,b,M.ret,M.ofO,DL,Z0]
theorem cat_ok{xs ys:a0d}(h:xs.length+ys.length<=1000):za (.lst xs) (.lst ys)=My (xs++ys):=by
 unfold za;simp only;rw[MU (bh h)]
theorem rR{xs ys:a0d}(h:xs.length+ys.length<=1000):j9 (.lst xs) (.lst ys)=My (.lst (xs++ys)):=by
 unfold j9;simp only;rw[MU (bh h)]
theorem X3{f g:FD}{δ:Dn}{β β1 β2:Bg}{x y:D}(a:f δ β=My (.ok x,β1))(b:g δ β1=My (.ok y,β2))(j:op x y=My zs):o2 op f g δ β=My (.ok zs,β2):=by
 unfold o2 M.bind;rw[a];simp only[b,M.ofO,j]
theorem K0{f:FL}{δ:Dn}{β β1:Bg}(a:f δ β=My (.ok xs,β1)):Fs f δ β=My (.ok (.lst xs),β1):=by
 unfold Fs M.bind;rw[a];rfl
def kJ:a0d->a0f->Prop
 |[],[]=>True
 | .int i::ds,.int j _::vs=>i=j/\kJ ds vs
 | .str x::ds,.str y _::vs=>x=y/\kJ ds vs
 | .bl x::ds,.bool y::vs=>x=y/\kJ ds vs
 | .non::ds,.none::vs=>kJ ds vs
 |_,_=>False
theorem il{K:M9}:∀{ds:a0d} {vs:a0f},kJ ds vs->∃c,ar c vs/\∀F H,bb K F H ds c
 |[],[],_=>⟨[],.nil,λ_ _=>bb.nil⟩
 | .int i::ds,.int j t::vs,h=>by
  obtain⟨e,h⟩:=h;subst e;obtain⟨c,a,b⟩:=il (K:=K) h;exact⟨.int i::c,.cons ⟨t,rfl⟩ a,λF H=>bb.cons rfl (b F H)⟩
 | .str i::ds,.str j t::vs,h=>by
  obtain⟨e,h⟩:=h;subst e;obtain⟨c,a,b⟩:=il (K:=K) h;exact⟨.str i::c,.cons ⟨t,rfl⟩ a,λF H=>bb.cons rfl (b F H)⟩
 | .bl i::ds,.bool j::vs,h=>by
  obtain⟨e,h⟩:=h;subst e;obtain⟨c,a,b⟩:=il (K:=K) h;exact⟨.bl i::c,.cons rfl a,λF H=>bb.cons rfl (b F H)⟩
 | .non::ds,.none::vs,h=>by
  obtain⟨c,a,b⟩:=il (K:=K) (ds:=ds) (vs:=vs) h;exact⟨.non::c,.cons rfl a,λF H=>bb.cons rfl (b F H)⟩
def Xr(K:M9)(d:D)(u:MO):Prop:=∃v,aN v u/\∀F H,c4 K F H d v
theorem m4{K:M9}{i:Int}{t:Tok}:Xr K (.int i) (.int i t):=⟨.int i,⟨t,rfl⟩,λ_ _=>rfl⟩
theorem GX{K:M9}{q3:a0J}(a:K.lookup p=My ⟨q1,q2,.seq q3 q4,q5⟩)(b:q1= .type "tuple")(j:q3.size<=M1)(k:kJ n q3.toList):Xr K (.tup n) (.ref p):=by
 obtain⟨c,l,m⟩:=il (K:=K) k;exact⟨.ref p,rfl,λF H=>⟨p,c,rfl,.inr ⟨_,q3,q4,a,b,rfl,j,l⟩,m F H⟩⟩
theorem qO{K:M9}{mg:a0j}{x:NA}{d:D}{u:MO}(h:mg x=My u)(v:Xr K d u):oj K mg x d:=let ⟨w,h1,h2⟩:=v;⟨u,w,h,h1,h2⟩
theorem KG{K:M9}{d:a0h}{us:a0f}(n:Nat)(l:d.length=n+us.length)(b:∀(s:MQ) (c:a0f),K.In s.heap->c.length=n->Tu s m ⟨c,[]⟩ (d.zip (c++us)))(h:∃c,ar c us/\∀F H,bb K F H dd c):bO K m d dd:=
 let ⟨c,h1,h2⟩:=h
 ⟨us,c,λs a j k=>b s a j (by rw[Nb]at k;lia),h1,h2⟩
theorem KE{K:M9}:∃c,ar c []/\∀F H,bb K F H [] c:=⟨[],.nil,λ_ _=>bb.nil⟩
theorem Ik{K:M9}{d:D}{u:MO}(v:Xr K d u)(h:∃c,ar c us/\∀F H,bb K F H l c):∃c,ar c (u::us)/\∀F H,bb K F H (d::l) c:=by
 obtain⟨w,a,b⟩:=v;obtain⟨c,j,k⟩:=h;exact⟨w::c,.cons a j,λF H=>bb.cons (b F H) (k F H)⟩
inductive H_ (K:M9):List (Sr D)->List (Sr MO)->Prop where
 |nil:H_ K [] []
 |kw {j:Nat} {a:List (Sr D)} {c:List (Sr MO)}:H_ K a c->H_ K (.kw j::a) (.kw j::c)
 |df {x:D} {y:MO} {a:List (Sr D)} {c:List (Sr MO)}:Xr K x y->H_ K a c->H_ K (.df x::a) (.df y::c)
theorem H_.mid{K:M9}:∀{a:List (Sr D)} {c:List (Sr MO)},H_ K a c->∃b:List (Sr V),ll aN b c/\ll (λd v=>∀F H,c4 K F H d v) a b
 |_,_,.nil=>⟨[],.nil,.nil⟩
 |_,_,.kw (j:=j) h=>let ⟨b,h1,h2⟩:=H_.mid h;⟨.kw j::b,.kw h1,.kw h2⟩
 |_,_,.df v h=>let ⟨b,h1,h2⟩:=H_.mid h;let ⟨w,g1,g2⟩:=v;⟨.df w::b,.df g1 h1,.df g2 h2⟩
theorem LM{K:M9}{d e:a0h}{c:List (Sr D)}{sv:List (Sr MO)}(h:H_ K c sv)(j:d.length=n+c.length)(k:0<d.length)(b:∀(s:MQ) (us a:a0f),K.In s.heap->us.length=n->a.length=e.length->Tu s l ⟨us,e.zip a⟩ (d.zip (us++sv.map (Sr.pick .none a)))):D2 K l d e n c:=
 ⟨let ⟨sx,h1,h2⟩:=h.mid;⟨sv,sx,h1,h2,b⟩,j,k⟩
variable{X:Cx}{E:a0r}{K:M9}{a:N3}
end
section
variable{h:G}{δ:Ds}{β β1 β2 a:Bg}{Q:a0v}{i:Nat}{j e c:FD}{fl:FL}{d l k:D}{ds:a0d}{b:a0H}
theorem K1{δ:Dn}{β β1:Bg}(a:t δ β=My (.ok MH,β1))(b:f δ β1=My r):Xc t f g δ β=My r:=by
 unfold Xc M.bind;rw[a];exact b
theorem K2{δ:Dn}{β β1:Bg}(a:t δ β=My (.ok ML,β1))(b:g δ β1=My r):Xc t f g δ β=My r:=by
 unfold Xc M.bind;rw[a];exact b
theorem pA{d:D}{δ:Dn}{β:Bg}(e:δ.getD n ME=My d):ag n δ β=My (.ok d,β):=by unfold ag;rw[e];rfl
end
section
variable{β β1 a:Bg}{f g h:FD}{δ:Dn}{x y z:Int}
theorem rW(a:f δ β=My (.ok (.int x),β))(b:g δ β=My (.ok (.int y),β))(c:h δ β=My (.ok (.int z),β)):kG F3 SF f g h δ β=My (.ok (.bl (decide (x<=y)&&decide (y<z))),β):=by
 unfold kG M.bind;rw[a];simp only[b,le_int,M.ofO,asB];by_cases q:x<=y
 .simp only[q,decide_true,NN,c,lt_int,Py]
 .simp only[q,V7,Na,N1,M.ret,QU]
theorem qv{K:M9}{f:NA}:∀{w:a0h} {y:a0d} {g:a0i},bb K F H y g->(w.zip y).lookup f=My d->∃v,(w.zip g).lookup f=My v/\c4 K F H d v
 |[],y,g,h,e=>by simp at e
 |n::w,[],g,h,e=>by simp at e
 |n::w,c::y,g,h,e=>by
  obtain⟨x,r,q,a,b⟩:=h;subst q;rw[OZ,Qs]at e⊢;split at e
  .rename_i z
   cases e;exact⟨x,rfl,a⟩
  .rename_i z
   exact qv b e
theorem sK{w:Type}:∀{f:a0h} {g:List w},m∉f->(f.zip g).lookup m=ME
 |[],g,_=>by simp
 |n::f,[],_=>by simp
 |n::f,x::g,h=>by
  rw[OZ,Qs];have a:m≠n:=λz=>h (by rw[z];exact MP);have b:m∉f:=λz=>h (MJ _ z);rw[show(m==n)=ML by simpa using a];exact sK b
theorem bO.nil{K:M9}(b:ci K c ps []):bO K c ps []:=⟨[],[],b,.nil,λ_ _=>bb.nil⟩
end
section
variable{X:Cx}{E:a0r}{o e:Expr}{es:List Expr}{P p s c:Ri}{x m:NA}{k n:Nat}{f C:MK}{fd:Nk}{ps ks:a0h}{aa:List TC}
noncomputable def yS(C:MK)(f:NA):D->a0k
 | .obj C' ns ds=>if C'=C then(ns.zip ds).lookup f else ME
 |_=>ME
theorem iQ{f:NA}(c:r_ X.K C)(n:eQ X.K C f)(j:PE X e (tV X.K g E))(l:QS e f X.env (NW e X.env)=NW e X.env:=by rfl):PE X (.Attribute e f P) (tV X.K (f1 (yS C f) g) E):=
 (JF j l).imp λI H Q i=>ko i λF o p fr q h=>⟨F,o,p,fr,q,(run.bind (R:=c4 X.K F) h).mono λv s i=>by
  obtain⟨d,x,t,m,D⟩:=i;obtain⟨M,b,k⟩:=run.ofO D;cases d<;>first|cases b|skip
  rename_i r S V;unfold yS at b;simp only at b;split at b
  .rename_i z
   subst z;unfold c4 at m;obtain⟨a,G,N,rfl,J,u,L,y⟩:=m;obtain⟨w,A,B⟩:=qv y b;exact⟨a,r,G,_,w,rfl,u,c,n,A,k w s (To.refl t.fr) B⟩
  .cases b⟩
def gj{c:Type}(C:MK)(m:NA)(a:a0d->M c)(b:FD)(g:FL)(f:a0d):Dn->M c:=λe=>M.bind (b e) λd=>match d with
 | .obj C' ns _=>if C'=C/\m∉ns then M.bind (g e) λk=>a (d::(k++f))else M.fail
 |_=>M.fail
def spT{c:Type}(K:M9)(T:Fx->Hp->Hp->c->V->Prop)(n:Nat)(m:a0d->M c):Sp:=λe H Q E=>e.length=n/\∃F f k,Fr F H k/\bb K F H f e/\run (T F H) F (λ_=>E) [] (m f) H Q k
theorem vi{x:Type}{T:Fx->Hp->Hp->x->V->Prop}{N:a0d->M x}{O:FD}{g:FL}{w:a0d}{K:M9}{b:a0i}{j:St}{H:Hp}{Q:VK}(hT:∀{F H H1 l f d v},To F H H1 f->T F H1 l d v->T F H l d v)(P:∀F H,bb K F H w b)(hn:∀o f r c,g o f=My (.ok r,c)->r.length+w.length+1=n)(h:∃F o f,Fr F H f/\ix K F H o j/\run (T F H) F E j (gj C m N O g w o) H Q f):xQ C m (spT K T n N) b E (tV K O E) (i0 K g E) j H Q:=by
 obtain⟨F,o,f,fr,U,h⟩:=h;refine⟨F,o,f,fr,U,(run.bind (R:=c4 K F) h).mono λv H1 h_=>oa h_ λd p t D s=>?_⟩;have k:∀{q:M x},q=M.fail->run (T F H) F E j q H1 Q p->False:=λ{q} e r=>by
  obtain⟨r,c,W,_⟩:=r;rw[e]at W;cases W
 cases d<;>first|exact(k rfl s).elim|skip
 rename_i C' ns ds;simp only at s;split at s
 .rename_i z
  obtain⟨rfl,hm⟩:=z;have u:=D;unfold c4 at D;obtain⟨a,dx,xs,rfl,h1,h2,h3,y⟩:=D;refine⟨a,dx,_,rfl,h2,sK hm,F,o,p,t.fr,U.tr (t.tr fr),?_⟩;obtain⟨S,A,Y,Z⟩:=run.bind (R:=bb K F) s;refine⟨S,A,Y,?_⟩;cases S with
  |error C=>exact Z
  |ok as=>
   intro vs B t2 i;obtain⟨d',G,I,J,r3⟩:=Z vs B t2 i;have hl:=hn _ _ _ _ Y;have hz:=(P F B).length;refine⟨by rw[M5,Nb,<-i.length,<-hz,hl],F,_::(d'++w),G,I.fr,bb.cons (c4.tr (I.tr t.fr) _ _ u) (bb.append J (P F B)),?_⟩;obtain⟨X,L,e4,y⟩:=r3;refine⟨X,L,e4,?_⟩;cases X with
   |error C=>exact y
   |ok d=>exact λv l t5 hv=>y v l t5 (hT (t.trans I) hv)
 .exact(k rfl s).elim
theorem lT{p:a0d}(c:r_ X.K C)(x:l0 X.K C m f)(G:eg X.prog X.w X.K X.mg X.base (fh X.prog X.w) k f fd ps (J_ X.K n L))(j:d4 k X.A)(l:bO X.K fd ps p)(q:cc (fh X.prog X.w) X E)
  (t:PE X o (tV X.K N E)) (D:PA X (e::es) (i0 X.K g E)) (M:∀S V r i,g S V=My (.ok r,i)->r.length+p.length+1=n)
  (a:b0a X e es:=by rfl) (d:b0b X P es:=by rfl)
  (u:NW (.Call (.Attribute o m s) (e::es) [] P) X.env=(do
   let I <-NW o X.env
   Qi s.atName
   let (f,first) <-QI [I] (R5 I m pl)
   Um P f first (OO P (MY (e::es) X.env)) (PL P (OJ [] X.env))):=by rfl):
  PE X (.Call (.Attribute o m s) (e::es) [] P) (tV X.K (gj C m L N g p) E):=by
 obtain⟨O,v,b,y,J⟩:=l;exact(Hx (pl:=pl) t c x G j b y q D a d u).imp λB H Q h=>vi (T:=λF _=>c4 _ F) (λ_ z=>z) J M h
theorem cG{p:a0d}(c:r_ X.K C)(M:l0 X.K C m f)(G:eg X.prog X.w X.K X.mg X.base (fh X.prog X.w) k f fd ps (J_ X.K n mf))(g:d4 k X.A)(i:bO X.K fd ps p)(j:cc (fh X.prog X.w) X E)
  (l:PE X o (tV X.K fo E)) (S:p.length+1=n)
  (q:NW (.Call (.Attribute o m s) [] [] P) X.env=(do
   let W <-NW o X.env
   Qi s.atName
   let (f,first) <-QI [W] (R5 W m pl)
   Um P f first (OO P (MY [] X.env)) (PL P (OJ [] X.env))):=by rfl):
  PE X (.Call (.Attribute o m s) [] [] P) (tV X.K (gj C m mf fo az p) E):=by
 obtain⟨ds,t,b,u,V⟩:=i;refine(EK (pl:=pl) l c M G g b u j q).imp λR H Q h=>?_;obtain⟨F,x,D,fr,y,h⟩:=vi (T:=λF _=>c4 _ F) (λ_ z=>z) V (λx D r B e=>by cases e;simpa using S) h;refine⟨F,x,D,fr,y,h.mono λv H1 ⟨a,Y,Z,I,ha,J,U,L,aa,d,N,O⟩=>⟨a,Y,Z,I,ha,J,?_⟩⟩;exact run.ret d O bb.nil
structure XV (F:Fx) (x:MK) (H H':Hp) (β':Bg):Prop where
 kp:∀a o,a≠x->H a=My o->(∀b l,F.bg=My (b,l)->a≠b/\a≠l)->H' a=My o
 fr:Fr F H' β'
def XE(K:M9)(C:MK)(k:a0h)(n:Nat)(d:a0d->M a0d):Sp:=λs H Q E=>∃x e F m o p,s= .ref x::e/\e.length=n/\Fr F H o/\F.A x/\(∀b l,F.bg=My (b,l)->x≠b/\x≠l)/\H x=My (.ins C p [])/\bb K F H m e/\
 ∃r a,d m o=My (r,a)/\match r with
  | .ok es=>∀c f,XV F x H c a->c x=My (.ins C p (k.zip f))->k.length=f.length->bb K F c es f->Q .non c
  | .error Ce=>∀c,XV F x H c a->E (.ref Ce) ME c
variable{m:a0h}
theorem EY{K:M9}{k:a0i}(fr:Fr F H2 β2)(O:k.length=n)(D:bb K F H2 ds k)(r:run (c4 K F) F E σ (M.bind (mi ds) λs=>M.ret (.obj C m s)) H2 Q β2):
  ∀x e,H2 x=ME->H2 e=ME->e≠x->XE K C m n mi (.ref x::k) (upd (upd H2 e (.own x)) x (.ins C e [])) (λv R=>v= .non/\Q (.ref x) R) (E σ):=by
 intro x e B H P;have I:¬F.A x:=fr.fresh B;have f:bS H2 (upd (upd H2 e (.own x)) x (.ins C e [])):=λa o h=>by
  rw[bt (b5 h B),bt (b5 h H)];exact h
 have t:=fr.same f;have J:Fr (F.but x) (upd (upd H2 e (.own x)) x (.ins C e [])) β2:=⟨λa ha z=>(by
  rcases ha with ha|ha
  .exact t.fr.occ a ha z
  .subst ha;rw[ao]at z;cases z),λb l q=>let ⟨z1,z2,z3⟩:=fr.bgA b l q;⟨.inl z1,.inl z2,z3⟩,t.fr.bag⟩
 have T:∀b l,F.bg=My (b,l)->x≠b/\x≠l:=λb l q=>⟨λz=>I (z▸(fr.bgA b l q).1),λz=>I (z▸(fr.bgA b l q).2.1)⟩;have L:Tr F H2 (F.but x) (upd (upd H2 e (.own x)) x (.ins C e [])):=⟨λa U W z=>by
  rcases z with z|z
  .exact U z
  .subst z;exact W B,λa o _ h=>f a o h,rfl⟩
 obtain⟨Y,c,d,h⟩:=r;refine⟨x,k,F.but x,ds,β2,e,rfl,O,J,.inr rfl,T,ao,bb.tr L _ _ D,?_⟩;have j:∀{g:Hp} {c:Bg},XV (F.but x) x (upd (upd H2 e (.own x)) x (.ins C e [])) g c->To F H2 g c:=λ{g c} i=>⟨λa o ha n=>i.kp a o (b5 ha B) (f a o ha) n,⟨λa ha=>i.fr.occ a (.inl ha),fr.bgA,i.fr.bag⟩⟩;cases q:mi ds β2 with
 |none=>unfold M.bind at d;rw[q]at d;cases d
 |some z=>
  obtain⟨w,p⟩:=z;refine⟨w,p,rfl,?_⟩;cases w with
  |error Z=>
   rw[M.bind_err q]at d;cases d;exact λg i=>h g (j i)
  |ok s=>
   rw[M.bind_ok q]at d;cases d;refine λg G i N u y=>⟨rfl,h (.ref x) g (j i) ⟨x,e,G,rfl,I,N,u,bb.tr Fx.tr_of _ _ y⟩⟩
def CM(C:MK)(m:a0h)(a:a0d->M a0d)(g b:FL)(c:List (Sr D)):FD:=λe=>M.bind (g e) λf=>M.bind (b e) λks=>M.bind (a (f++c.map (Sr.pick .non ks))) λk=>M.ret (.obj C m k)
def IK(C:MK)(f:Sp)(c:a0i->a0i->a0i)(E:a0r)(t d:TA):TE:=λa H Q=>t a H λk m=>d a m λg b=>∀x e,b x=ME->b e=ME->e≠x->
 f (c (.ref x::k) g) (upd (upd b e (.own x)) x (.ins C e [])) (λv h=>v= .non/\Q (.ref x) h) (E a)
theorem EL(M:Mk X.K C f)(F:eg X.prog X.w X.K X.mg X.base CX k f fd ps sp)(U:d4 (k+1) X.A)(Y:Gl X x)(n:X.mg x=My (.ref C))(O:D_ X.K fd ps ks g gV)(Z:cc CX X E)
  (o:PA X (e::es) t) (B:PK X aa tk) (i:(PL P (OJ aa X.env)).all (·.1.isSome)=MH:=by rfl) (J:(PL P (OJ aa X.env)).filterMap (·.1)=ks:=by rfl)
  (L:b0c x:=by decide) (D:b0a X e es:=by rfl)
  (N:((OO P (MY (e::es) X.env)).any (·.1)||(PL P (OJ aa X.env)).any (·.1.isNone))=ML:=by rfl):
  PE X (.Call (.Name x p) (e::es) aa P) (IK C sp gV E t tk):=by
 intro a s l H Q I h;refine QY (i9 I Y n ?_ L);refine PySem.W.callWith_KW (h₀:=X.base) I.ok.mod.kin M.kp i (d5 (o P a s l H _ I h) λm G ⟨vs,S,z,r,q⟩=>?_) N D;refine d5 (B P a G l S _ z q) λd c ⟨zs,H2,j,rz,q2⟩=>⟨j.kIn,?_⟩;rw[J];have R:=q2 (c.heap.objs.size+1) c.heap.objs.size (j.hok.fresh (Re _)) (j.hok.fresh (MW _)) (NM (Sm _));have y:=cy.made (C:=C) j;have T:=O.rel (.cons (show aN (V.ref (c.heap.objs.size+1)) (M6 (c.heap.objs.size+1))from rfl) r) rz;have hl:(g (M6 (c.heap.objs.size+1)::m) d).length=ps.length:=by rw[<-T.length];exact F.len _ _ _ _ R
 refine Se (EZ (f:=f) j.kIn M.makes M.init (beq_iff_eq.mp M.fn) (QH (F.run _ X.stack _ _ ⟨M6 (c.heap.objs.size+1)::m,ks.zip d⟩ (g (M6 (c.heap.objs.size+1)::m) d) _ _ (E l) (U.make C m (ks.zip d))
  (y.env0.make C m (ks.zip d)) (O.to _ (M6 (c.heap.objs.size+1)::m) d y.kIn hl) T R) λr s' b=>?_))
 cases r with
 |error e=>exact Z a l _ _ e s' y b
 |ok fl=>
  cases fl with
  |ret u=>
   obtain⟨v,H',I4,rv,ev,q4⟩:=y.after b;subst ev;exact⟨rv,⟨V.ref (c.heap.objs.size+1),H',I4,rfl,q4⟩⟩
  |next=>exact OS b
  |brk=>exact OS b
  |cont=>exact OS b
theorem G1{o:List (Sr D)}(Mm:Mk X.K C f)(G:eg X.prog X.w X.K X.mg X.base (fh X.prog X.w) k f fd ps (XE X.K C m n mi))(hr:d4 (k+1) X.A)(hg:Gl X x)(hm:X.mg x=My (.ref C))(hb:D2 X.K fd ps ks (n1+1) o)(hx:cc (fh X.prog X.w) X E)
  (ha:PA X (e::es) (i0 X.K g E)) (c:PK X aa (i0 X.K gk E)) (hn:∀s M r a,g s M=My (.ok r,a)->r.length=n1) (d:∀s M r a,gk s M=My (.ok r,a)->r.length=ks.length) (h3:n1+o.length=n)
  (b:(PL P (OJ aa X.env)).all (·.1.isSome)=MH:=by rfl) (h:(PL P (OJ aa X.env)).filterMap (·.1)=ks:=by rfl)
  (i:b0c x:=by decide) (he:b0a X e es:=by rfl)
  (j:((OO P (MY (e::es) X.env)).any (·.1)||(PL P (OJ aa X.env)).any (·.1.isNone))=ML:=by rfl):
  PE X (.Call (.Name x p) (e::es) aa P) (tV X.K (CM C m mi g gk o) E):=by
 obtain⟨sv,J,rd,kb⟩:=hb.kb;refine(EL Mm G hr hg hm kb hx ha c b h i he j).imp λσ H Q h_=>ko h_ λF s M fr L r=>⟨F,s,M,fr,L,?_⟩;obtain⟨r0,l,N,O⟩:=run.bind (R:=bb X.K F) r;refine⟨r0,l,N,?_⟩;cases r0 with
 |error C=>exact O
 |ok as=>
  intro S H1 t z;obtain⟨d',ab,q,u,r1⟩:=O S H1 t z;refine⟨F,s,ab,q.fr,L.tr (q.tr fr),?_⟩;obtain⟨T,ac,U,W⟩:=run.bind (R:=bb X.K F) r1;refine⟨T,ac,U,?_⟩;cases T with
  |error C=>exact W
  |ok bs=>
   intro v Y t2 Z;obtain⟨d2,ad,t3,B,r3⟩:=W v Y t2 Z;have l1:=hn _ _ _ _ N;have l2:=d _ _ _ _ U;have I:bb X.K F Y d' S:=bb.tr (t3.tr q.fr) _ _ u;intro y dx;have g1:gK V.non (n1+1) ks.length J (.ref y::S) v= .ref y::(S++J.map (Sr.pick .non v)):=MU ⟨by rw[M5,<-z.length,l1],by rw[<-Z.length,l2]⟩;rw[g1];exact EY t3.fr (by rw[Nb,MD,<-z.length,l1,<-rd.len,h3]) (bb.append I (ll.den B rd)) r3 y dx
abbrev IP:=Ds->a0d->Bg->Option (Except MK a0d×Bg)
noncomputable def GG:IP:=λ_ c e=>My (.ok c,e)
noncomputable def nQ(g:G)(a:IP):IP:=λe c f=>match g e f with
 |some (.nx δ1,β1)=>match e[0]?,δ1[0]? with
  |some (My (Sl.sh (D.adr x))),My (My (Sl.sh (D.adr y)))=>if x=y then a δ1 c β1 else ME
  |_,_=>ME
 |some (.ex C _,β1)=>My (.error C,β1)
 |_=>ME
def jU(f:FD)(a:IP):IP:=λe c k=>match f (vw e) k with
 |some (.ok d,β1)=>a e (c++[d]) β1
 |some (.error C,β1)=>My (.error C,β1)
 |none=>ME
structure nA (x:MK) (B:Ow) (H:Hp) (B':Ow) (H':Hp):Prop where
 kp:∀a o,a≠x->H a=My o->(B a=ME\/B a=My 0)->H' a=My o
 tg:∀a,B a=My 0\/B a=My 1->B' a=B a
 nn:∀a o,a≠x->H a=My o->B a=ME->B' a=ME
 al:∀a,H a≠ME->H' a≠ME
end
theorem hU.x{x:MK}{B b:Ow}{H c:Hp}(s:hU B H b c):nA x B H b c:=⟨λa o _=>s.kp a o,s.tg,λa o _=>s.nn a o,s.al⟩
theorem nA.trans(a:nA x B H B1 H1)(b:nA x B1 H1 B2 H2):nA x B H B2 H2:=by
 refine⟨λc o w h n=>b.kp c o w (a.kp c o w h n) ?_,λc h=>?_,λc o w h n=>b.nn c o w (a.kp c o w h (.inl n)) (a.nn c o w h n),λc h=>b.al c (a.al c h)⟩
 .rcases n with n|n
  .exact .inl (a.nn c o w h n)
  .exact .inr ((a.tg c (.inl n)).trans n)
 .have e:=a.tg c h
  rw[<-e]at h;exact(b.tg c h).trans e
def kK(K:M9)(D:a0s)(E:a0r)(Dn:l5)(B:Ow)(H:Hp)(x C M:MK)(w:a0h)(r:Except MK a0d)(d:Bg):Prop:=match r with
 | .ok ds=>∀b c a G,nA x B H c a->Fr (ee c D) a d->a x=My (.ins C M (w.zip G))->w.length=G.length->bb K (ee c D) a ds G->Dn.nx b a
 | .error Ce=>∀b c a,nA x B H c a->Fr (ee c D) a d->E b (.ref Ce) ME a
theorem kK.pre{K:M9}{E:a0r}{Dn:l5}(s:nA x B H B1 H1)(h:kK K f E Dn B H x C g all r e):kK K f E Dn B1 H1 x C g all r e:=by
 cases r with
 |ok D=>exact λa b c w t=>h a b c w (s.trans t)
 |error d=>exact λa b c t=>h a b c (s.trans t)
def tI(K:M9)(D:Hp)(C:MK)(a w:a0h)(e:IP)(E:a0r):TS:=λDn f H=>∃B G M P x S b c r d,eo K D B G H M P f/\M[0]?=My (My (.sh (.adr x)))/\B x=My 0/\H x=My (.ins C S (a.zip b))/\a.length=b.length/\bb K (ee B G) H c b/\e M c P=My (r,d)/\kK K G E Dn B H x C S (a++w) r d
theorem sG:∀{w:a0h} {D:a0i},w.length=D.length->f∉w->d8 f y (w.zip D)=(w++[f]).zip (D++[y])
 |[],[],_,_=>rfl
 |n::w,v::D,h,hf=>by
  have a:¬n=f:=λz=>hf (by rw[z];exact MP);show(if n=f then(n,y)::w.zip D else(n,v)::d8 f y (w.zip D))=_;rw[MS a,sG (by simpa using h) λz=>hf (MJ _ z)];rfl
 |[],_::_,h,_=>by simp at h
 |_::_,[],h,_=>by simp at h
theorem eo.upd0{K:M9}(w:eo K H₀ B C H F I J)(f:B x=My 0):eo K H₀ B C (upd H x o) F I J/\nA x B H B (upd H x o):=by
 have D:∀c,H c≠ME->upd H x o c≠ME:=λc a=>by
  by_cases z:c=x
  .subst z;rw[ao];simp
  .rw[bt z];exact a
 have j:∀b l,C=My (b,l)->b≠x/\l≠x:=λb l e=>by
  obtain⟨E,g⟩:=w.bgt b l e;exact⟨λz=>(by rw[z,f]at E;cases E),λz=>(by rw[z,f]at g;cases g)⟩
 have G:Tr (ee B C) H (ee B C) (upd H x o):=⟨λ_ h _=>h,λc u a e=>by
  rw[bt]
  .exact e
  .intro z;subst z;exact a (by show B c≠ME;rw[f];simp),rfl⟩
 refine⟨⟨⟨λc a=>D c (w.fr.occ c a),w.fr.bgA,λb l e=>?_⟩,w.bgt,w.len,λc a=>D c (w.cov c a),w.new,λc k a=>?_,λi s e=>?_⟩,λc u M h _=>by rw[bt M];exact h,λ_ _=>rfl,λ_ _ _ _ n=>n,D⟩
 .obtain⟨m,p⟩:=w.fr.bag b l e
  obtain⟨q,r⟩:=j b l e;exact⟨by rw[bt q];exact m,by rw[bt r];exact p⟩
 .exact(w.lst c k a).imp λo h=>by rw[bt];exact h;intro z;subst z;rw[f]at a;cases a
 .obtain⟨v,t,A⟩:=w.tell i s e
  exact⟨v,t,A.tr G λc d=>⟨d,λo z=>(bt λy=>by subst y;rw[f]at d;cases d).trans z⟩⟩
section
variable{X:Cx}{E:a0r}{st:N3}{aa:a0R}{C:MK}{w P:a0h}{ip:IP}
theorem Mf:PSs X [] (tI X.K X.H₀ C w [] GG E):=rh.imp λDn b H c=>by
 obtain⟨B,G,M,P,x,S,a,d,r,f,ok,i,j,g,h,D,e,k⟩:=c;cases e;rw[NJ]at k;exact k b B H a (hU.refl B H).x ok.fr g h D
theorem GH(m:PS X st (tG X.K X.H₀ g E))(n:PSs X aa (tI X.K X.H₀ C w P ip E)):PSs X (st::aa) (tI X.K X.H₀ C w P (nQ g ip) E):=(cY m n).imp λDn v H o=>by
 obtain⟨B,D,G,M,x,S,c,d,r,f,ok,p,h,q,t,V,e,k⟩:=o;unfold nQ at e;split at e
 .rename_i δ1 β1 i
  split at e
  .rename_i x1 y q1 q2
   split at e
   .rename_i z
    subst z;rw[p]at q1;cases q1;refine⟨B,D,G,M,.nx δ1,β1,ok,i,λb j l s a=>?_⟩;exact⟨j,D,δ1,β1,x,S,c,d,r,f,a,q2,(s.tg x (.inl h)).trans h,s.kp x _ q (.inr h),t,bb.tr s.tr _ _ V,e,kK.pre s.x k⟩
   .cases e
  .cases e
 .rename_i u δ1 β1 i
  cases e;exact⟨B,D,G,M,.ex u δ1,_,ok,i,λb j l s a=>k b j l s.x a.fr⟩
 .cases e
theorem ud(c:r_ X.K C)(n:eQ X.K C f)(N:f∉w)(I:w.length<1000)(O:PS X st (Jc X.K (oM 0) (tV X.K fv E) f))(Q:PSs X aa (tI X.K X.H₀ C (w++[f]) P ip E)):PSs X (st::aa) (tI X.K X.H₀ C w (f::P) (jU fv ip) E):=(cY O Q).imp λDn R H T=>by
 obtain⟨B,D,S,V,x,G,g,m,r,p,ok,J,l,U,L,s,e,k⟩:=T;refine⟨ee B D,vw S,V,ok.fr,ok.view,?_⟩;unfold jU at e;split at e
 .rename_i d β1 q
  refine⟨.ok d,β1,q,λy M t W=>?_⟩;obtain⟨b,i⟩:=ok.to rfl t;obtain⟨v,Y,Z⟩:=b.tell 0 _ J;have hv:v= .ref x:=Z;subst hv;have A:=i.kp x _ U (.inr l);refine⟨_,Y,x,C,G,_,rfl,A,c,n,?_,?_⟩
  .rw[Rh];lia
  obtain⟨F,s2⟩:=b.upd0 (o:= .ins C G (d8 f y (w.zip g))) l;have j:Tr (ee B D) M (ee B D) (upd M x (.ins C G (d8 f y (w.zip g)))):=⟨λ_ h _=>h,λa u ha e=>by
   rw[bt]
   .exact e
   .intro z;subst z;exact ha (by show B a≠ME;rw[l];simp),rfl⟩
  refine⟨B,D,S,β1,x,G,g++[y],m++[d],r,p,F,J,l,by rw[ao,sG L N],by simp[L],bb.append (bb.tr j _ _ (bb.tr i.tr _ _ s)) (bb.cons (c4.tr j _ _ W) bb.nil),e,?_⟩;rw[N4];exact kK.pre (i.x.trans s2) k
 .rename_i Ce β1 q
  cases e;refine⟨.error Ce,_,q,λM t=>?_⟩;obtain⟨b,i⟩:=ok.to rfl t;exact k R B M i.x b.fr
 .cases e
end
open Classical in
def nU(m:Nat)(a:IP):a0d->M a0d:=λw D=>if h:∃r,∀x,a (o0 m (.adr x::w)) [] D=My r then My h.choose else ME
theorem Fi(h:∀x,b (o0 m (.adr x::c)) [] d=My r):nU m b c d=My r:=by
 have a:∃r,∀x,b (o0 m (.adr x::c)) [] d=My r:=⟨r,h⟩;unfold nU;rw[dif_pos a];have:=a.choose_spec 0;rw[h 0]at this;exact this.symm
theorem CD(h:nU m b c d=My r):∀x,b (o0 m (.adr x::c)) [] d=My r:=by
 unfold nU at h;split at h
 .rename_i a
  have:=a.choose_spec;cases h;exact this
 .cases h
section
variable{P:Ny}{w:NC}{K:M9}{mg:a0j}{aa:NS}
theorem Ig{st:N3}{N ps G:a0h}(n m:Nat)(ip:IP)(F:g_ K x qual st f fd)(S:b4 N ps (af st))(O:ps.length=n+1)(R:N.length=m)
  (p:∀(i:MO) (A:NX) (D:a0C) (s:MQ) (H:Hp) (E:XK),d4 k (A.deeper (QR qual (af st) s.heap.objs.size f i))->
   PSs (dz (fh P w) P w K mg aa N qual (af st) f i A D s H E) (cA st) (tI K H C [] G ip (λ_=>E))):eg P w K mg aa (fh P w) (k+1) f fd ps (XE K C G n (nU m ip)):=by
 subst R;refine F.okE S (λvs H Q E h=>?_) λi A D s H vs Q E hr h=>?_
 .obtain⟨y,M,j,ds,β,dx,rfl,hl,_⟩:=h
  rw[M5,hl,O]
 obtain⟨y,M,j,ds,β,dx,rfl,hl,fr,T,nb,hH,hd,r,d,e,h⟩:=h;refine⟨_,p i A D s H E hr,?_⟩;have U:bb K j H (.adr y::ds) (.ref y::M):=bb.cons rfl hd;obtain⟨B,ok,L,h1,hn⟩:=uC (N:=N) fr U;have hy:B y=My 0:=by
  rcases L y T with z|z
  .exact z
  .obtain⟨b,l,q,w⟩:=h1 y z
   obtain⟨W,X⟩:=nb b l q;rcases w with w|w
   .exact Nh w W
   .exact Nh w X
 have v:∀{u:Ow} {g:Hp} {d:Bg},nA y B H u g->Fr (ee u j.bg) g d->XV j y H g d/\Tr (ee u j.bg) g j g:=λ{u g d} s c=>by
  have hs:∀a,j.A a->u a≠ME:=λa V=>by
   rw[s.tg a (L a V)];rcases L a V with z|z<;>rw[z]<;>simp
  refine⟨⟨λa o ne V n=>s.kp a o ne V ?_,λa V=>c.occ a (hs a V),λb l e=>fr.bgA b l e,c.bag⟩,λa V _ z=>V (hs a z),λ_ _ _ h=>h,rfl⟩;cases q:B a with
  |none=>exact .inl rfl
  |some t=>
   have:=L a (hn a (by rw[q];simp));rcases this with z|z
   .rw[q]at z;exact .inr z
   .obtain⟨b,l,e,w⟩:=h1 a z
    obtain⟨W,X⟩:=n b l e;rcases w with w|w
    .exact Nh w W
    .exact Nh w X
 refine⟨B,j.bg,o0 N.length (.adr y::ds),β,y,dx,[],[],r,d,ok,rfl,hy,hH,rfl,bb.nil,CD e y,?_⟩;cases r with
 |ok es=>
  intro Y u g vs s c Z I J;obtain⟨t1,t2⟩:=v s c;exact h g vs t1 Z I (bb.tr t2 _ _ J)
 |error Ce=>
  intro Y u g s c;exact h g (v s c).1
variable{X:Cx}{E:a0r}{d:N3}
variable{h:G}{b:Ds}{c a:Bg}{Q:a0v}{i:Nat}{f:FD}
end
section
variable{C v:MK}{m:NA}{k:a0h}{n:a0d->M D}{s:a0d->M a0d}{o:FD}{g u:FL}{p l as t:a0d}{q:List (Sr D)}{δ:Dn}{β β1 e b:Bg}{r:Except MK D×Bg}{d:D}{f:NA}{h:G}{Q:a0v}{i:Nat}{a:Ds}
theorem bA{d:Type}{n:a0d->M d}{r:Except MK d×Bg}(a:o δ β=My (.ok (.obj C k l),β1))(b:g δ β1=My (.ok as,e))(c:n (.obj C k l::(as++p)) e=My r)(f:m∉k:=by decide):gj C m n o g p δ β=My r:=by
 unfold gj;rw[M.bind_ok a];simp only[f,not_false_eq_true,and_self,NN];rw[M.bind_ok b];exact c
theorem iO(a:x δ β=My (.ok (.obj C k l),β1))(b:(k.zip l).lookup f=My d):f1 (yS C f) x δ β=My (.ok d,β1):=by
 refine x_1 a ?_;unfold yS;simp only[NN];exact b
theorem CA{g:G}{δ δ1:Ds}{r:Except MK a0d×Bg}(e:g δ β=My (.nx δ1,β1))(a:δ[0]?=My (My (.sh (.adr x))))(b:δ1[0]?=My (My (.sh (.adr x))))(k:c δ1 done β1=My r):nQ g c δ done β=My r:=by
 unfold nQ;simp only[e,a,b,NN];exact k
theorem qC{f:FD}{δ:Ds}{d:D}{r:Except MK a0d×Bg}(e:f (vw δ) β=My (.ok d,β1))(k:c δ (done++[d]) β1=My r):jU f c δ done β=My r:=by
 unfold jU;rw[e];exact k
noncomputable def ra{a:Type}(d:a)(c:Nat)(a_:List (List a)):List (List a):=(MX c).map λj=>a_.map λb=>b.getD j d
abbrev tp(c:Nat)(a_:LI):LI:=ra 0 c a_
theorem i7{b:Type}{d:b}{r c:Nat}{a_:List (List b)}(h:a_.length=r):e_ c r (ra d c a_):=⟨by simp[ra],λe a=>by
 obtain⟨j,_,rfl⟩:=M8.mp a;rw[MD,h]⟩
theorem IH{b:Type}{d:b}{e:List (List b)}(h:j<c):(ra d c e)[j]?=My (e.map λa=>a.getD j d):=by
 unfold ra;rw[MM,On h];rfl
theorem ya{d:Int}:∀(a:a0c),(MX a.length).map (λj=>a.getD j d)=a:=λa=>by
 refine WH λi=>?_;rw[MM];by_cases h:i<a.length
 .rw[On h]
  show My (a.getD i d)=_;rw[MN,MI h];rfl
 .rw[Q2 (by simpa using h),Q2 (by lia)];rfl
theorem qZ{a:Type}(f g:a->Int):∀l:List a,(l.map λx=>f x+g x).sum=(l.map f).sum+(l.map g).sum
 |[]=>by simp
 |x::l=>by
  simp only[MZ,Nn,qZ f g l];lia
theorem oO{a:Type}:∀l:List a,(l.map λ_=>(0:Int)).sum=0
 |[]=>rfl
 |x::l=>by simp only[MZ,Nn,oO l];rfl
theorem zC:∀{a_:LI},(∀row∈a_,row.length=c)->tot (tp c a_)=tot a_
 |[],_=>by
  show((ra 0 c []).map N0).sum=0;unfold ra;rw[MV];exact oO (MX c)
 |row::a_,h=>by
  have d:=zC (c:=c) (a_:=a_) λx b=>h x (MJ _ b);have a:=h row MP;unfold tot tp ra at d⊢;rw[MV]at d⊢;have e:(λj=>(N0 ((row::a_).map λrow=>row.getD j 0)))=λj=>row.getD j 0+(a_.map λrow=>row.getD j 0).sum:=by
   funext j;rw[MZ,Nn]
  show((MX c).map λj=>(N0 ((row::a_).map λrow=>row.getD j 0))).sum=_;rw[e,qZ,<-a,ya,a,MZ,Nn];congr 1
theorem Ga(h:∀d∈z,∀x∈d,0<=x):∀d∈tp c z,∀x∈d,0<=x:=λd a x b=>by
 obtain⟨j,_,rfl⟩:=M8.mp a;obtain⟨q,k,rfl⟩:=M8.mp b;rw[MN];cases e:q[j]? with
 |none=>exact VW 0
 |some y=>exact h q k y (M2 e)
end
end L2.Pu
namespace L2.Pu
section
variable{X:Cx}
variable{a:Ny}{w:NC}{A:NX}{E:a0e}{s:MQ}{l:MK}{b:Array (Int×Tok)}
variable{K:M9}
end
end L2.Pu
namespace L2
end L2
namespace L2.Pu
section
variable{X:Cx}{E:a0r}{K:M9}{f l c:Expr}{e:List Expr}{b:a0P}{a:Scope}{d:Ri}{m k:a0h}{j:a0a}{g:TG}{i:a0W}
variable{f:N3}{a:Hp}{B:Ow}{g:a0s}{H h:Hp}{d:Ds}{e b:Bg}{c:St}
theorem YO{us:a0f}(h:us.length=1):∃a,us=[a]:=Ss.mp h
theorem Xm{us:a0f}(h:us.length=2):∃c d,us=[c,d]:=by
 obtain⟨a,l,rfl⟩:=Qr h;obtain⟨b,rfl⟩:=YO (us:=l) (by simpa using h);exact⟨_,_,rfl⟩
theorem YN{us:a0f}(h:us.length=3):∃d e f,us=[d,e,f]:=by
 obtain⟨a,l,rfl⟩:=Qr h;obtain⟨b,c,rfl⟩:=Xm (us:=l) (by simpa using h);exact⟨_,_,_,rfl⟩
theorem lU4{us:a0f}(h:us.length=4):∃e f g i,us=[e,f,g,i]:=by
 obtain⟨a,l,rfl⟩:=Qr h;obtain⟨b,c,d,rfl⟩:=YN (us:=l) (by simpa using h);exact⟨_,_,_,_,rfl⟩
end
section
variable{X:Cx}{E:a0r}{e q o z B i:Expr}{u:List Expr}{t p:Ri}{f1 f2 I J d:FD}{g:FL}{k j n:Nat}{f:MK}{y:Nk}{v:a0h}{x:NA}{a:a0d->a0k}{r:a0F}{c T:String}
theorem vv(i:Nat){x:NA}(b:X.N[i]?=My x:=by rfl)(c:Xq X.env.scope x:=by first|exact OC rfl|exact O6 (OC rfl)|exact O6 (O6 rfl))(d:b0c x:=by decide)
  (a:(x==("__classdict__":NA))=ML:=by decide):PE X (.Name x t) (tV X.K (ag i) E):=K7 i (pv i b c d a)
theorem dc(a:PE X q (tV X.K f1 E))(b:b0a X q []:=by rfl):PA X [q] (i0 X.K (ae f1 az) E):=m5 a gu b
theorem d_(a:PE X q (tV X.K f1 E))(b:PE X o (tV X.K f2 E))(c:b0a X q [o]:=by rfl)(d:b0a X o []:=by rfl):PA X [q,o] (i0 X.K (ae f1 (ae f2 az)) E):=m5 a (dc b d) c
theorem ss(a:PE X q (tV X.K f1 E))(b:PE X o (tV X.K f2 E))(c:PE X z (tV X.K I E))(d:b0a X q [o,z]:=by rfl)(h:b0a X o [z]:=by rfl)(i:b0a X z []:=by rfl):PA X [q,o,z] (i0 X.K (ae f1 (ae f2 (ae I az))) E):=m5 a (d_ b c h i) d
theorem si(a:PE X q (tV X.K f1 E))(b:PE X o (tV X.K f2 E))(c:PE X z (tV X.K I E))(d:PE X B (tV X.K J E))(h:b0a X q [o,z,B]:=by rfl)(i:b0a X o [z,B]:=by rfl)(l:b0a X z [B]:=by rfl)(m:b0a X B []:=by rfl):PA X [q,o,z,B] (i0 X.K (ae f1 (ae f2 (ae I (ae J az)))) E):=m5 a (ss b c d i l m) h
theorem tx(c:Dn)(d:Bg)(r:a0d)(a:Bg)(h:az c d=My (.ok r,a)):r.length=0:=FO h
structure FB (P:Ny) (w:NC) (K:M9) (mg:a0j) (base:NS) (k:Nat) (x:NA) (f:MK) (y:Nk) (v:a0h) (n:Nat) (m:a0d->M D):Prop where
 ok:eg P w K mg base (fh P w) k f y v (J_ K n m)
 m:mg x=My (.ref f)
 kp:Sd K (.ref f)=MH
 b:ci K y v []
theorem vc(G:FB X.prog X.w X.K X.mg X.base j x f y v n m)(h:d4 k X.A)(z:PA X (e::u) (i0 X.K g E))(i:j<=k:=by decide)(l:cc (fh X.prog X.w) X E:=by first|exact cf|exact iY|assumption)(o:Gl X x:=by rfl)
  (B:∀D I r d,g D I=My (.ok r,d)->r.length=n:=by repeat (first|exact tx|apply aU)) (a:b0c x:=by decide) (q:b0a X e u:=by rfl) (c:b0b X t u:=by rfl):
  PE X (.Call (.Name x p) (e::u) [] t) (tV X.K (bw m g) E):=Iz G.ok (h.mono i) o G.m G.kp G.b l z B a q c
theorem cj(d:X.mg "len"=ME)(f:PA X (e::u) (i0 X.K g E))(b:Gl X "len":=by rfl)(c:b0a X e u:=by rfl)(a:b0b X t u:=by rfl):PE X (.Call (.Name "len" p) (e::u) [] t) (tV X.K (br eJ g) E):=da mQ LH b d PySem.boot_len f (by decide) (by decide) c a
theorem jh(f:X.mg "sum"=ME)(i:PA X (e::u) (i0 X.K g E))(b:Gl X "sum":=by rfl)(c:X.calm=MH:=by rfl)(d:b0a X e u:=by rfl)(a:b0b X t u:=by rfl):PE X (.Call (.Name "sum" p) (e::u) [] t) (tV X.K (br iS g) E):=da (DD c) J6 b f Boot.«sum» i (by decide) (by decide) d a
theorem xI(d:X.mg "isinstance"=ME)(f:PA X (e::u) (i0 X.K g E))(b:Gl X "isinstance":=by rfl)(c:b0a X e u:=by rfl)(a:b0b X t u:=by rfl):PE X (.Call (.Name "isinstance" p) (e::u) [] t) (tV X.K (br Fg g) E):=da DE LJ b d Boot.«isinstance» f (by decide) (by decide) c a
theorem iv{c:Scope}(a e:a0h)(d:a0a)(k:c.kind= .function:=by rfl)(f:(c.names.map (·.1)).Nodup:=by decide +kernel)
  (fr:(c.names.all λy=>y.2 != .free||(X.env.scope.names.lookup y.1==My .cell||X.env.scope.names.lookup y.1==My .free))=MH:=by rfl) (g:a=e++d.map (λj=>X.N.getD j Qe):=by rfl)
  (b:(d.all λj=>decide (j<X.N.length)&&c.names.lookup (X.N.getD j Qe)==My .free)=MH:=by rfl):db X c a e d:=db.ofB k f fr g b
theorem fx{a:a0h}(h:a.Nodup:=by decide +kernel):(aI X a b cl C l s H).N.Nodup:=h
theorem dv(i:Nat){x:NA}(a:X.N.Nodup)(b:X.N[i]?=My x:=by rfl)(c:B3 X.env.scope x:=by first|exact OC rfl|exact O6 rfl)(d:b0d X x:=by first|exact .inl rfl|exact .inr rfl|assumption):PG X (.Name x t) (fQ i):=wV a b c d
theorem ej(i:Nat){x:NA}{e:Expr}{t a:Ri}(b:X.N.Nodup)(c:PE X e m)(d:X.N[i]?=My x:=by rfl)(h:B3 X.env.scope x:=by first|exact OC rfl|exact O6 rfl)(f:Q1 e (My (.Name x a)) t.line X.env=OW ML:=by rfl)(l:b0d X x:=by first|exact .inl rfl|exact .inr rfl|assumption):PS X (.Assign [.Name x a] e t) (iC m (fQ i)):=qi b d h c f l
theorem r8{Q:a0f->Prop}(h:∀a,Q [a])(us:a0f)(b:us.length=1):Q us:=by obtain⟨_,rfl⟩:=YO b;exact h _
theorem s_{Q:a0f->Prop}(h:∀a b,Q [a,b])(us:a0f)(c:us.length=2):Q us:=by obtain⟨_,_,rfl⟩:=Xm c;exact h _ _
theorem xr{Q:a0f->Prop}(h:∀a b c,Q [a,b,c])(us:a0f)(d:us.length=3):Q us:=by obtain⟨_,_,_,rfl⟩:=YN d;exact h _ _ _
theorem Xf{Q:a0f->Prop}(h:∀a b c d,Q [a,b,c,d])(us:a0f)(i:us.length=4):Q us:=by obtain⟨_,_,_,_,rfl⟩:=lU4 i;exact h _ _ _ _
theorem fA{N Q:a0h}{c:Scope}(a:c.kind= .function:=by rfl)(b:c.isCoroutine=ML:=by rfl)(g:c.isGenerator=ML:=by rfl)(d:N.Nodup:=by decide +kernel)(e:N.take Q.length=Q:=by rfl)(f:∀x∈Q,c.names.lookup x=My .local\/c.names.lookup x=My .cell:=by decide +kernel)(h:∀y∈c.names,y.2≠ .free:=by decide +kernel):b4 N Q c:=⟨a,b,g,d,e,f,h⟩
structure hL (K:M9) (mg:a0j) (x:NA) (st:N3) (f:MK) (y:Nk) (v:a0h):Prop where
 F:g_ K x x st f y
 m:mg x=My (.ref f)
 b:ci K y v []
theorem io{P:Ny}{w:NC}{K:M9}{mg:a0j}{base:NS}{x:NA}{e:N3}{f:MK}{y:Nk}{N v:a0h}{k n:Nat}{g:G}(m:Nat)(F:hL K mg x e f y v)(S:b4 N v (af e))(a:∀(c:MO) (A:NX) (d:a0C) (s:MQ) (H:Hp) (E:XK),d4 k (A.deeper (QR x (af e) s.heap.objs.size f c))->PSs (dz (fh P w) P w K mg base N x (af e) f c A d s H E) (cA e) (tG K H g (λ_=>E)))(i:v.length=n:=by rfl)(j:N.length=m:=by rfl):FB P w K mg base (k+1) x f y v n (ia m g):=⟨lx n m g F.F S i j a,F.m,F.F.kp,F.b⟩
def Al:List Prop->Prop
 |[]=>True
 |p::l=>p/\Al l
theorem aB{p:Prop}(h:p)(t:Al l):Al (p::l):=⟨h,t⟩
theorem KP:∀{l:List Prop},Al l->∀i,l.getD i True
 |[],_,_=>trivial
 |_::_,h,0=>h.1
 |_::_,h,i+1=>KP h.2 i
end
end L2.Pu
namespace L2
section
variable{a:Ny}{w:NC}{A:NX}{E:a0e}{s:MQ}{K:M9}
variable{X:Cx}
end
namespace Pu
section
variable{X:Cx}{E:a0r}
end
end Pu
end L2
namespace L2.Pu
section
variable{X:Cx}{E:a0r}{a b:Expr}{l:Ri}{k:Nat}{f C:MK}{m:Nk}{ps:a0h}{K:M9}
structure IsC (K:M9) (C:MK):Prop where
 cl:r_ K C
 ha:O8 K (.ref C) "__class__"=My (My (.builtin "object.__class__"))
 hn:specialIn K (.builtin "object.__class__") "__get__"=My (My (.builtin "getset_descriptor.__get__"))
 htk:Ws K (.builtin "object.__class__")=My MH
 hm:mroIn K C (.type "object")=My MH
theorem xO{r c:Nat}{a:LI}(b:e_ r c a):tp r (tp c a)=a:=by
 obtain⟨e,g⟩:=b;refine OX (by simp[ra,e]) λi n d=>?_;have h:a[i].length=c:=g _ (NB d);refine OX (by simp[ra,h]) λj o l=>?_;have m:j<c:=by lia
 simp[ra,MN,m,d,l]
variable{k f e b:Ri}
noncomputable def S(n:Nat)(f:a0M):Int:=((MX n).map f).sum
theorem KU(f:a0M):S 0 f=0:=rfl
theorem gH(n:Nat)(f:a0M):S (n+1) f=S n f+f n:=by
 unfold S;rw[Qa,NH,Ud];simp
theorem eC{f g:a0M}(h:∀i<n,f i=g i):S n f=S n g:=by
 unfold S;rw[Nu λi c=>h i (Ni.mp c)]
theorem uq(n:Nat)(f g:a0M):S n (λi=>f i+g i)=S n f+S n g:=qZ f g _
theorem mU(n:Nat):S n (λ_=>0)=0:=oO _
theorem MB(n:Nat)(f:a0M):S n (λi=>-f i)=-S n f:=by
 induction n with
 |zero=>rfl
 |succ n a=>rw[gH,gH,a];lia
theorem DO(n m:Nat)(h:Nat->Nat->Int):S n (λi=>S m (λj=>h i j))=S m (λj=>S n (λi=>h i j)):=by
 induction n with
 |zero=>rw[KU];exact(mU m).symm
 |succ n a=>
  rw[gH,a,<-uq];exact eC λj _=>(gH n _).symm
theorem oP{g:a0M}:∀{l L:a0a},l.Sublist L->L.Nodup->(l.map g).sum=(L.map λx=>if x∈l then g x else 0).sum
 |_,_,.slnil,_=>rfl
 |l,_,.cons a (l₂:=L) h,nd=>by
  have c:=(Nz.mp nd);have b:a∉l:=λz=>c.1 (h.subset z);rw[MZ,Nn,MS b,oP h c.2,Qu]
 |_,_,.cons₂ a (l₁:=l) (l₂:=L) h,nd=>by
  have c:=(Nz.mp nd);rw[MZ,MZ,Nn,Nn,MU MP,oP h c.2];congr 2;refine Nu λx e=>?_;have d:x≠a:=λz=>c.1 (z▸e);by_cases q:x∈l
  .rw[MU q,MU (MJ _ q)]
  .rw[MS q,MS λz=>(M4.mp z).elim d q]
theorem m6{l:a0a}(h:l.Sublist (MX n)):(l.map g).sum=S n λx=>if x∈l then g x else 0:=oP h TV
theorem xl{p:Nat->Bool}{g:a0M}:∀l:a0a,((l.filter p).map g).sum=(l.map λx=>if p x=MH then g x else 0).sum
 |[]=>rfl
 |x::l=>by
  rw[Q4,MZ,Nn,<-xl l];by_cases q:p x=MH
  .rw[MU q,MU q,MZ,Nn]
  .rw[MS q,MS q,Qu]
noncomputable abbrev nI(l:a0a):a0c:=l.map λ(i:Nat)=>(i:Int)
noncomputable abbrev nL(l:a0a):D:= .lst ((nI l).map D.int)
theorem xf:∀a:a0c,W_ (.int i) (a.map D.int)=decide (i∈a)
 |[]=>rfl
 |x::a=>by
  have b:=xf (i:=i) a;unfold W_ at b⊢;rw[MZ,R3,b];show(decide (x=i)||_)=_;rw[Sx];simp only[T8,Nv,M4];constructor
  .rintro(h|h)
   .exact .inl h.symm
   .exact .inr h
  .rintro(h|h)
   .exact .inl h.symm
   .exact .inr h
theorem sR:∀a:a0c,(a.map D.int).all eZ=MH
 |[]=>rfl
 |_::a=>sR a
theorem Kr{b:a0c}{a:Bool}:W9 a (.int i) (.lst (b.map D.int))=My (.bl (if a then !decide (i∈b)else decide (i∈b))):=by
 show(if(eZ (.int i)&&(b.map D.int).all eZ)=MH then _ else _)=_;rw[sR,Bool.and_true,MU (show eZ (.int i)=MH from rfl),xf]
theorem JY{i:Nat}{l:a0a}:((i:Int)∈nI l)↔i∈l:=by
 constructor
 .intro h
  obtain⟨j,c,e⟩:=M8.mp h;exact(Int.ofNat.inj e)▸c
 .intro h
  exact M8.mpr ⟨i,h,rfl⟩
theorem vE{i:Nat}{l:a0a}{a:Bool}:W9 a (.int (i:Int)) (nL l)=My (.bl (if a then !decide (i∈l)else decide (i∈l))):=by
 rw[Kr];simp only[JY]
theorem lC{k:Type}{f:FD}(b:List k)(u v:k->D)(p:k->Bool)(g:it δ β=My (.ok (b.map u),β))
  (i:∀x∈b,∃a,tg (u x) (lb nv cx δ)=My a/\tt a β=My (.ok (p x),β)/\(p x=MH->f a β=My (.ok (v x),β))) (j:b.length<=M1):eK nv cx it tg tt (lB f) δ β=My (.ok (.lst ((b.filter p).map v)),β):=by
 refine rN g ?_ (by rw[MD];exact Ng (List.length_filter_le _ _) j);have w:∀b:List k,(∀x∈b,∃a,tg (u x) (lb nv cx δ)=My a/\tt a β=My (.ok (p x),β)/\(p x=MH->f a β=My (.ok (v x),β)))->m_ tg tt (lB f) (b.map u) (lb nv cx δ) β=My (.ok ((b.filter p).map v),β):=by
  intro b
  induction b with
  |nil=>intro _;rfl
  |cons x b C=>
   intro h;obtain⟨a,d,c,l⟩:=h x MP;have e:=C λy m=>h y (MJ _ m);rw[MZ,m_,Q4];cases q:p x with
   |true=>
    rw[q]at c;simp only[d,M.bind,M.ret,c,lB,l q,e,MU,MZ,Qq,Pp]
   |false=>
    rw[q]at c;simp only[d,M.bind,M.ret,c,e,Na,N1,Pp]
 exact w b i
theorem oI:∀(n:Nat) (a:a0d),cU n a=(MX a.length).map λ(i:Nat)=>D.tup [.int ((n+i:Nat):Int),a.getD i .non]
 |n,[]=>rfl
 |n,x::a=>by
  rw[cU,oI (n+1) a,M5,Vc,MZ,MV];congr 1;refine Nu λi _=>?_;simp only[RC];rw[show n+1+i=n+(i+1) by lia];rfl
noncomputable abbrev bI(b:LP)(i j:Nat):Int×Int:=(b.getD i []).getD j (0,0)
theorem e_.getD{α:Type}{m:List (List α)}(h:e_ r c m)(d:i<r):m[i]?=My (m.getD i [])/\(m.getD i []).length=c:=by
 obtain⟨a,e,l⟩:=h.at d;have:m.getD i []=a:=by rw[MN,e];rfl
 rw[this];exact⟨e,l⟩
theorem oh{a:Type}{l:List a}{i:Nat}{d:a}(h:i<l.length):l[i]?=My (l.getD i d):=by
 rw[MN,MI h];rfl
theorem GE{a:a0c}(h:i<a.length):j0 (.lst (a.map D.int)) (.int (i:Int))=My (.int (a.getD i 0)):=cw (by rw[MM,oh h];rfl)
theorem vx{b:LP}(a:e_ r c b)(g:i<r)(h:j<c):j0 (c8 b) (.int (i:Int))=My (.lst ((b.getD i []).map pD))/\j0 (.lst ((b.getD i []).map pD)) (.int (j:Int))=My (pD (bI b i j)):=by
 obtain⟨e,l⟩:=a.getD g;refine⟨nG (by rw[MM,e];rfl),cw ?_⟩;rw[MM,oh (d:=(0,0)) (by lia)];rfl
noncomputable def qt(a:a0c)(c:a0a):Int:=(c.map λi=>a.getD i 0).sum
def fP(a:a0c)(b:LP)(r:Nat)(c:a0a)(j:Nat):Int:=a.getD j 0-S r λi=>if i∈c then 0 else(bI b i j).1
def gs(b:LP)(c:a0a)(j:Nat):Int:=(c.map λi=>(bI b i j).2).sum
def tT(a:a0c)(b:LP)(r c:Nat)(d e:a0a):Int:=S c λj=>if j∈e then fP a b r d j else gs b d j
def hF(b:LP)(c d:a0a)(i j:Nat):Int:=(if i∈c/\j∉d then(bI b i j).2 else 0)-(if i∉c/\j∈d then(bI b i j).1 else 0)
theorem Hk{b:LP}{d e:a0a}(h:d.Sublist (MX r))(g:e.Sublist (MX c)):
  tT cs b r c d e=qt cs e+S r λi=>S c λj=>hF b d e i j:=by
 unfold tT qt;rw[m6 g,DO,<-uq];refine eC λj l=>?_;by_cases q:j∈e
 .rw[MU q,MU q]
  unfold fP;rw[Int.sub_eq_add_neg,<-MB];congr 1;refine eC λi g=>?_;unfold hF;by_cases z:i∈d
  .simp[z,q]
  .simp[z,q]
 .rw[MS q,MS q,Qu]
  unfold gs;rw[m6 h];refine eC λi g=>?_;unfold hF;by_cases z:i∈d
  .simp[z,q]
  .simp[z,q]
end
end L2.Pu
namespace L2.Pu
section
variable{X:Cx}{K:M9}
variable{E:a0r}{o e:Expr}{b a:Ri}
theorem GV(c:Nat->Ds->Bg->Prop)
  (K:∀n w D,c n w D->(∃β1,t (fc w) D=My (.ok ML,β1)/\Gw h w β1 Q)\/∃β1,t (fc w) D=My (.ok MH,β1)/\Gw g w β1 (λo G=>∃E,o= .nx E/\∃m,m<n/\c m E G)):
  ∀(n:Nat) (w:Ds) (D:Bg),c n w D->Gw (ay (Xb t g) h) w D Q:=by
 have M:∀(n:Nat) (w:Ds) (D:Bg),c n w D->∃k a b,cq t g k w D=My (.nx a,b)/\Gw h a b Q:=by
  intro n
  induction n using Uk with
  |_ n ih=>
   intro w D hI;rcases K n w D hI with⟨β1,e,k⟩|⟨β1,e,k⟩
   .exact⟨1,w,β1,by unfold cq;simp only[e],k⟩
   .obtain⟨o,G,f,E,rfl,m,hm,d⟩:=k
    obtain⟨k,a,b,i,j⟩:=ih m hm E G d;exact⟨k+1,a,b,by unfold cq;simp only[e,f,i],j⟩
 intro n w D hI;obtain⟨k,a,b,e,l⟩:=M n w D hI;exact eW (Kv e) l
end
end L2.Pu
namespace L2.Pu
noncomputable def Kw:G:=λ_ _=>ME
theorem fL{w:N3}{K:M9}{E:a0r}:PS X w (tG K H Kw E):=λ_ _ _ _ _ _ h=>by
 obtain⟨_,_,_,_,_,_,_,e,_⟩:=h;cases e
section
variable{j:Ny}{w:NC}{A:NX}{E:a0e}{s:MQ}{l:MK}{t:Array (Int×Tok)}
theorem Ep(f:A.handled=ME)(c:s.heap.IsTuple l (Vv t))
  (h:∀D d G,(∀b o,s.heap.get? b=My o->D.get? b=My o)->Q (.int (preSum (numAt t) t.size) G) {s with heap:=D,toks:=d}):
  M0 (Nj j w) A (SC (.builtin "sum") [.ref l]) Q E s:=by
 have a:l<s.heap.objs.size:=by obtain⟨_,e,_⟩:=c;exact Nl e
 refine call_sum_walkG (T6 c ⟨_,_,_,_,_,_,numAt t,rfl,Walks.tuple (A:=A.in1) f _ l (NM a) (Vv t),⟨⟨_,M7 _ rfl,rfl,rfl⟩,c.at λo e=>MG _ e⟩,λb hb=>?_,(λ_ _=>intItems_at),λD d G g=>?_⟩)
 .show b<(s.heap.push _).objs.size
  rw[Og];rcases M4.mp hb with rfl|hb
  .exact Sm _
  .rcases M4.mp hb with rfl|hb
   .exact R4 a
   .cases hb
 .have:=h D d G λb o e=>g b o (λhm=>by
   rcases M4.mp hm with i|hm
   .exact Nh (i▸Nl e) (NU _)
   .cases hm) (MG _ e)
  simpa[Vv]using this
variable{X:Cx}{K:M9}
abbrev Gj(K:M9):a0i->Hp->VK->Prop:=λt H Q=>∃(p:MK) (j:a0c),t=[.ref p]/\(et K H p (j.map V.int)\/hY K H p (j.map V.int))/\Q (.int j.sum) H
theorem DC(b:X.calm=MH):dP X (.builtin "sum") (Gj X.K):=by
 intro a s f H t E Q I r h;obtain⟨p,l,rfl,hq|hq,q⟩:=h
 .exact sY b a s f H _ E Q I r ⟨p,l,rfl,hq,q⟩
 .obtain⟨u,rfl,g⟩:=kO r
  cases g;obtain⟨w,i,A,m⟩:=I.tuple hq;have c:=qF i;obtain⟨t,D⟩:=c.allInts.items;have d:=c.numsOf;have j:w=(Vv t).toList:=by rw[<-D]
  rw[j,nums_intItems]at d;rw[D]at A;refine Ep (I.ok.hd b) A λG n M k=>?_;have e:preSum (numAt t) t.size=l.sum:=by rw[preSum_eq,P3 (by simp),d]
  rw[e];exact⟨.int l.sum,H,I.kept k,⟨_,rfl⟩,q⟩
def pP:a0d->a0k
 |[.lst t]=>(dn t).map λj=> .int j.sum
 |[.tup t]=>(dn t).map λj=> .int j.sum
 |_=>ME
theorem J5:fS K (Gj K) pP:=λF H s Q w d A fr h e k=>by
 unfold pP at e;split at e
 .rename_i t
  obtain⟨j,q,rfl⟩:=Sh.mp e;obtain⟨v,rfl,g⟩:=bb.one h;obtain⟨a,l,rfl,r,b⟩:=c4.sqL g;rw[hV q]at b;have c:=bb.ints j b;subst c;exact⟨a,j,rfl,.inl r,k _ H (To.refl fr) rfl⟩
 .rename_i t
  obtain⟨j,q,rfl⟩:=Sh.mp e;obtain⟨v,rfl,g⟩:=bb.one h;obtain⟨a,l,rfl,r,b⟩:=c4.sqT g;rw[hV q]at b;have c:=bb.ints j b;subst c;exact⟨a,j,rfl,.inr r,k _ H (To.refl fr) rfl⟩
 .cases e
theorem IR(j:a0c):pP [.lst (j.map D.int)]=My (.int j.sum):=fJ j
theorem IQ(j:a0c):pP [.tup (j.map D.int)]=My (.int j.sum):=fJ j
end
end L2.Pu
namespace L2.Hs
open PySem.SetTable
def Rs(w:a0A):Prop:=∀i k x y:Nat,i<k->w[i]?=My x->w[k]?=My y->x<y
theorem pq{E:a0A}(r:Rs E):∀(fuel D c:Nat),D<=c->c<=E.size->c-D<=fuel->(∀i x,i<D->E[i]?=My x->x<j)->(∀i x,c<=i->E[i]?=My x->j<=x)->
  below.go E j fuel D c<=E.size/\(∀i x,i<below.go E j fuel D c->E[i]?=My x->x<j)/\∀i x,below.go E j fuel D c<=i->E[i]?=My x->j<=x
 |0,D,c,h1,h2,h3,a,b=>by
  have:D=c:=by lia
  subst this;exact⟨h2,a,b⟩
 |fuel+1,D,c,h1,h2,h3,a,b=>by
  unfold below.go;by_cases q:D<c
  .rw[MU q]
   simp only;have G:(D+c)/2<E.size:=by lia
   have e:E[(D+c)/2]?=My (E.getD ((D+c)/2) j):=by simp[Px,G]
   by_cases z:E.getD ((D+c)/2) j<j
   .rw[MU z]
    refine pq r fuel _ _ (by lia) h2 (by lia) (λi x f d=>?_) b;by_cases w:i=(D+c)/2
    .subst w
     rw[e]at d;cases d;exact z
    .exact Ry (r i ((D+c)/2) x _ (by lia) d e) z
   .rw[MS z]
    refine pq r fuel _ _ (by lia) (by lia) (by lia) a (λi x f d=>?_);by_cases w:i=(D+c)/2
    .subst w
     rw[e]at d;cases d;lia
    .have:=r ((D+c)/2) i _ x (by lia) e d
     lia
  .rw[MS q]
   have:D=c:=by lia
   subst this;exact⟨h2,a,b⟩
theorem jC{w:a0A}(r:Rs w):below w j<=w.size/\(∀i x,i<below w j->w[i]?=My x->x<j)/\∀i x,below w j<=i->w[i]?=My x->j<=x:=
 pq r w.size 0 w.size (N2 _) (MW _) (by lia) (λi x h=>Nh h (OM i)) (λi x h e=>by
  have:=(NL.mp e).1;lia)
theorem FM(r:Rs f)(h:f[i]?=My j):below f j=i:=by
 obtain⟨c,a,b⟩:=jC (j:=j) r;rcases Qj (below f j) i with q|q|q
 .have d:=(NL.mp h).1
  have e:f[below f j]?=My f[below f j]:=getElem?_pos f _ (by lia);have:=b _ _ (MW _) e;have:=r _ _ _ _ q e h;lia
 .exact q
 .have:=a _ _ q h
  lia
theorem su{t:NV}(r:Rs t.place)(h:t.place[i]?=My j):t.slot j= .live i:=by
 unfold slot;simp only[FM r h,h,TN,NN]
theorem xZ{t:NV}(d:t.dummies=#[])(h:∀i:Nat,t.place[i]?≠My j):t.slot j= .empty:=by
 unfold slot;have a:(t.place[below t.place j]?==My j)=ML:=by
  rw[U1];exact h _
 have b:has t.dummies j=ML:=by unfold has;rw[d];rfl
 simp only[a,b,Na,N1]
noncomputable def en(t:NV):Nat->Probe->Probe
 |0,p=>p
 |n+1,p=>en t n (t.advance p)
theorem o8(t:NV):∀(n:Nat) (p:Probe),en t (n+1) p=t.advance (en t n p)
 |0,p=>rfl
 |n+1,p=>by
  show en t (n+1) (t.advance p)=t.advance (en t n (t.advance p));exact o8 t n (t.advance p)
theorem nM(t:NV):∀(n m:Nat) (p:Probe),en t (n+m) p=en t m (en t n p)
 |0,m,p=>by rw[Oo];rfl
 |n+1,m,p=>by
  rw[show n+1+m=(n+m)+1 by lia];exact nM t n m (t.advance p)
structure Pv (t:NV) (p:Probe):Prop where
 j:p.j+p.more<=t.mask
 more:p.more<=9
 i:p.i<=t.mask
 pt:p.perturb<2^64
 du:p.dummy=ME
theorem sF{w i:Nat}(h:i<=w):i<=runEnd w i/\runEnd w i<=w/\runEnd w i-i<=9:=by
 unfold runEnd;by_cases q:i+9<=w
 .rw[MU q];lia
 .rw[MS q];lia
noncomputable def ry(t:NV)(i w:Nat):Probe:={j:=i,more:=runEnd t.mask i-i,i,perturb:=w,dummy:=ME}
theorem qR{t:NV}(h:i<=t.mask)(a:pt<2^64):Pv t (ry t i pt):=by
 obtain⟨c,d,b⟩:=sF h;refine⟨?_,b,h,a,rfl⟩;show i+(runEnd t.mask i-i)<=t.mask;lia
theorem sj(t:NV)(h:Int):t.probeStart h=ry t (bits h % (t.mask+1)) (bits h):=rfl
theorem n6(h:Int):bits h<2^64:=by
 unfold bits;have:=RJ h (show(0:Int)<2^64 by decide);have:=Rj h (show(2^64:Int)≠0 by decide);lia
theorem oS(t:NV)(h:Int):Pv t (t.probeStart h):=by
 rw[sj];exact qR (by have:=UH (bits h) (show t.mask+1>0 by lia);lia) (n6 h)
noncomputable abbrev K_(w i D:Nat):Nat:=(i*5+1+D/32) % (w+1)
theorem DN{t:NV}{p:Probe}(h:0<p.more):t.advance p={p with j:=p.j+1,more:=p.more-1}:=by
 unfold advance;rw[MU h]
theorem xC{t:NV}{p:Probe}(h:p.more=0)(w:p.dummy=ME):t.advance p=ry t (K_ t.mask p.i p.perturb) (p.perturb/32):=by
 unfold advance;rw[MS (by lia)];unfold leap ry;simp only[w]
theorem yz(w i D:Nat):K_ w i D<=w:=by
 have:=UH (i*5+1+D/32) (show w+1>0 by lia);unfold K_;lia
theorem DM{t:NV}(v:Pv t p):Pv t (t.advance p):=by
 by_cases q:0<p.more
 .rw[DN q]
  exact⟨by have:=v.j;show p.j+1+(p.more-1)<=t.mask;lia,by have:=v.more;show p.more-1<=9;lia,v.i,v.pt,v.du⟩
 .rw[xC (by lia) v.du]
  exact qR (yz _ _ _) (ON (Uj _ _) v.pt)
theorem mC:∀(n:Nat) {p:Probe},Pv t p->Pv t (en t n p)
 |0,_,v=>v
 |n+1,_,v=>mC n (DM v)
theorem rD:∀(k:Nat) {p:Probe},Pv t p->k<=p.more->en t k p={p with j:=p.j+k,more:=p.more-k}
 |0,p,v,h=>by cases p;rfl
 |k+1,p,v,h=>by
  rw[o8,rD k v (by lia)];rw[DN (show 0<p.more-k by lia)];simp only[Probe.mk.injEq,and_true,true_and];lia
theorem o9{t:NV}{p:Probe}(v:Pv t p):en t (p.more+1) p=ry t (K_ t.mask p.i p.perturb) (p.perturb/32):=by
 rw[o8,rD _ v (MW _)];exact xC (Rz _) v.du
def cJ(w:Nat):Nat->Nat×Nat->Nat×Nat
 |0,x=>x
 |k+1,x=>cJ w k (K_ w x.1 x.2,x.2/32)
theorem jO(w:Nat):∀(k:Nat) (x:Nat×Nat),cJ w (k+1) x=(K_ w (cJ w k x).1 (cJ w k x).2,(cJ w k x).2/32)
 |0,x=>rfl
 |k+1,x=>jO w k _
theorem vA{t:NV}:∀(k:Nat) {p:Probe},Pv t p->∃n,n<=10*(k+1)/\en t n p=ry t (cJ t.mask (k+1) (p.i,p.perturb)).1 (cJ t.mask (k+1) (p.i,p.perturb)).2
 |0,p,v=>⟨p.more+1,by have:=v.more;lia,o9 v⟩
 |k+1,p,v=>by
  obtain⟨n,w,e⟩:=vA k v;have a:=mC n v;rw[e]at a;refine⟨n+((ry t (cJ t.mask (k+1) (p.i,p.perturb)).1 (cJ t.mask (k+1) (p.i,p.perturb)).2).more+1),by have:=a.more;lia,?_⟩;rw[nM,e,o9 a,jO t.mask (k+1)];rfl
def Mk(w:Nat):Prop:=w=7\/w=31\/w=127
noncomputable def KX(w:Nat):Nat->Nat->Nat
 |0,i=>i
 |k+1,i=>KX w k ((i*5+1) % (w+1))
theorem nq(w:Nat):∀(a b i:Nat),KX w (a+b) i=KX w b (KX w a i)
 |0,b,i=>by rw[Oo];rfl
 |a+1,b,i=>by
  rw[show a+1+b=(a+b)+1 by lia];exact nq w a b _
def Go(w:Nat):Bool:=(KX w (w+1) 0==0)&&(MX (w+1)).all λj=>(MX (w+1)).any λk=>KX w k 0==j
theorem JH{w:Nat}(h:Mk w):Go w=MH:=by
 rcases h with rfl|rfl|rfl<;>decide +kernel
theorem wW{w i j:Nat}(h:Mk w)(l:i<=w)(m:j<=w):∃k,k<=w/\KX w k i=j:=by
 have o:=JH h;unfold Go at o;rw[No,PV,OR]at o;obtain⟨g,D⟩:=o;obtain⟨a,e,c⟩:=List.any_eq_true.mp (D i (Ni.mpr (by lia)));obtain⟨b,f,d⟩:=List.any_eq_true.mp (D j (Ni.mpr (by lia)));rw[PV]at c d;have:=Ni.mp e;have:=Ni.mp f;by_cases q:a<=b
 .refine⟨b-a,by lia,?_⟩
  rw[<-c,<-nq,show a+(b-a)=b by lia,d]
 .refine⟨b+(w+1)-a,by lia,?_⟩
  rw[<-c,<-nq,show a+(b+(w+1)-a)=(w+1)+b by lia,nq,g,d]
theorem mh(w:Nat):∀(k i:Nat),cJ w k (i,0)=(KX w k i,0)
 |0,i=>rfl
 |k+1,i=>by
  show cJ w k (K_ w i 0,0/32)=_;rw[show(0/32:Nat)=0 from rfl,mh w k];rfl
theorem oW(w:Nat):∀(a b:Nat) (x:Nat×Nat),cJ w (a+b) x=cJ w b (cJ w a x)
 |0,b,x=>by rw[Oo];rfl
 |a+1,b,x=>by
  rw[show a+1+b=(a+b)+1 by lia];exact oW w a b _
theorem oV(w:Nat):∀(k:Nat) (x:Nat×Nat),(cJ w k x).2=x.2/32^k
 |0,x=>by simp[cJ]
 |k+1,x=>by
  rw[jO,oV w k x,Vh,Nat.pow_succ]
theorem wI(w:Nat):∀(k:Nat) (x:Nat×Nat),x.1<=w->(cJ w k x).1<=w
 |0,x,h=>h
 |k+1,x,h=>by rw[jO];exact yz _ _ _
theorem MA{t:NV}(h:Mk t.mask)(v:Pv t p)(a:j<=t.mask):∃n,n<10*turns t.mask/\(en t n p).j=j:=by
 have z:(cJ t.mask 13 (p.i,p.perturb)).2=0:=by
  rw[oV];exact Nat.div_eq_of_lt (Nm v.pt (by decide))
 have l:=wI t.mask 13 (p.i,p.perturb) v.i;obtain⟨k,c,e⟩:=wW h l a;obtain⟨n,w,b⟩:=vA (12+k) v;refine⟨n,by unfold turns;lia,?_⟩;rw[b];show(cJ t.mask (12+k+1) (p.i,p.perturb)).1=j;rw[show 12+k+1=13+k by lia,oW,show cJ t.mask 13 (p.i,p.perturb)=((cJ t.mask 13 (p.i,p.perturb)).1,0)from QD rfl z,mh];exact e
abbrev Lv(t:NV)(j:Nat):Prop:=∃k:Nat,t.place[k]?=My j
structure Tb (t:NV) (hs:a0c):Prop where
 km:Mk t.mask
 sz:t.place.size=hs.length
 rs:Rs t.place
 le:∀i j:Nat,t.place[i]?=My j->j<=t.mask
 du:t.dummies=#[]
 nf:t.place.size*5<t.mask*3
 rch:∀(i:Nat) (h:Int) (j:Nat),hs[i]?=My h->t.place[i]?=My j->∃n,(en t n (t.probeStart h)).j=j/\∀m<n,Lv t (en t m (t.probeStart h)).j
theorem Mk.odd(h:Mk m):m % 2=1/\7<=m/\m<=127:=by
 rcases h with rfl|rfl|rfl<;>decide
theorem gap{D:a0A}(r:Rs D):∀n,n<=D.size->(∀i:Nat,i<n->D[i]?=My i)\/∃j,j<n/\∀i:Nat,D[i]?≠My j
 |0,_=> .inl λi h=>Nh h (OM i)
 |n+1,h=>by
  rcases gap r n (by lia)with q|⟨j,c,b⟩
  .have e:D[n]?=My D[n]:=getElem?_pos D n (by lia)
   by_cases z:D[n]=n
   .refine .inl λi d=>?_
    by_cases w:i=n
    .subst w;rw[e,z]
    .exact q i (by lia)
   .have lt:n<=D[n]:=by
     cases n with
     |zero=>lia
     |succ m=>
      have:=r m (m+1) _ _ (by lia) (q m (by lia)) e;lia
    refine .inr ⟨n,by lia,λi a=>?_⟩;rcases Qj i n with w|w|w
    .rw[q i w]at a;cases a;lia
    .subst w;rw[e]at a;exact z (Np a)
    .have:=r n i _ _ w e a
     lia
  .exact .inr ⟨j,by lia,b⟩
theorem Ku{w:a0A}(r:Rs w):∃j,j<=w.size/\∀i:Nat,w[i]?≠My j:=by
 rcases gap r w.size (MW _)with q|⟨j,c,a⟩
 .refine⟨w.size,MW _,λi e=>?_⟩
  have b:=(NL.mp e).1;rw[q i b]at e;cases e;lia
 .exact⟨j,by lia,a⟩
theorem GJ{t:NV}(r:Rs t.place)(d:t.dummies=#[]):∀(fuel:Nat) (p:Probe) (e:Nat),Pv t p->e<fuel->¬Lv t (en t e p).j->
  ∃m,m<=e/\(∀a<m,∃i,t.place[i]?=My (en t a p).j/\hashAt i≠h)/\
   ((¬Lv t (en t m p).j/\probe.go t hashAt h fuel p=My (.empty (en t m p).j ME))\/∃i,t.place[i]?=My (en t m p).j/\hashAt i=h/\probe.go t hashAt h fuel p=My (.candidate (en t m p).j i (en t (m+1) p)))
 |0,_,_,_,h,_=>Nh h (OM _)
 |fuel+1,p,e,v,hf,he=>by
  unfold probe.go;by_cases q:Lv t p.j
  .obtain⟨i,b⟩:=q
   rw[su r b];simp only;by_cases z:hashAt i=h
   .refine⟨0,N2 _,λa w=>Nh w (OM _),.inr ⟨i,b,z,?_⟩⟩
    rw[MU (by rw[PV];exact z)];rfl
   .rw[MS (by rw[PV];exact z)]
    cases e with
    |zero=>exact Nh ⟨i,b⟩ he
    |succ e=>
     obtain⟨m,w,D,c⟩:=GJ r d fuel (t.advance p) e (DM v) (by lia) he;refine⟨m+1,by lia,λa f=>?_,c⟩;cases a with
     |zero=>exact⟨i,b,z⟩
     |succ a=>exact D a (by lia)
  .rw[xZ d (λi b=>q ⟨i,b⟩)]
   refine⟨0,N2 _,λa w=>Nh w (OM _),.inl ⟨q,?_⟩⟩;simp only[v.du];rfl
theorem Tb.free{t:NV}(T:Tb t hs)(v:Pv t p):∃e,e<10*turns t.mask/\¬Lv t (en t e p).j:=by
 obtain⟨j,f,a⟩:=Ku T.rs;have:=T.nf;have:=T.km.odd;obtain⟨e,b,c⟩:=MA T.km v (show j<=t.mask by lia);exact⟨e,b,λ⟨k,d⟩=>a k (by rw[<-c];exact d)⟩
theorem CC{E:Type}{D:Array E}{p:Nat}{x:E}(b:p<=D.size)(i:Nat):(insertAt D p x)[i]?=if i<p then D[i]? else if i=p then My x else D[i-1]?:=by
 unfold insertAt;rw[Array.getElem?_append];have a:((D.extract 0 p).push x).size=p+1:=by simp;lia
 rw[a];by_cases q:i<p
 .rw[MU (by lia),MU q,VE,VQ]
  rw[MS (by lia),UX];simp;lia
 .by_cases z:i=p
  .subst z
   rw[MU (by lia),MS (by lia),MU rfl,VE,VQ];rw[MU (by lia)]
  .rw[MS (by lia),MS q,MS z,UX]
   by_cases w:i-1<D.size
   .rw[MU (by lia)]
    congr 1;lia
   .rw[MS (by lia),PY (by lia)]
theorem gC{D:Type}{w:Array D}{p:Nat}{x:D}(a:p<=w.size):(insertAt w p x).size=w.size+1:=by
 unfold insertAt;simp;lia
theorem Tb.put{t:NV}{hs:a0c}(T:Tb t hs)(C:¬Lv t j)(S:(en t n (t.probeStart h)).j=j)(V:∀m<n,Lv t (en t m (t.probeStart h)).j)(s:(t.place.size+1)*5<t.mask*3):
  (t.put j).1.dummies=#[]/\(t.put j).1.mask=t.mask/\(t.put j).1.place.size=t.place.size+1/\(t.put j).2<=t.place.size/\Tb (t.put j).1 (hs.take (t.put j).2++h::hs.drop (t.put j).2):=by
 obtain⟨G,F,b3⟩:=jC (j:=j) T.rs;have Q:has t.dummies j=ML:=by unfold has;rw[T.du];rfl
 have A:(t.put j).1.dummies=#[]:=by
  show(if has t.dummies j=MH then _ else t.dummies)=#[];rw[Q,MS MT,T.du]
 have E:(t.put j).1.place=insertAt t.place (below t.place j) j:=rfl;have g:=λi=>CC (x:=j) G i;have B:∀x,Lv t x->Lv (t.put j).1 x:=λx ⟨k,l⟩=>by
  by_cases q:k<below t.place j
  .exact⟨k,by rw[E,g,MU q];exact l⟩
  .exact⟨k+1,by rw[E,g,MS (by lia),MS (by lia)];exact l⟩
 have K:∀m p,en (t.put j).1 m p=en t m p:=λm=>by
  induction m with
  |zero=>intro p;rfl
  |succ m R=>intro p;exact R (t.advance p)
 refine⟨A,rfl,by rw[E,gC G],G,⟨T.km,?_,?_,?_,A,?_,?_⟩⟩
 .rw[E,gC G,T.sz]
  have:(t.put j).2<=hs.length:=by rw[<-T.sz];exact G
  simp;lia
 .intro i k x y r c e
  rw[E,g]at c e;have H:∀k,t.place[k]?≠My j:=λk l=>C ⟨k,l⟩;by_cases D:i<below t.place j
  .rw[MU D]at c
   by_cases P:k<below t.place j
   .rw[MU P]at e
    exact T.rs i k x y r c e
   .rw[MS P]at e
    by_cases w:k=below t.place j
    .rw[MU w]at e;cases e
     exact F i x D c
    .rw[MS w]at e
     exact T.rs i (k-1) x y (by lia) c e
  .rw[MS D]at c
   rw[MS (by lia),MS (by lia)]at e;by_cases w:i=below t.place j
   .rw[MU w]at c;cases c
    have N:=b3 (k-1) y (by lia) e;have:y≠j:=λz=>H (k-1) (by rw[e,z]);lia
   .rw[MS w]at c
    exact T.rs (i-1) (k-1) x y (by lia) c e
 .intro i x c
  rw[E,g]at c;by_cases D:i<below t.place j
  .rw[MU D]at c;exact T.le i x c
  .rw[MS D]at c
   by_cases w:i=below t.place j
   .rw[MU w]at c;cases c
    have v:=mC n (oS t h);have:=v.j;show j<=t.mask;lia
   .rw[MS w]at c;exact T.le _ x c
 .rw[E,gC G];exact s
 .intro i h' x I c
  have O:(t.put j).2<=hs.length:=by rw[<-T.sz];exact G
  have u:(t.put j).2=below t.place j:=rfl;rw[E,g]at c;have d:(if i<below t.place j then hs[i]? else if i=below t.place j then My h else hs[i-1]?)=My h':=by
   rw[<-I,u];by_cases D:i<below t.place j
   .rw[MU D,Qv (by rw[PP];lia),US D]
   .rw[MS D,OU (by rw[PP];lia),PP,Nat.min_eq_left (by lia)]
    by_cases w:i=below t.place j
    .rw[MU w,w,Rz];rfl
    .rw[MS w,show i-below t.place j=(i-1-below t.place j)+1 by lia,UZ,Wh]
     congr 1;lia
  have f:∀o,hs[o]?=My h'->t.place[o]?=My x->∃n,(en (t.put j).1 n ((t.put j).1.probeStart h')).j=x/\∀m<n,Lv (t.put j).1 (en (t.put j).1 m ((t.put j).1.probeStart h')).j:=λo a b=>by
   obtain⟨J,L,u⟩:=T.rch o h' x a b;refine⟨J,by rw[K];exact L,λm M=>?_⟩;rw[K];exact B _ (u m M)
  by_cases D:i<below t.place j
  .rw[MU D]at c d
   exact f i d c
  .rw[MS D]at c d
   by_cases w:i=below t.place j
   .rw[MU w]at c d
    cases c;cases d;refine⟨n,by rw[K];exact S,λm M=>?_⟩;rw[K];exact B _ (V m M)
   .rw[MS w]at c d
    exact f (i-1) d c
theorem vC{t u:NV}(h:t.mask=u.mask):∀(n:Nat) (p:Probe),en t n p=en u n p
 |0,p=>rfl
 |n+1,p=>by
  show en t n (t.advance p)=en u n (u.advance p);have:t.advance p=u.advance p:=by unfold advance;rw[h]
  rw[this];exact vC h n _
theorem xV{t u:NV}(h:t.mask=u.mask)(x:Int):t.probeStart x=u.probeStart x:=by unfold probeStart;rw[h]
noncomputable abbrev tm(mask:Nat):NV:={mask,place:=#[],dummies:=#[],finger:=0,led:=MH,moves:=0,plain:=MH}
noncomputable abbrev fr(owner:a0x)(j:Nat):Bool:=(owner.getD j (My 0)).isNone
theorem xh{w:Nat}{owner:a0x}:∀(fuel i D:Nat),i<=w->D<2^64->(∃b,b<fuel/\fr owner (cJ w b (i,D)).1=MH)->
  ∃n,layClean.free w owner fuel i D=My (en (tm w) n (ry (tm w) i D)).j/\fr owner (en (tm w) n (ry (tm w) i D)).j=MH/\∀m<n,fr owner (en (tm w) m (ry (tm w) i D)).j=ML
 |0,_,_,_,_,⟨b,h,_⟩=>Nh h (OM b)
 |fuel+1,i,D,hi,hp,⟨b,hb,hf⟩=>by
  have v:=qR (t:=tm w) hi hp;obtain⟨K,B,C⟩:=sF hi;have f:(ry (tm w) i D).more=runEnd w i-i:=rfl;have d:∀k,k<=runEnd w i-i->(en (tm w) k (ry (tm w) i D)).j=i+k:=λk c=>by
   rw[rD k v c];rfl
  unfold layClean.free;split
  .rename_i k c
   obtain⟨g,l,o⟩:=List.find?_range_eq_some.mp c;have:=Ni.mp l;refine⟨k,by rw[d k (by lia)],by rw[d k (by lia)];exact g,λm E=>?_⟩;rw[d m (by lia)];have:=o m E;simpa using this
  .rename_i c
   have G:∀k,k<=runEnd w i-i->fr owner (i+k)=ML:=λk p=>by
    have:=List.find?_range_eq_none.mp c k (by lia);simpa using this
   cases b with
   |zero=>
    have r:=G 0 (by lia);exact Nh hf (by rw[show(cJ w 0 (i,D)).1=i+0 from rfl,r];exact MT)
   |succ b=>
    obtain⟨n,u,y,A⟩:=xh fuel (K_ w i D) (D/32) (yz _ _ _) (ON (Uj _ _) hp) ⟨b,by lia,hf⟩;have a:∀m,en (tm w) (runEnd w i-i+1+m) (ry (tm w) i D)=en (tm w) m (ry (tm w) (K_ w i D) (D/32)):=λm=>by
     rw[nM,<-f,o9 v];rfl
    refine⟨runEnd w i-i+1+n,by rw[a];exact u,by rw[a];exact y,λm E=>?_⟩;by_cases q:m<=runEnd w i-i
    .rw[d m q];exact G m q
    .obtain⟨e,rfl⟩:∃e,m=runEnd w i-i+1+e:=⟨m-(runEnd w i-i+1),by lia⟩
     rw[a];exact A e (by lia)
structure Ow (mask:Nat) (owner:a0x) (hs:a0c):Prop where
 sz:owner.size=mask+1
 lt:∀j k:Nat,owner[j]?=My (My k)->k<hs.length
 un:∀j j' k:Nat,owner[j]?=My (My k)->owner[j']?=My (My k)->j=j'
 cn:owner.toList.countP (·.isSome)=hs.length
 ex:∀(k:Nat) (h:Int),hs[k]?=My h->∃j n:Nat,owner[j]?=My (My k)/\(en (tm mask) n ((tm mask).probeStart h)).j=j/\∀m<n,∃k':Nat,owner[(en (tm mask) m ((tm mask).probeStart h)).j]?=My (My k')
theorem yQ{w:Nat}{owner:a0x}(D:owner.size=w+1){j:Nat}(b:j<=w):(fr owner j=MH↔owner[j]?=My ME)/\(fr owner j=ML↔∃k:Nat,owner[j]?=My (My k)):=by
 have e:owner[j]?=My owner[j]:=getElem?_pos owner j (by lia);have a:owner.getD j (My 0)=owner[j]:=by simp[Px,show j<owner.size by lia]
 unfold fr;rw[a,e];cases owner[j]<;>simp
theorem Ow.step{D:Nat}{owner:a0x}{E:a0c}(O:Ow D owner E)(h:Int)(G:Mk D)(W:E.length<=D):
  ∃j,layClean.free D owner (turns D) (bits h % (D+1)) (bits h)=My j/\Ow D (owner.setIfInBounds j (My E.length)) (E++[h]):=by
 have u:bits h % (D+1)<=D:=by have:=UH (bits h) (show D+1>0 by lia);lia
 have⟨v,h1,h2⟩:∃v,v<=D/\fr owner v=MH:=by
  refine OD λz=>?_;have K:∀a∈owner.toList,Option.isSome a=MH:=λa P=>by
   obtain⟨i,g,e⟩:=S4 P;have L:i<owner.size:=by simpa using g
   have N:fr owner i=ML:=by
    cases q:fr owner i with
    |false=>rfl
    |true=>exact Nh ⟨i,by have:=O.sz;lia,q⟩ z
   obtain⟨k,A⟩:=(yQ O.sz (show i<=D by have:=O.sz;lia)).2.mp N;have:owner[i]?=My a:=by rw[<-Qb,MI g,e]
   rw[this]at A;cases A;rfl
  have:=List.countP_eq_length.mpr K;rw[O.cn]at this;have:=O.sz;simp at*;lia
 have z:(cJ D 13 (bits h % (D+1),bits h)).2=0:=by
  rw[oV];exact Nat.div_eq_of_lt (Nm (n6 h) (by decide))
 have l:=wI D 13 (bits h % (D+1),bits h) u;obtain⟨k,A,e⟩:=wW G l h1;have Q:fr owner (cJ D (13+k) (bits h % (D+1),bits h)).1=MH:=by
  rw[oW,show cJ D 13 (bits h % (D+1),bits h)=((cJ D 13 (bits h % (D+1),bits h)).1,0)from QD rfl z,mh];show fr owner (KX D k _)=MH;rw[e];exact h2
 obtain⟨n,F,H,R⟩:=xh (owner:=owner) (turns D) (bits h % (D+1)) (bits h) u (n6 h) ⟨13+k,by unfold turns;lia,Q⟩;have I:∀m,(en (tm D) m (ry (tm D) (bits h % (D+1)) (bits h))).j<=D:=λm=>by
  have:=(mC m (qR (t:=tm D) u (n6 h))).j;show _<=(tm D).mask;lia
 generalize J:(en (tm D) n (ry (tm D) (bits h % (D+1)) (bits h))).j=j at F H;have T:j<=D:=by rw[<-J];exact I n
 have o:owner[j]?=My ME:=(yQ O.sz T).1.mp H;have p:j<owner.size:=by have:=O.sz;lia
 have set:∀x:Nat,(owner.setIfInBounds j (My E.length))[x]?=if j=x then My (My E.length)else owner[x]?:=λx=>by
  rw[Array.getElem?_setIfInBounds];by_cases q:j=x
  .rw[MU q,MU q,MU p]
  .rw[MS q,MS q]
 refine⟨j,F,⟨by rw[Array.size_setIfInBounds];exact O.sz,λx k c=>?_,λx y k c f=>?_,?_,λk S d=>?_⟩⟩
 .rw[set]at c
  rw[Nb];by_cases q:j=x
  .rw[MU q]at c;cases c;simp
  .rw[MS q]at c
   have:=O.lt x k c;lia
 .rw[set]at c f
  by_cases q:j=x
  .rw[MU q]at c;cases c
   by_cases r:j=y
   .lia
   .rw[MS r]at f
    exact Nh (O.lt y _ f) (NU _)
  .rw[MS q]at c
   by_cases r:j=y
   .rw[MU r]at f;cases f
    exact Nh (O.lt x _ c) (NU _)
   .rw[MS r]at f
    exact O.un x y k c f
 .rw[Array.toList_setIfInBounds,List.countP_set (by simpa using p),O.cn]
  have:owner.toList[j]'(by simpa using p)=ME:=by
   have e:=getElem?_pos owner j p;rw[o]at e;rw[Q5];exact(Np e).symm
  rw[this];simp
 .by_cases q:k<E.length
  .rw[Qv q]at d
   obtain⟨x,U,M,V,s⟩:=O.ex k S d;refine⟨x,U,?_,V,λm G=>?_⟩
   .rw[set,MS (λw=>by subst w;rw[o]at M;cases M)];exact M
   .obtain⟨B,b⟩:=s m G
    exact⟨B,by rw[set,MS (λw=>by rw[<-w,o]at b;cases b)];exact b⟩
  .have C:=(MR.mp d).1
   rw[Nb,N7]at C;have:k=E.length:=by lia
   subst this;rw[OU (MW _),Rz]at d;cases d;refine⟨j,n,by rw[set,MU rfl],J,λm G=>?_⟩;obtain⟨B,b⟩:=(yQ O.sz (I m)).2.mp (R m G);exact⟨B,by rw[sj,set,MS (λw=>by rw[<-w,o]at b;cases b)];exact b⟩
theorem Ow.nil(w:Nat):Ow w (Array.replicate (w+1) ME) []:=by
 have g:∀x:Nat,(Array.replicate (w+1) (ME:a0I))[x]?=if x<w+1 then My ME else ME:=λx=>Array.getElem?_replicate;refine⟨by simp,λj k h=>?_,λj b k h=>?_,by simp,λk h a=>by simp at a⟩
 .rw[g]at h
  split at h<;>cases h
 .rw[g]at h
  split at h<;>cases h
theorem vo{D:Nat}(K:Mk D):∀(l:a0c) (w:a0x) (E:a0c),Ow D w E->E.length+l.length<=D+1->∃a,l.foldl (λ(G:Option (a0x×Nat)) h=>do
   let (w,k) <-G
   let j <-layClean.free D w (turns D) (bits h % (D+1)) (bits h)
   OW (w.setIfInBounds j (My k),k+1)) (My (w,E.length))=My (a,E.length+l.length)/\Ow D a (E++l)
 |[],w,E,O,_=>⟨w,rfl,by rw[NJ];exact O⟩
 |h::l,w,E,O,hl=>by
  rw[M5]at hl;obtain⟨j,e,d⟩:=O.step h K (by lia);obtain⟨f,b,c⟩:=vo K l _ (E++[h]) d (by rw[Nb,N7];lia);refine⟨f,?_,by rw[N4]at c;exact c⟩;rw[List.foldl_cons];simp only[Option.bind_eq_bind,PD,e];rw[Nb,N7]at b;rw[M5,show E.length+(l.length+1)=E.length+1+l.length by lia];exact b
theorem J4{w:Nat}(G:Mk w)(E:Array Int)(b:E.size<=w+1):∃D,layClean w E=My D/\Ow w D E.toList:=by
 obtain⟨o,e,O⟩:=vo G E.toList _ [] (Ow.nil w) (by simpa using b);refine⟨o,?_,O⟩;unfold layClean;rw[<-Array.foldl_toList];have a:=e;simp only[Ub]at a;exact(N6 (Option.map (·.1)) a).trans rfl
theorem vH{w D:Type}{f:w->Option D}{g:w->D}:∀{l:List w},(∀a∈l,f a=My (g a))->l.filterMap f=l.map g
 |[],_=>rfl
 |a::l,h=>by
  rw[Ov,h a MP,MZ,vH λb c=>h b (MJ a c)]
noncomputable def cF(D:Nat)(w:a0x):a0l:=(MX (D+1)).filterMap λj=>(w.getD j ME).map (j,·)
theorem E7{D:Nat}{w:a0x}(E:w.size=D+1){j k:Nat}:(j,k)∈cF D w↔w[j]?=My (My k):=by
 unfold cF;rw[RE];constructor
 .rintro⟨x,c,e⟩
  have d:=Ni.mp c;have a:w.getD x ME=w[x]:=by simp[Px,show x<w.size by lia]
  rw[a]at e;cases q:w[x]with
  |none=>rw[q]at e;cases e
  |some f=>
   rw[q]at e;simp only[OI,UT,Prod.mk.injEq]at e;obtain⟨rfl,rfl⟩:=e;rw[getElem?_pos w x (by lia),q]
 .intro e
  have b:=(NL.mp e).1;refine⟨j,Ni.mpr (by lia),?_⟩;have a:w.getD j ME=w[j]:=by simp[Px,b]
  rw[getElem?_pos w j b]at e;rw[a,Np e];rfl
theorem BN(D:Nat)(w:a0x):(cF D w).Pairwise λa b=>a.1<b.1:=by
 unfold cF;refine List.Pairwise.filterMap _ (λa f h b d g c=>?_) List.pairwise_lt_range;cases q:w.getD a ME with
 |none=>rw[q]at d;cases d
 |some k=>
  rw[q]at d;cases e:w.getD f ME with
  |none=>rw[e]at c;cases c
  |some i=>
   rw[e]at c;cases d;cases c;exact h
theorem AA{t:NV}{hs:Array Int}(M:Mk (sizeAbove wanted-1))(nf:hs.size*5<(sizeAbove wanted-1)*3):
  ∃(G:NV) (c:a0A),t.relaid hs wanted=My (G,c)/\c.toList.Perm (MX hs.size)/\Tb G (c.toList.map λk=>hs.getD k 0)/\G.led=t.led/\G.plain=t.plain:=by
 have ho:=M.odd;obtain⟨w,e,O⟩:=J4 M hs (by lia);generalize T:sizeAbove wanted-1=mask at*;have d:hs.toList.length=hs.size:=by simp
 have f:=BN mask w;have g:∀{j k:Nat},(j,k)∈cF mask w↔w[j]?=My (My k):=E7 O.sz;have U:t.relaid hs wanted=My ({mask,place:=((cF mask w).map (·.1)).toArray,dummies:=#[],finger:=t.finger,led:=t.led,moves:=t.movedTo mask,plain:=t.plain},((cF mask w).map (·.2)).toArray):=by
  unfold relaid laid;rw[T,e];rfl
 have D:((cF mask w).map (·.2)).Perm (MX hs.size):=by
  refine(List.perm_ext_iff_of_nodup ?_ TV).mpr λk=>?_
  .unfold List.Nodup
   rw[RW];refine List.Pairwise.imp_of_mem (R:=λa b=>a.1<b.1) (λ{a b} E B h z=>?_) f;obtain⟨j,k⟩:=a;obtain⟨r,v⟩:=b;have W:k=v:=z;subst W;have:=O.un j r k (g.mp E) (g.mp B);have h':j<r:=h;lia
  .rw[M8,Ni]
   constructor
   .rintro⟨⟨j,v⟩,h,rfl⟩
    have:=O.lt j v (g.mp h);rwa[d]at this
   .intro A
    obtain⟨j,n,C,_⟩:=O.ex k _ (MI (by rw[d];exact A));exact⟨(j,k),g.mpr C,rfl⟩
 have l:(cF mask w).length=hs.size:=by
  have:=D.length_eq;rwa[MD,Nr]at this
 refine⟨_,_,U,by simpa using D,?_,rfl,rfl⟩;have K:∀{i:Nat} {x:Nat},(((cF mask w).map (·.1)).toArray)[i]?=My x->∃k,(cF mask w)[i]?=My (x,k):=λ{i x} h=>by
  rw[SI,MM]at h;cases q:(cF mask w)[i]? with
  |none=>rw[q]at h;cases h
  |some a=>
   rw[q]at h;cases h;exact⟨a.2,rfl⟩
 have F:∀{j k:Nat},w[j]?=My (My k)->∃i:Nat,(((cF mask w).map (·.1)).toArray)[i]?=My j:=λ{j k} h=>by
  obtain⟨i,X,Y⟩:=S4 (g.mpr h);exact⟨i,by rw[SI,MM,MI X,Y];rfl⟩
 refine⟨M,?_,?_,?_,rfl,?_,?_⟩
 .show(((cF mask w).map (·.1)).toArray).size=_
  simp
 .intro i k x y H Z hy
  obtain⟨a,E⟩:=K Z;obtain⟨b,B⟩:=K hy;obtain⟨C,I⟩:=MR.mp E;obtain⟨S,V⟩:=MR.mp B;have:=Pl.mp f i k C S H;rw[I,V]at this;exact this
 .intro i j h
  obtain⟨a,E⟩:=K h;have:=(NL.mp (g.mp (M2 E))).1;have:=O.sz;show j<=mask;lia
 .show(((cF mask w).map (·.1)).toArray).size*5<mask*3
  have:(((cF mask w).map (·.1)).toArray).size=hs.size:=by simp[l]
  lia
 .intro i h j J hj
  obtain⟨k,A⟩:=K hj;have o:=g.mp (M2 A);have s:hs.toList[k]?=My h:=by
   rw[MM]at J;have I:((cF mask w).map (·.2)).toArray.toList[i]?=My k:=by
    show((cF mask w).map (·.2))[i]?=_;rw[MM,A];rfl
   rw[I]at J;have N:k<hs.size:=by have:=O.lt j k o;rwa[d]at this
   have:hs.getD k 0=h:=Np J;rw[Qb,getElem?_pos hs k N,<-this];simp[Px,N]
  obtain⟨r,n,a1,a2,a3⟩:=O.ex k h s;have:=O.un j r k o a1;subst this;have P:∀(u:NV),u.mask=mask->∀m,en u m (u.probeStart h)=en (tm mask) m ((tm mask).probeStart h):=λu Q m=>by
   rw[xV (u:=tm mask) Q,vC (u:=tm mask) Q]
  refine⟨n,by rw[P _ rfl];exact a2,λm L=>?_⟩;rw[P _ rfl];obtain⟨v,p⟩:=a3 m L;exact F p
theorem sH{t:NV}(a:t.probe f h p=r)(T:Tb t g)(v:Pv t p)(b:e<10*turns t.mask)(c:¬Lv t (en t e p).j):
  ∃m,m<=e/\(∀d<m,∃i,t.place[i]?=My (en t d p).j/\f i≠h)/\
   ((¬Lv t (en t m p).j/\r=My (.empty (en t m p).j ME))\/∃i,t.place[i]?=My (en t m p).j/\f i=h/\r=My (.candidate (en t m p).j i (en t (m+1) p))):=by
 subst a;exact GJ T.rs T.du _ p e v b c
section
variable{prog:Ny}{w:NC}{A:NX}{E:a0e}{s:MQ}
noncomputable abbrev i4(prog:Ny)(w:NC):HeapKind prog w a0c:=tupleKind (SX prog w)
noncomputable abbrev hsh(prog:Ny)(w:NC)(k:a0c):Int:=(i4 prog w).hash k
theorem Tb.fits{t:NV}{hs:a0c}(T:Tb t hs)(s:hs.length=n):t.fits n=MH:=by
 have:=T.nf;have:=T.sz;have:=T.km.odd;unfold Ug SetTable.fill;rw[T.du];simp;lia
theorem items_int(h:ItemsAre (SX prog w) b a):∀v∈a,∃n t,v=Qm n t:=by
 induction h with
 |nil=>intro v hv;cases hv
 |@cons k v' b a h1 _ ih=>
  intro v hv;rcases M4.mp hv with rfl|hv
  .obtain⟨t,e⟩:=Tj h1
   exact⟨_,t,e⟩
  .exact ih v hv
theorem zx{M:TW}{o:Oa}(b:s.heap.get? a=My o)(h:Q o.cls s):M0 M A (WP (.ref a)) Q E s:=by
 show M0 M A (loadPart a _>>=_) Q E s;exact MC (VD b (MF h))
theorem u8(f:(i4 prog w).is s.heap k x)(h:Q ML s):M0 (Nj prog w) A (Ur 8 (.ref x)) Q E s:=by
 obtain⟨o,b,n,e,g,K,i⟩:=f;unfold Ur;refine MC (zx e ?_);rw[g];simp only[TN,NN];refine MC (MF ?_);simp only[Pd,Na,N1];refine MC (OP e K ?_);refine MC ?_;show M0 _ _ (forIn b _ _) _ _ s;rw[<-QE];refine SL _ (λD r G=>r.1=ME/\G=s/\∀v∈D,∃n t,v=Qm n t) _ ?_ ?_ _ _ ⟨rfl,rfl,items_int i⟩
 .rintro v D r G ⟨c,rfl,a⟩
  obtain⟨n,t,rfl⟩:=a v MP;unfold Ur;refine MC (MF ?_);simp only[Na,N1];exact MF ⟨rfl,rfl,λu d=>a u (MJ _ d)⟩
 .rintro⟨r1,j⟩ G ⟨c,rfl,_⟩
  simp only at c;subst c;exact MF h
theorem FI(e:(i4 prog w).is s.heap k x)(h:Q MH s):M0 (Nj prog w) A (hashByValue 8 (.ref x)) Q E s:=by
 have f:=UY (s:=s) e;obtain⟨o,b,n,g,j,K,i⟩:=e;unfold hashByValue;refine MC (PF f F.slot_tuple_hash.lookup ?_);simp only;refine MC (OP g K ?_);refine MC ?_;show M0 _ _ (forIn b _ _) _ _ s;rw[<-QE];refine SL _ (λD r G=>r.1=ME/\G=s/\∀v∈D,∃n t,v=Qm n t) _ ?_ ?_ _ _ ⟨rfl,rfl,items_int i⟩
 .rintro v D r G ⟨c,rfl,a⟩
  obtain⟨n,t,rfl⟩:=a v MP;unfold hashByValue;refine MC (MF ?_);simp only[Pd,Na,N1];exact MF ⟨rfl,rfl,λu d=>a u (MJ _ d)⟩
 .rintro⟨r1,l⟩ G ⟨c,rfl,_⟩
  simp only at c;subst c;exact MF h
theorem HI(f:(i4 prog w).is s.heap k x):∀(l:a0t) {Q:Bool->MQ->Prop},(∀y∈l,(i4 prog w).is s.heap y.1 y.2)->Q ML s->M0 (Nj prog w) A (Ut (.ref x) (l.map λy=>M6 y.2)) Q E s:=by
 intro l Q h i;unfold Ut;refine MC ?_;refine SL _ (λD r G=>r.1=ME/\G=s/\∃b:a0t,D=b.map (λy=>M6 y.2)/\∀y∈b,(i4 prog w).is s.heap y.1 y.2) _ ?_ ?_ _ _ ⟨rfl,rfl,l,rfl,h⟩
 .rintro v D r G ⟨d,rfl,b,e,a⟩
  cases b with
  |nil=>cases e
  |cons y b=>
   cases e;have g:=a y MP;have K:(ME:a0S)=ME/\G=G/\∃c:a0t,b.map (λy=>M6 y.2)=c.map (λy=>M6 y.2)/\∀y∈c,(i4 prog w).is G.heap y.1 y.2:=⟨rfl,rfl,b,rfl,λu j=>a u (MJ y j)⟩;by_cases q:x==y.2
   .simp only[q,Bool.true_or,NN]
    exact MF K
   .simp only[q,Bool.false_or,carriedByValue,QU,Na,N1]
    refine MC ((i4 prog w).quiet f ?_);simp only[Pd,Na,N1];refine MC ((i4 prog w).quiet g ?_);simp only[Pd,Na,N1];refine MC (u8 f ?_);simp only[Na,N1];refine MC (u8 g ?_);simp only[Na,N1];exact MF K
 .rintro⟨r1,m⟩ G ⟨d,rfl,_⟩
  simp only at d;subst d;exact MF i
theorem zS{o:Oa}{K:a0y}{t:NV}{D:a0t}(hu:A.units<Sa)(ho:s.heap.get? a=My o)(hd:o.data= .set K ep t)
  (H:K.toList=D.map λx=>(hsh prog w x.1,M6 x.2)) (hx:∀x∈D,(i4 prog w).is s.heap x.1 x.2) (T:Tb t (D.map λx=>hsh prog w x.1)) (hk:(i4 prog w).is s.heap k b)
  (he:e<10*turns t.mask) (U:¬Lv t (en t e (t.probeStart (hsh prog w k))).j) (ha:∀m<e,Lv t (en t m (t.probeStart (hsh prog w k))).j)
  (q1:k∈D.map (·.1)->Q (.there ME) s) (q2:k∉D.map (·.1)->Q (.free (en t e (t.probeStart (hsh prog w k))).j ML) s):
  ∀(n c m:Nat) (st:Option Probe),e=m+n->n<c->st.getD (t.probeStart (hsh prog w k))=en t m (t.probeStart (hsh prog w k))->(∀g<m,∀(i:Nat) x,t.place[i]?=My (en t g (t.probeStart (hsh prog w k))).j->D[i]?=My x->x.1≠k)->
   M0 (Nj prog w) A (setSearchFrom a (.ref b) (hsh prog w k) MH c st) Q E s:=by
 have ac:K.size=D.length:=by rw[<-ND,H,MD]
 have W:t.fits K.size=MH:=T.fits (by rw[MD,ac]);have l:∀i:Nat,K[i]?=(D[i]?).map λx=>(hsh prog w x.1,M6 x.2):=λi=>by rw[<-Qb,H,MM]
 have gw:t.gaveWay=ML:=by
  have:=T.km.odd;unfold SetTable.gaveWay;rw[U1];lia
 intro n
 induction n using Uk with
 |_ n ih=>
  intro c m st em al ad p;cases c with
  |zero=>lia
  |succ c=>
   unfold setSearchFrom;refine MC (OK ho hd W ?_)
   dsimp only
   rw[ad,gw];simp only[Na,N1];have v:=mC m (oS t (hsh prog w k));have M:∀n',en t n' (en t m (t.probeStart (hsh prog w k)))=en t (m+n') (t.probeStart (hsh prog w k)):=λn'=>(nM t m n' _).symm;have G:∀{i O j:Nat},t.place[i]?=My j->t.place[O]?=My j->i=O:=λ{i O j} u C=>by
    rcases Qj i O with q|q|q
    .exact Nh (T.rs i O j j q u C) (NU j)
    .exact q
    .exact Nh (T.rs O i j j q C u) (NU j)
   split
   .rename_i X heq
    obtain⟨g,ae,r,d⟩:=sH heq T v (e:=n) (by lia) (by rw[M,<-em];exact U);rcases d with⟨Y,I⟩|⟨i,R,am,I⟩
    .cases I
     have Z:g=n:=by
      rcases SA g n with q|q
      .rw[M]at Y
       exact Nh (ha (m+g) (by lia)) Y
      .lia
     subst Z;refine MF ?_;rw[M,<-em];refine q2 λS=>?_;obtain⟨x,af,J⟩:=M8.mp S;obtain⟨B,ag,ah⟩:=S4 af;have h:D[B]?=My x:=by rw[MI ag,ah]
     have L:B<t.place.size:=by have:=T.sz;rw[MD]at this;lia
     obtain⟨F,a1,a2⟩:=T.rch B (hsh prog w k) t.place[B] (by rw[MM,h,<-J];rfl) (getElem?_pos t.place B L);have an:F<e:=by
      rcases Qj F e with q|q|q
      .exact q
      .subst q
       exact Nh ⟨B,by rw[a1];exact getElem?_pos t.place B L⟩ U
      .exact Nh (a2 e q) U
     have V:t.place[B]?=My (en t F (t.probeStart (hsh prog w k))).j:=by rw[a1];exact getElem?_pos t.place B L
     by_cases q:F<m
     .exact p F q B x V h J
     .obtain⟨i,u,C⟩:=r (F-m) (by lia)
      rw[M,show m+(F-m)=F by lia]at u;have:=G u V;subst this;refine C ?_;show(K[i]?.map (·.1)).getD 0=_;rw[l,h,<-J];rfl
    .cases I
     have N:i<D.length:=by
      have u:=(NL.mp R).1;have:=T.sz;rw[MD]at this;lia
     have h:D[i]?=My D[i]:=MI N;have aa:K[i]?=My (hsh prog w D[i].1,M6 D[i].2):=by rw[l,h];rfl
     have ai:=hx D[i] (NB N);rw[M]at R;simp only;have el:(NZ (λx=>x.snd) (Array.filter (λx=>x.fst==hsh prog w k) K).toList)=(D.filter λy=>hsh prog w y.1==hsh prog w k).map λy=>M6 y.2:=by
      rw[Array.toList_filter,H,List.filter_map,MV];rfl
     rw[el];have ab:∀{Q':Bool->MQ->Prop},Q' ML s->M0 (Nj prog w) A (Ut (.ref b) ((D.filter λy=>hsh prog w y.1==hsh prog w k).map λy=>M6 y.2)) Q' E s:=λhq=>HI hk _ (λy hy=>hx y (Of.mp hy).1) hq;have sm:t.sameMemory t.moves t.mask=My MH:=by unfold sameMemory;simp
     have sl:t.slot (en t (m+g) (t.probeStart (hsh prog w k))).j= .live i:=su T.rs R;cases ak:t.led
     all_goals simp only[SN,Pd,Na,NN,N1,M,aa]
     all_goals try refine MC (ab ?_)
     all_goals try simp only[Na,N1]
     all_goals
      refine MC (Om ((i4 prog w).eqBool hu ai hk (MC (OK ho hd W ?_))));simp only[Py];by_cases q:D[i].1=k
      .rw[MU (M3 q)]
       exact MF (q1 (M8.mpr ⟨D[i],NB N,q⟩))
      .rw[MS (by simpa using q)]
       simp only[sm,NN,sl,aa];refine MC ?_;unfold isSame;simp only[TN,NN];refine MF (MC (MF ?_));simp only[NN];rw[MS (by simpa using q)];have Z:g<n:=by
        rcases SA g n with z|z
        .exact z
        .obtain rfl:g=n:=by lia
         rw[<-em]at R;exact Nh ⟨i,R⟩ U
       refine ih (n-(g+1)) (by lia) c (m+g+1) _ (by lia) (by lia) rfl λP ao i2 x2 u C z=>?_;by_cases q1:P<m
       .exact p P q1 i2 x2 u C z
       .by_cases q2:P=m+g
        .subst q2
         have:=G R u;subst this;rw[h]at C;cases C;exact q z
        .obtain⟨i3,h3,h4⟩:=r (P-m) (by lia)
         rw[M,show m+(P-m)=P by lia]at h3;have:=G h3 u;subst this;refine h4 ?_;show(K[i3]?.map (·.1)).getD 0=_;rw[l,C,<-z];rfl
   .rename_i hno
    have aj:∀f:Nat->Int,(∀X,t.probe f (hsh prog w k) (en t m (t.probeStart (hsh prog w k)))=My X->False)->False:=λf W=>by
     obtain⟨g,ae,r,d⟩:=sH (f:=f) rfl T v (e:=n) (by lia) (by rw[M,<-em];exact U);rcases d with⟨_,I⟩|⟨i,_,_,I⟩
     .exact W _ I
     .exact W _ I
    exact(aj _ hno).elim
theorem LD{P:Nat->Prop}:∀n,P n->∃m,m<=n/\P m/\∀k<m,¬P k:=by
 intro n
 induction n using Uk with
 |_ n ih=>
  intro h;by_cases q:∃k,k<n/\P k
  .obtain⟨k,a,b⟩:=q
   obtain⟨m,d,c⟩:=ih k a b;exact⟨m,by lia,c⟩
  .exact⟨n,MW n,h,λk a b=>q ⟨k,a,b⟩⟩
def rS(prog:Ny)(w:NC)(h:NS)(a:MK)(s:a0t):Prop:=
 ∃o A D t,h.get? a=My o/\o.ExactSet/\o.data= .set A D t/\(A.toList=s.map λx=>(hsh prog w x.1,M6 x.2))/\(s.map (·.1)).Nodup/\(∀x∈s,(i4 prog w).is h x.1 x.2)/\(Tb t (s.map λx=>hsh prog w x.1))/\t.plain=MH/\t.led=!(w.params.followText "set-order")
theorem pw{h s:NS}{o:Oa}{m p t}(x:(i4 prog w).is h k b)(i:h.get? a=My o)(A:o.data= .set m p t)(hs:Nx a h s):(i4 prog w).is s k b:=by
 obtain⟨g,c,n,e,j,d,l⟩:=x;have f:b≠a:=by
  rintro rfl;obtain rfl:g=o:=Np (e.symm.trans i);rw[A]at d;exact nomatch d
 exact⟨g,c,n,(hs.2 b f).trans e,j,d,l⟩
theorem sf{h:NS}{o:Oa}(c:h.get? a=My o)(w:o.data= .set e d t)(b:a0y)(s:NV):(h.update a (SB b s)).get? a=My {o with data:= .set b (d+1) s}:=by
 have:=Oy (SB b s) c (by rw[putSet_of b s w];rfl);rw[putSet_of b s w]at this;exact this
theorem Jp{t:NV}(T:Tb t hs)(j:Nat):(t.put j).1.dummies=#[]/\(t.put j).1.place.size=t.place.size+1/\(t.put j).2<=t.place.size:=by
 obtain⟨s,a,b3⟩:=jC (j:=j) T.rs;have w:has t.dummies j=ML:=by unfold has;rw[T.du];rfl
 refine⟨?_,gC s,s⟩;show(if has t.dummies j=MH then _ else t.dummies)=#[];rw[w,MS MT,T.du]
theorem HY{w D:Type}{A:List w}{s:Array D}{f:w->D}(e:s.toList=A.map f){p:Nat}(c:p<=s.size)(x:w):(insertAt s p (f x)).toList=(A.take p++x::A.drop p).map f:=by
 unfold insertAt;simp only[Array.toList_append,We,Array.toList_extract];have a:(s.toList.extract 0 p)=s.toList.take p:=by simp[List.extract]
 have b:(s.toList.extract p s.size)=s.toList.drop p:=by
  simp only[List.extract];rw[P3 (by simp)]
 rw[a,b,e,NH,MZ,S9,Q8,N4];rfl
theorem KQ{D:a0t}(hu:A.units<Sa)(S:rS prog w s.heap a D)(hk:(i4 prog w).is s.heap k b)(hn:D.length<63)
  (h:∀K q,Nx a s.heap K->rS prog w K a q->(k∈D.map (·.1)->q=D)->(k∉D.map (·.1)->q.Perm ((k,b)::D))->Q (decide (k∉D.map (·.1))) {s with heap:=K}):
  M0 (Nj prog w) A (setAddHashed a (.ref b) (hsh prog w k)) Q E s:=by
 have S0:=S;obtain⟨o,G,ep,t,U,X,V,W,af,hx,T,hp,J⟩:=S;have F:G.size=D.length:=by rw[<-ND,W,MD]
 have hf:t.fits G.size=MH:=T.fits (by rw[MD,F]);have Y:t.place.size=D.length:=by rw[T.sz,MD]
 obtain⟨e0,ag,ah⟩:=T.free (oS t (hsh prog w k));obtain⟨e,aj,hl,Z⟩:=LD (P:=λe=>¬Lv t (en t e (t.probeStart (hsh prog w k))).j) e0 ah;have ha:∀m<e,Lv t (en t m (t.probeStart (hsh prog w k))).j:=λm M=>Classical.not_not.mp (Z m M);have ak:=T.km.odd;unfold setAddHashed setAddHashedIn;refine Om (MC (OK U V hf ?_));have hb:byScan (M6 b) G=ML:=rfl;simp only[hb,Na,N1];refine MC ?_;unfold setSearch;refine zS (e:=e) hu U V W hx T hk (by lia) hl ha (λM=>?_) (λM=>?_) e 100000 0 ME (by lia) (by unfold turns at ag;lia) rfl (λm' ai=>Nh ai (OM _))
 .refine MF ?_
  have:=h s.heap D (Nx.refl a s.heap) S0 (λ_=>rfl) (λz=>Nh M z);rw[Nw (λz=>z M)]at this;exact this
 .have hQ:∀K q,Nx a s.heap K->rS prog w K a q->q.Perm ((k,b)::D)->Q MH {s with heap:=K}:=λK q h1 h2 h3=>by
   have:=h K q h1 h2 (λz=>Nh z M) (λ_=>h3);rwa[M3 M]at this
  simp only;refine MC (OK U V hf ?_);generalize hj:(en t e (t.probeStart (hsh prog w k))).j=j at hl;obtain⟨pd,ps,pl⟩:=Jp T j;generalize y:t.put j=tp at pd ps pl;obtain⟨u,p⟩:=tp;simp only at pd ps pl⊢;have l:u.plain=MH:=by
   have:(t.put j).1.plain=t.plain:=rfl;rw[y]at this;rw[this,hp]
  have L:u.led=t.led:=by
   have:(t.put j).1.led=t.led:=rfl;rw[y]at this;exact this
  have v:u.mask=t.mask:=by
   have:(t.put j).1.mask=t.mask:=rfl;rw[y]at this;exact this
  rw[l];simp only[NN];refine MC (FI hk ?_);simp only[NN];have N:=HY (f:=λx:a0c×MK=>(hsh prog w x.1,M6 x.2)) W (p:=p) (by lia) (k,b);have B:(insertAt G p (hsh prog w k,M6 b)).size=G.size+1:=gC (by lia);have d:(D.take p++(k,b)::D.drop p).Perm ((k,b)::D):=by
   have:=List.perm_middle (a:=(k,b)) (l₁:=D.take p) (l₂:=D.drop p);rwa[Qd]at this
  have nd1:((D.take p++(k,b)::D.drop p).map (·.1)).Nodup:=by
   refine(d.map (·.1)).nodup_iff.mpr ?_;rw[MZ,Nz];exact⟨M,af⟩
  refine MC (wpAny_storeSet_of U V ?_ (by rw[B,O1];lia));have H:=Os s.heap a (SB (insertAt G p (hsh prog w k,M6 b)) u);have g1:=sf U V (insertAt G p (hsh prog w k,M6 b)) u;have aa:∀x∈D.take p++(k,b)::D.drop p,(i4 prog w).is (s.heap.update a (SB (insertAt G p (hsh prog w k,M6 b)) u)) x.1 x.2:=λx hx'=>by
   rcases M4.mp (d.mem_iff.mp hx')with rfl|hx'
   .exact pw hk U V H
   .exact pw (hx x hx') U V H
  by_cases r:u.tooFull=MH
  .simp only[r,SN,Q6,NN]
   have fu:u.fill*5≥u.mask*3:=by unfold tooFull at r;exact O5 r
   have fe:u.fill=D.length+1:=by unfold SetTable.fill;rw[pd,ps,Y];rfl
   have al:=T.nf;have f1:u.fits (insertAt G p (hsh prog w k,M6 b)).size=MH:=by
    unfold Ug;rw[B,fe,ps,Y,F,v];simp;lia
   have wm:Mk (sizeAbove (grown (G.size+1))-1)/\(G.size+1)*5<(sizeAbove (grown (G.size+1))-1)*3/\sizeAbove (grown (G.size+1))<=128:=by
    rw[fe,v]at fu;rw[F];rcases T.km with z|z|z
    .have:D.length=4:=by lia
     rw[this];exact⟨.inr (.inl (by decide)),by decide,by decide⟩
    .have:D.length=18:=by lia
     rw[this];exact⟨.inr (.inr (by decide)),by decide,by decide⟩
    .lia
   have C:(Array.map (λx=>x.fst) (insertAt G p (hsh prog w k,M6 b))).size=G.size+1:=by rw[Array.size_map,B]
   obtain⟨t2,c,er,op,T2,ab,I⟩:=AA (t:=u) (hs:=(insertAt G p (hsh prog w k,M6 b)).map (·.1)) (wanted:=grown (G.size+1)) wm.1 (by rw[C];exact wm.2.1);refine MC ?_;unfold setRelay;refine MC (OK g1 rfl f1 ?_);simp only;rw[MS (by rw[O1];lia)];rw[er];generalize am:insertAt G p (hsh prog w k,M6 b)=es1 at*;generalize an:D.take p++(k,b)::D.drop p=xs1 at*;have l1:xs1.length=G.size+1:=by rw[d.length_eq,M5,F]
   have O:∀i,i<xs1.length->es1[i]?=My (hsh prog w (xs1.getD i (k,b)).1,M6 (xs1.getD i (k,b)).2):=λi R=>by
    rw[<-Qb,N,MM,MI R,MN,MI R];rfl
   have om:∀i∈c.toList,i<xs1.length:=λi R=>by
    have:=Ni.mp (op.mem_iff.mp R);rw[C]at this;lia
   have ac:(c.filterMap λx=>es1[x]?).toList=(c.toList.map λi=>xs1.getD i (k,b)).map λx=>(hsh prog w x.1,M6 x.2):=by
    rw[Array.toList_filterMap,vH (g:=λi=>(hsh prog w (xs1.getD i (k,b)).1,M6 (xs1.getD i (k,b)).2)) λi R=>O i (om i R),MV];rfl
   have n:(c.toList.map λi=>xs1.getD i (k,b)).Perm xs1:=by
    refine(op.map _).trans (Ti ?_);rw[C,<-l1];refine OX (by simp) λi h1 h2=>?_;rw[PN,P0,MN,MI h2];rfl
   have ad:(c.filterMap λx=>es1[x]?).size=es1.size:=by
    rw[<-ND,ac,MD,n.length_eq,l1,B]
   refine MC ?_;show M0 _ _ (if((c.filterMap λx=>es1[x]?).size !=es1.size)=MH then _ else _) _ _ _;rw[MS (by rw[ad];simp)];refine MF ?_;refine wpAny_storeSet_of g1 rfl ?_ (by rw[ad,B,O1];lia);have ae:=Os (s.heap.update a (SB es1 u)) a (SB (c.filterMap λx=>es1[x]?) t2);have g2:=sf g1 rfl (c.filterMap λx=>es1[x]?) t2;refine MF (hQ _ (c.toList.map λi=>xs1.getD i (k,b)) (H.trans ae) ⟨_,_,_,t2,g2,X,rfl,ac,?_,λx hx'=>?_,?_,by rw[I,l],by rw[ab,L,J]⟩ (n.trans d))
   .exact(n.map (·.1)).nodup_iff.mpr nd1
   .exact pw (aa x (n.mem_iff.mp hx')) g1 rfl ae
   .have eh:(c.toList.map λi=>xs1.getD i (k,b)).map (λx=>hsh prog w x.1)=c.toList.map λi=>(es1.map (·.1)).getD i 0:=by
     rw[MV];refine Nu λi R=>?_;have h1:=O i (om i R);have h2:(es1.map (·.1))[i]?=My (hsh prog w (xs1.getD i (k,b)).1):=by rw[Array.getElem?_map,h1];rfl
     have h3:=(NL.mp h2);obtain⟨h4,h5⟩:=h3;simp only[RC];rw[<-h5];simp[Px,h4];lia
    rw[eh];exact T2
  .simp only[r,SN,Bool.and_false,N1,Py,Na]
   refine MF (hQ _ (D.take p++(k,b)::D.drop p) H ⟨_,_,_,u,g1,X,rfl,N,nd1,aa,?_,l,by rw[L,J]⟩ d);have nf:(t.place.size+1)*5<t.mask*3:=by
    have:¬(u.fill*5≥u.mask*3):=by
     intro z;exact r (by unfold tooFull;exact M3 z)
    unfold SetTable.fill at this;rw[pd,ps,v]at this;simp at this;lia
   have:=(T.put (h:=hsh prog w k) hl hj (by exact ha) nf).2.2.2.2;rw[y]at this;rw[NH,MZ,S9,Q8];exact this
end
namespace F2
theorem si_next:Slot "set_iterator" "__next__" "set_iterator.__next__":= .of (owner:="set_iterator") (n:="__next__") (by rw[U4,Tc];kernel_rfl) (by decide +kernel) (by decide +kernel) (by decide +kernel)
  (by first|exact .inl (by decide +kernel)|exact .inr (by decide +kernel)) (by rw[Sc];kernel_rfl)
theorem si_iter:Slot "set_iterator" "__iter__" "set_iterator.__iter__":= .of (owner:="set_iterator") (n:="__iter__") (by rw[U4,Tc];kernel_rfl) (by decide +kernel) (by decide +kernel) (by decide +kernel)
  (by first|exact .inl (by decide +kernel)|exact .inr (by decide +kernel)) (by rw[Sc];kernel_rfl)
theorem ent_next:entryFor table "set_iterator.__next__"=My Builtin.«set_iterator.__next__»:=entryFor_of_tree (by kernel_rfl)
theorem ent_iter:entryFor table "set_iterator.__iter__"=My Builtin.«dict_keyiterator.__iter__»:=Vt (id':="dict_keyiterator.__iter__") (by kernel_rfl) rfl (by decide +kernel) (by kernel_rfl)
theorem ent_set_iter:entryFor table "set.__iter__"=My Builtin.«frozenset.__iter__»:=Vt (id':="frozenset.__iter__") (by kernel_rfl) rfl (by decide +kernel) (by kernel_rfl)
theorem args_next(a:MO):argsOk "set_iterator.__next__" ⟨[a],[]⟩:=by unfold argsOk;kernel_rfl
theorem args_iter(a:MO):argsOk "set_iterator.__iter__" ⟨[a],[]⟩:=by unfold argsOk;kernel_rfl
end F2
theorem qM{w:Type}:∀{l:List w} {i:Nat} (h:i<l.length),(l[i]::l.eraseIdx i).Perm l
 |[],i,h=>Nh h (OM i)
 |a::l,0,h=> .refl _
 |a::l,i+1,h=>by
  show(l[i]'(by simpa using h)::a::l.eraseIdx i).Perm (a::l);exact(List.Perm.swap _ _ _).trans ((qM (by simpa using h)).cons a)
theorem wU{w:Type}(next:a0T):∀(fuel k:Nat) (left:List w) (a:Array w),left.length<=fuel->(Us next fuel k left a).toList.Perm (a.toList++left)
 |0,k,left,a,h=>by
  have:left=[]:=QO.mp (by lia);subst this;unfold Us;rw[NJ]
 |fuel+1,k,left,a,h=>by
  unfold Us;cases left with
  |nil=>simp
  |cons D c=>
   have b:next k % (D::c).length<(D::c).length:=UH _ (by simp)
   rw[MI b];simp only;refine(wU next fuel (k+1) _ _ (by rw[List.length_eraseIdx_of_lt b];lia)).trans ?_
   rw[We,N4];exact List.Perm.append_left _ (qM b)
theorem AI{w:Type}(next:a0T)(xs:Array w):(UO next xs).toList.Perm xs.toList:=by
 unfold UO;refine(wU next xs.size 0 xs.toList #[] (by simp)).trans ?_
 simp
section
variable{prog:Ny}{w:NC}{A:NX}{E:a0e}{s:MQ}
noncomputable def eG(w:NC)(a:MK)(ep:Nat)(s:a0y):a0y:=if w.params.followText "set-order"=MH then UO (w.params.setOrder a ep) s else s
theorem k4(w:NC)(a:MK)(ep:Nat)(s:a0y):(eG w a ep s).toList.Perm s.toList:=by
 unfold eG;split
 .exact AI _ _
 .exact .refl _
structure Wi (w:NC) (h:NS) (I a:MK) (es:a0y) (ep:Nat) (t:NV) (i:Nat):Prop where
 st:∃o,h.get? a=My o/\o.data= .set es ep t
 it:∃(o:Oa) (sl:Nat),h.get? I=My o/\o.cls= .type "set_iterator"/\o.data= .fields #[.int sl 0,.int i 0,.ref a,.int es.size 0,.int ep 0]/\(w.params.followText "set-order"=ML->below t.place sl=i)
theorem mR{M:TW}(h:Q (M.w.params.followText "set-order") s):M0 M A setsByText Q E s:=by
 unfold setsByText;exact MC (Rt (MF h))
theorem AZ{D:a0y}{t:NV}{e:Int×MO}(T:Tb t hs)(h:t.fits D.size=MH)(H:t.plain=MH)(J:t.led=!(w.params.followText "set-order"))(x:Wi w s.heap I a D ep t i)(k:I≠a)(l:(eG w a ep D)[i]?=My e)
  (L:∀M,Wi w M I a D ep t (i+1)->Nx I s.heap M->Q (My e.2) {s with heap:=M}):M0 (Nj prog w) A (Ra (.ref I)) Q E s:=by
 obtain⟨⟨N,b,c⟩,o,W,n,u,G,p⟩:=id x;have y:s.TypeIs (.ref I) "set_iterator":=⟨o,n,u⟩;unfold Ra;refine MC (QT (wpAny_callSpecial?_slot (name:=N9 "__next__") y F2.si_next (NQ F2.si_next y F2.ent_next ?_ (F2.args_next _))));unfold Builtin.«set_iterator.__next__»;refine MC (MF ?_);refine MC (Tp n G ?_);simp only;refine MC (TR b c h ?_);simp only[Qc,Na,N1];refine MC ?_;simp only[Oh]
 have d:∀K:Nat,(w.params.followText "set-order"=ML->below t.place K=i+1)->M0 (Nj prog w) A.in1 (do
    VB (M6 I) 0 (Qn K)
    VB (M6 I) 1 (Qn (i+1))
    ret e.2) (λd P=>∃v,d=Fin.done (Flow.ret v)/\M0 (Nj prog w) A (OW (My v)) Q E P) (λe P=>M0 (Nj prog w) A (do
     if(<-Sb e (QG "StopIteration"))=MH then OW ME else throw e) Q E P) s:=λK r=>by
  refine MC (Ps n G (by simp) ?_);have B:(s.heap.update I (R7 (·.setIfInBounds 0 (Qn K)))).get? I=My _:=Oy _ n (Qf (Oi G _));refine MC (Ps B (Oi G _) (by simp) ?_);refine MF ⟨_,rfl,MF (L _ ⟨⟨N,?_,c⟩,⟨_,K,Oy _ B (Qf (Oi (Oi G _) _)),?_,?_,r⟩⟩ ((Os ..).trans (Os ..)))⟩
  .rw[PH _ _ _ _ (Ne.symm k),PH _ _ _ _ (Ne.symm k)];exact b
  .rw[TM,TM];exact u
  .rw[Oi (Oi G _)];simp[Qn]
 unfold setNext;refine MC (OK b c h (MC (mR ?_)));have C:(Nj prog w).w=w:=rfl;rw[C];cases q:w.params.followText "set-order"
 .have f:eG w a ep D=D:=by unfold eG;rw[q];rfl
  rw[f]at l;have O:=p q;have X:=(NL.mp l).1;simp only[Na,N1];have R:t.place.size=D.size:=by
   unfold Ug at h;simp only[No,PV,Nv]at h;exact h.1
  rw[MS (λz=>by
   have F:(!t.plain&&decide (D.size>1))=MH:=z;rw[H]at F;cases F)]
  refine MC ?_;show M0 _ _ (if(!t.led&&!D.isEmpty)=MH then _ else _) _ _ _;rw[MS (by rw[J,q];exact MT)];refine MF (MF ?_);have g:t.place[i]?=My t.place[i]:=getElem?_pos t.place i (by lia);rw[O,l,g];simp only;refine d _ λ_=>?_;obtain⟨S,U,b3⟩:=jC (j:=t.place[i]+1) T.rs;rcases Qj (below t.place (t.place[i]+1)) (i+1)with z|z|z
  .have:=b3 i _ (by lia) g
   lia
  .exact z
  .have m:t.place[i+1]?=My t.place[i+1]:=getElem?_pos t.place (i+1) (by lia)
   have Y:=U (i+1) _ z m;have Z:=T.rs i (i+1) _ _ (by lia) g m;lia
 .have f:eG w a ep D=UO (w.params.setOrder a ep) D:=by unfold eG;rw[q];rfl
  rw[f]at l;simp only[NN,Qc,Na,N1];refine MC ?_;unfold setWalk;refine MC (OK b c h (MC (mR ?_)));rw[C,q];simp only[NN];refine MC (Rt (MF ?_));refine MF ?_;rw[show((Nj prog w).w.params.setOrder a ep)=w.params.setOrder a ep from rfl,l];simp only[OI];exact d _ λz=>by rw[q]at z;cases z
theorem EV{D:a0y}{t:NV}(r:A.handled=ME)(T:Tb t L)(g:t.fits D.size=MH)(u:t.plain=MH)(y:t.led=!(w.params.followText "set-order"))(x:Wi w s.heap I a D J t D.size)
  (B:∀K,T0 I s.heap K->Q ME {s with heap:=K}):M0 (Nj prog w) A (Ra (.ref I)) Q E s:=by
 obtain⟨⟨F,d,f⟩,o,H,h,C,M,i⟩:=id x;have l:s.TypeIs (.ref I) "set_iterator":=⟨o,h,C⟩;unfold Ra;refine MC (QT (wpAny_callSpecial?_slot (name:=N9 "__next__") l F2.si_next (NQ F2.si_next l F2.ent_next ?_ (F2.args_next _))));unfold Builtin.«set_iterator.__next__»;refine MC (MF ?_);refine MC (Tp h M ?_);simp only;refine MC (TR d f g ?_);simp only[Qc,Na,N1];refine MC ?_;simp only[Oh]
 have c:M0 (Nj prog w) A.in1 (do
    VB (M6 I) 2 NK
    let e <-WN (QG "StopIteration") []
    (raiseNew e:Sem Fin)) (λc G=>∃v,c=Fin.done (Flow.ret v)/\M0 (Nj prog w) A (OW (My v)) Q E G) (λe G=>M0 (Nj prog w) A (do
     if(<-Sb e (QG "StopIteration"))=MH then OW ME else throw e) Q E G) s:=by
  refine MC (Ps h M (by simp) ?_);refine MC ?_;simp only[WN,newTuple];refine MC (Oj ?_ (by size_fits));refine MC (m:=Q9 _ _) (QA (a:=NK) (by first|rfl|(simp only[Q9];rfl)) ?_)
  refine Oj ?_ (by size_fits);simp only[raiseNew];refine MC (Wd ?_);rw[show A.in1.handled=ME from r];refine MC (MF (wpAny_throw ?_));refine MC (Pk (T:="StopIteration") (b:=MH) ⟨_,M7 _ rfl,rfl⟩ Vw ?_);exact MF (B _ (((Os ..).extBut.push _).push _))
 unfold setNext;refine MC (OK d f g (MC (mR ?_)));have n:(Nj prog w).w=w:=rfl;rw[n];have j:(eG w a J D).size=D.size:=by rw[<-ND,(k4 w a J D).length_eq,ND]
 cases q:w.params.followText "set-order"
 .simp only[Na,N1]
  rw[MS (λz=>by
   have p:(!t.plain&&decide (D.size>1))=MH:=z;rw[u]at p;cases p)]
  refine MC ?_;show M0 _ _ (if(!t.led&&!D.isEmpty)=MH then _ else _) _ _ _;rw[MS (by rw[y,q];exact MT)];refine MF (MF ?_);rw[i q,PY (MW _)];exact c
 .have k:eG w a J D=UO (w.params.setOrder a J) D:=by unfold eG;rw[q];rfl
  simp only[NN,Qc,Na,N1];refine MC ?_;unfold setWalk;refine MC (OK d f g (MC (mR ?_)));rw[n,q];simp only[NN];refine MC (Rt (MF ?_));refine MF ?_;rw[show((Nj prog w).w.params.setOrder a J)=w.params.setOrder a J from rfl,<-k,PY (by rw[j];exact MW _)];exact c
theorem Wi.at{h h':NS}(x:Wi w h I a es ep t i)(k:∀b,b=I\/b=a->∀o,h.get? b=My o->h'.get? b=My o):Wi w h' I a es ep t i:=by
 obtain⟨⟨e,c,d⟩,o,f,g,r⟩:=x;exact⟨⟨e,k a (.inr rfl) e c,d⟩,o,f,k I (.inl rfl) o g,r⟩
theorem DW(q:A.handled=ME){D:a0y}{t:NV}(T:Tb t x)(l:t.fits D.size=MH)(m:t.plain=MH)(n:t.led=!(w.params.followText "set-order"))(f:I≠a):
  Walks prog w A I [I,a] [I] D.size (λi v=>∃e,(eG w a ep D)[i]?=My e/\v=e.2) (λi h=>Wi w h I a D ep t i) where
 sub:=λb c=>by simp at c;simp[c]
 frame:=λ_ _ _ G r=>G.at λb c o e=>r b (by simpa using c) o e
 item:=λi s Q E L G d=>by
  have u:(eG w a ep D).size=D.size:=by rw[<-ND,(k4 w a ep D).length_eq,ND]
  have p:(eG w a ep D)[i]?=My (eG w a ep D)[i]:=getElem?_pos _ i (by lia);exact AZ T l m n G f p λK g y=>d _ K s.toks ⟨_,p,rfl⟩ g λb o c e=>y.extBut b o (λh=>c (by simp[h])) e
 done:=λs Q E G d=>EV q T l m n G λK j=>d K s.toks λb o c e=>j b o (λh=>c (by simp[h])) e
 self:=λi s Q E G d=>by
  obtain⟨⟨N,B,C⟩,o,O,F,H,M,J⟩:=G;have k:s.TypeIs (.ref I) "set_iterator":=⟨o,F,H⟩;refine Sw k F2.si_iter (NQ F2.si_iter k F2.ent_iter ?_ (F2.args_iter _));show M0 _ _ (ret (.ref I)) _ _ s;exact MF ⟨_,rfl,"set_iterator",_,k,F2.si_next.lookup,d⟩
end
end L2.Hs
namespace L2.Hs
open PySem.SetTable
section
variable{prog:Ny}{w:NC}{A:NX}{E:a0e}{s:MQ}
theorem Fc{o:Oa}{D:a0y}{t:NV}(b:s.heap.get? a=My o)(f:o.cls= .type "set")(G:o.data= .set D ep t)(c:t.fits D.size=MH)(g:t.plain=MH)
  (h:Q (.ref s.heap.objs.size) {s with heap:=s.heap.push {cls:= .type "set_iterator",data:= .fields #[.int (0:Nat) 0,.int (0:Nat) 0,.ref a,.int D.size 0,.int ep 0]}}):M0 (Nj prog w) A (Tl (.ref a)) Q E s:=by
 have d:s.TypeIs (.ref a) "set":=⟨o,b,f⟩;refine Sw d F.slot_set_iter (NQ F.slot_set_iter d F2.ent_set_iter ?_ (F.args_set_iter_1 _));unfold Builtin.«frozenset.__iter__»;refine MC (QA (a:=a) rfl ?_);refine MC (MC (TR b G c (MF ?_)));refine MC ?_;unfold setDrawn;refine MC (OK b G c (MC (mR (MF ?_))));rw[MS (λz=>by
  have e:(!((Nj prog w).w.params.followText "set-order")&&(!t.plain&&decide (D.size>1)))=MH:=z;rw[g]at e;simp at e)]
 refine MC (MF ?_);refine MC (wpAny_setEpoch_of b G c ?_);unfold newFields;refine MC (Oj (MF ⟨_,rfl,"set_iterator",_,⟨_,M7 _ rfl,rfl⟩,F2.si_next.lookup,?_⟩));exact h
theorem wj{o:Oa}{G:a0y}{t:NV}(hh:A.handled=ME)(U:s.heap.get? a=My o)(B:o.cls= .type "set")(S:o.data= .set G ep t)(T:Tb t hs)(X:t.fits G.size=MH)(Y:t.plain=MH)(hl:t.led=!(w.params.followText "set-order"))
  (aa:G.size<=1000)
  (hQ:∀P Z V,(∀b o,s.heap.get? b=My o->P.get? b=My o)->s.heap.objs.size<=P.objs.size->s.toks<=Z->V.Perm (G.toList.map (·.2))->Q V {s with heap:=P,toks:=Z}):M0 (Nj prog w) A (collect (.ref a)) Q E s:=by
 unfold collect;refine MC (wpAny_runValue (U2 F.entry_proto_collect ?_));rw[U7 F.plain_proto_collect _];show M0 _ A.in1 (newList []>>=λl=>UV (.builtin "list.__iadd__" ⟨[l,.ref a],[]⟩)) _ _ s;refine MC (Oj ?_);refine MF ⟨plainId_quiet F.plain_list_iadd _,U2 F.entry_list_iadd ?_⟩;rw[U7 F.plain_list_iadd _];have x:=Nl U;have g:(s.heap.push {cls:= .type "list",data:= .seq ([]:a0f).toArray}).get? a=My o:=MG _ U;have C:(s.heap.push {cls:= .type "list",data:= .seq ([]:a0f).toArray}).get? s.heap.objs.size=My {cls:= .type "list",data:= .seq ([]:a0f).toArray}:=M7 _ rfl;have r:s.heap.objs.size≠a:=Pe x;have y:Tx (.ref s.heap.objs.size) (.ref a)=ML:=by simp[Tx,r]
 have H:(⟨s.heap.push {cls:= .type "list",data:= .seq ([]:a0f).toArray},s.gens,s.drawn,s.toks,s.os⟩:MQ).TypeIs (.ref a) "set":=⟨o,g,B⟩;show M0 _ A.in1 (S7 (.ref s.heap.objs.size) (.ref a) (.ref s.heap.objs.size)) _ _ _;unfold S7;refine MC (wpAny_typeOf H ?_);rw[MS (by rw[y];decide)];refine MC (Fc g B S X Y ?_);refine MC (Om ?_);unfold Builtin.List.listLengthHint;have n:(⟨(s.heap.push {cls:= .type "list",data:= .seq ([]:a0f).toArray}).push {cls:= .type "set_iterator",data:= .fields #[.int (0:Nat) 0,.int (0:Nat) 0,.ref a,.int G.size 0,.int ep 0]},s.gens,s.drawn,s.toks,s.os⟩:MQ).TypeIs (.ref a) "set":=⟨o,MG _ g,B⟩;refine MC (PF n F.slot_set_len.lookup ?_)
 (generalize u:("set.__len__":String)=id0;wp_delta;rw[show splitId id0=My ("set","__len__")from by subst u;decide +kernel];subst u)
 refine MC (Pk (b:=MH) n (by rw[Sc];kernel_rfl) ?_);rw[MS (by decide)];show M0 _ _ (if _ then _ else _) _ _ _;rw[MU (by decide)];refine MC (wpAny_typeOf n ?_);refine MF ?_;rw[MU (by decide)];refine MC (QB ?_);have eI:(s.heap.push {cls:= .type "list",data:= .seq ([]:a0f).toArray}).objs.size=s.heap.objs.size+1:=by rw[size_push']
 generalize h:(s.heap.push {cls:= .type "list",data:= .seq ([]:a0f).toArray}).push {cls:= .type "set_iterator",data:= .fields #[.int (0:Nat) 0,.int (0:Nat) 0,.ref a,.int G.size 0,.int ep 0]}=d;have gS:d.get? s.heap.objs.size=My (Qo "list" #[] 0):=by rw[<-h];exact MG _ C
 have gI:d.get? (s.heap.objs.size+1)=My {cls:= .type "set_iterator",data:= .fields #[.int (0:Nat) 0,.int (0:Nat) 0,.ref a,.int G.size 0,.int ep 0]}:=by rw[<-h,<-eI];exact M7 _ rfl
 have ga:d.get? a=My o:=by rw[<-h];exact MG _ g
 have p:∀b f,s.heap.get? b=My f->d.get? b=My f:=λb f e=>by rw[<-h];exact MG _ (MG _ e)
 unfold Builtin.List.listTouch;refine MC (MC (SD gS rfl ?_ (by show 0<=_;lia) (by show 1<=_;lia)));obtain⟨e1,g1⟩:∃e1,(d.update s.heap.objs.size (OF λD=>D.push NK)).get? s.heap.objs.size=My (Qo "list" #[NK] e1):=⟨_,get?_update_seq gS λD=>D.push NK⟩;refine SD g1 rfl ?_ (by show 1<=M1;decide) (by show 0<=_;lia);obtain⟨J,g2⟩:∃J,((d.update s.heap.objs.size (OF λD=>D.push NK)).update s.heap.objs.size (OF λD=>D.pop)).get? s.heap.objs.size=My (Qo "list" #[] J):=⟨_,get?_update_seq g1 λD=>D.pop⟩;have c:∀b f,b≠s.heap.objs.size->d.get? b=My f->((d.update s.heap.objs.size (OF λD=>D.push NK)).update s.heap.objs.size (OF λD=>D.pop)).get? b=My f:=λb f q e=>by
  rw[PH _ _ _ _ q,PH _ _ _ _ q];exact e
 generalize (d.update s.heap.objs.size (OF λD=>D.push NK)).update s.heap.objs.size (OF λD=>D.pop)=h4 at g2 c;have L:s.heap.objs.size+1≠a:=Pe (R4 x);have st:Wi w h4 (s.heap.objs.size+1) a G ep t 0:=⟨⟨o,c a o (Ne.symm r) ga,S⟩,_,0,c _ _ (by lia) gI,rfl,rfl,λ_=>by
  have:=jC (j:=0) T.rs;rcases Nat.eq_zero_or_pos (below t.place 0)with z|z
  .exact z
  .have e:=getElem?_pos t.place 0 (by lia)
   have:=this.2.1 0 _ z e;lia⟩
 have W:=DW (prog:=prog) (w:=w) (A:=A.in1) (I:=s.heap.objs.size+1) (a:=a) (ep:=ep) hh T X Y hl L;show M0 _ _ (UV _) _ _ _;rw[eI];refine MF ⟨plainId_quiet F.plain_extend_loop _,codeAny_extend_loopS W.toS (by rw[O1];lia) s.heap.objs.size (by simp;lia) _ G.size 0 _ #[] J rfl (N2 _) st g2 (ItemsOf.nil _) λK k c' M v m=>?_⟩;show M0 _ A (load s.heap.objs.size>>=_) _ _ K;refine MC (wpAny_load v ?_);refine MF ?_;have N:K={s with heap:=K.heap,toks:=K.toks}:=by
  have y:=M.gens;have d:=M.drawn;have h3:=M.os;obtain⟨a1,a2,a3,a4,a5⟩:=K;simp only at y d h3;subst y d h3;rfl
 rw[N];refine hQ _ _ _ (λb f e=>?_) (Sz (Nl v)) M.toks ?_
 .have q:=Nl e
  exact M.heap b f (by simp only[M4,Op,QX,not_or];exact⟨NM q,NM (R4 q)⟩) (c b f (NM q) (p b f e))
 .refine List.Perm.trans (Ti ?_) ((k4 w a ep G).map (·.2))
  have O:(eG w a ep G).size=G.size:=by rw[<-ND,(k4 w a ep G).length_eq,ND]
  refine OX (by rw[ND,MD,ND,O,m.1]) λi q1 q2=>?_;have R:i<k.size:=by simpa using q1
  obtain⟨e,he,hv⟩:=m.2 i _ (getElem?_pos k i R);rw[Q5,hv,PN,Q5];have:=NL.mp he;obtain⟨z1,z2⟩:=this;rw[z2]
end
end L2.Hs
namespace L2.Hs
open PySem.W
section
variable{d β:Type}{lt:Nat->Nat->Bool}{n:Nat}
def Rn(lt:Nat->Nat->Bool)(n:Nat):KasT d->(d->Prop)->Prop
 | .ret a,Φ=>Φ a
 | .ask i j k,Φ=>i<n/\j<n/\Rn lt n (k (lt i j)) Φ
theorem Rn.bind{Φ:β->Prop}:∀{t:KasT d},Rn lt n t (λa=>Rn lt n (f a) Φ)->Rn lt n (t.bind f) Φ
 | .ret a,h=>h
 | .ask i j k,⟨h1,h2,h3⟩=>⟨h1,h2,Rn.bind h3⟩
theorem Rn.mono{Φ Ψ:d->Prop}(b:∀a,Φ a->Ψ a):∀{t:KasT d},Rn lt n t Φ->Rn lt n t Ψ
 | .ret a,h=>b a h
 | .ask i j k,⟨h1,h2,h3⟩=>⟨h1,h2,Rn.mono b h3⟩
theorem Rn.wp{Φ:d->Prop}(b:∀i j,i<n->j<n->∀C:Bool->MQ->Prop,C (lt i j) s->cmp i j C s)(c:∀a,Φ a->Q a s):∀{t:KasT d},Rn lt n t Φ->t.kasWp cmp Q s
 | .ret a,h=>c a h
 | .ask i j k,⟨h1,h2,h3⟩=>b i j h1 h2 _ (Rn.wp b c h3)
end
section
variable{B:a0T}{n:Nat}
noncomputable abbrev ri(B:a0T)(i j:Nat):Bool:=decide (B i<B j)
noncomputable abbrev ky(B:a0T)(p:a0A)(i:Nat):Nat:=B (p.getD i 0)
structure Pm (B:a0T) (n:Nat) (p:a0A):Prop where
 perm:p.toList.Perm (MX n)
 inj:∀i j,i<n->j<n->B i=B j->i=j
theorem Pm.sz{p:a0A}(h:Pm B n p):p.size=n:=by have:=h.perm.length_eq;simpa using this
theorem Pm.lt{p:a0A}(h:Pm B n p)(a:i<n):p.getD i 0<n:=by
 have w:=h.sz;have e:p.getD i 0=p[i]:=by simp[Px,show i<p.size by lia]
 rw[e];exact Ni.mp (h.perm.mem_iff.mp (by simp))
theorem Pm.ne(h:Pm B n p)(a:i<j)(b:j<n):ky B p i≠ky B p j:=λz=>by
 have D:=h.sz;have:=h.inj _ _ (h.lt (show i<n by lia)) (h.lt b) z;have w:p.toList.Nodup:=h.perm.nodup_iff.mpr TV;have c:p.getD i 0=p.toList[i]'(by simp;lia):=by simp[Px,show i<p.size by lia]
 have d:p.getD j 0=p.toList[j]'(by simp;lia):=by simp[Px,show j<p.size by lia]
 rw[c,d]at this;exact Nh this (Pl.mp w i j (by simp;lia) (by simp;lia) a)
theorem Pm.of{p q:a0A}(h:Pm B n p)(a:q.Perm p):Pm B n q:=⟨(Array.perm_iff_toList_perm.mp a).trans h.perm,h.inj⟩
def So(B:a0T)(p:a0A)(k:Nat):Prop:=∀i j,i<j->j<k->ky B p i<ky B p j
def De(B:a0T)(p:a0A)(k:Nat):Prop:=∀i j,i<j->j<k->ky B p j<ky B p i
theorem So.succ(h:So B p k)(c:1<=k)(b:ky B p (k-1)<ky B p k):So B p (k+1):=λi j a d=>by
 by_cases q:j=k
 .subst q
  by_cases z:i=j-1
  .subst z;exact b
  .exact Ry (h i (j-1) (by lia) (by lia)) b
 .exact h i j a (by lia)
theorem De.succ(h:De B p k)(c:1<=k)(b:ky B p k<ky B p (k-1)):De B p (k+1):=λi j a d=>by
 by_cases q:j=k
 .subst q
  by_cases z:i=j-1
  .subst z;exact b
  .exact Ry b (h i (j-1) (by lia) (by lia))
 .exact h i j a (by lia)
theorem wa(P:Pm B n p):∀(f k:Nat),1<=k->k+f<=n->So B p k->Rn (ri B) n (kas_asc p f k) λm=>k<=m/\m<=k+f/\So B p m/\(m=k+f\/ky B p m<ky B p (m-1))
 |0,k,_,_,h=>⟨MW k,MW _,h,.inl rfl⟩
 |f+1,k,h1,h2,h=>by
  refine⟨P.lt (by lia),P.lt (by lia),?_⟩;by_cases q:ky B p k<ky B p (k-1)
  .rw[show ri B (p.getD k 0) (p.getD (k-1) 0)=MH from M3 q];dsimp only;rw[MU rfl]
   exact⟨MW k,by lia,h,.inr q⟩
  .rw[show ri B (p.getD k 0) (p.getD (k-1) 0)=ML from Nw q];dsimp only;rw[MS MT]
   have:=P.ne (show k-1<k by lia) (show k<n by lia);refine Rn.mono (λm w=>?_) (wa P f (k+1) (by lia) (by lia) (h.succ h1 (by lia)));exact⟨by lia,by lia,w.2.2.1,by rcases w.2.2.2 with z|z;exact .inl (by lia);exact .inr z⟩
theorem xp(P:Pm B n p):∀(f k:Nat),1<=k->k+f<=n->De B p k->Rn (ri B) n (kas_desc f p k 0) λr=>r.1=p/\r.2.2=0/\k<=r.2.1/\r.2.1<=k+f/\De B p r.2.1
 |0,k,_,_,h=>⟨rfl,rfl,MW k,MW _,h⟩
 |f+1,k,h1,h2,h=>by
  refine⟨P.lt (by lia),P.lt (by lia),?_⟩;by_cases q:ky B p k<ky B p (k-1)
  .rw[show ri B (p.getD k 0) (p.getD (k-1) 0)=MH from M3 q];dsimp only;rw[MU rfl,MS (NU 0)]
   refine Rn.mono (λm w=>?_) (xp P f (k+1) (by lia) (by lia) (h.succ h1 q));exact⟨w.1,w.2.1,by have:=w.2.2.1;lia,by have:=w.2.2.2.1;lia,w.2.2.2.2⟩
  .rw[show ri B (p.getD k 0) (p.getD (k-1) 0)=ML from Nw q];dsimp only;rw[MS MT]
   have:=P.ne (show k-1<k by lia) (show k<n by lia);refine⟨P.lt (by lia),P.lt (by lia),?_⟩;rw[show ri B (p.getD (k-1) 0) (p.getD k 0)=MH from M3 (show ky B p (k-1)<ky B p k by lia)];dsimp only;rw[MU rfl];exact⟨rfl,rfl,MW k,by show k<=_;lia,h⟩
theorem xg{p q:a0A}(h:p[i]?=q[j]?):p.getD i 0=q.getD j 0:=by
 have a:∀(r:a0A) (x:Nat),r.getD x 0=(r[x]?).getD 0:=λr x=>by
  by_cases b:x<r.size
  .simp[Px,b]
  .simp[Px,b]
 rw[a,a,h]
theorem Ji{p:a0A}(a:k<=p.size)(h:De B p k):So B (kas_rev p 0 k) k:=λi j b c=>by
 have g:∀x,x<k->(kas_rev p 0 k).getD x 0=p.getD (k-1-x) 0:=λx d=>by
  refine xg ?_;unfold kas_rev;rw[getElem?_mirror_all a,MU (by lia)];congr 1;lia
 show B _<B _;rw[g i (by lia),g j c];exact h (k-1-j) (k-1-i) (by lia) (by lia)
theorem Ek(P:Pm B n p)(b:1<=k)(c:k<=n)(h:De B p k):Rn (ri B) n (kas_tail3 k n p) λr=>Pm B n r.2/\1<=r.1/\r.1<=n/\So B r.2 r.1:=by
 have a:Pm B n (kas_rev p 0 k):=P.of (mirror_perm _ _ _ _);unfold kas_tail3;refine Rn.bind (Rn.mono (λm w=>?_) (wa a (n-k) k b (by lia) (Ji (by rw[P.sz];exact c) h)));exact⟨a,by lia,by lia,w.2.2.1⟩
theorem FE(P:Pm B n p)(e:1<=n):Rn (ri B) n (kas_count n p) λr=>Pm B n r.2/\1<=r.1/\r.1<=n/\So B r.2 r.1:=by
 unfold kas_count;refine Rn.bind (Rn.mono (λm E=>?_) (wa P (n-1) 1 (MW 1) (by lia) λi j a b=>by lia));obtain⟨M,S,w,G⟩:=E;by_cases q:m=n
 .rw[MU (by rw[PV];exact q)]
  exact⟨P,by lia,by lia,w⟩
 .rw[MS (by rw[PV];exact q)]
  have K:ky B p m<ky B p (m-1):=by
   rcases G with z|z
   .lia
   .exact z
  by_cases D:m>1
  .rw[MU D]
   refine⟨P.lt (by lia),P.lt (by lia),?_⟩;rw[show ri B (p.getD 0 0) (p.getD (m-1) 0)=MH from M3 (w 0 (m-1) (by lia) (by lia))];dsimp only;rw[MU rfl];exact⟨P,by lia,by lia,w⟩
  .rw[MS D]
   obtain rfl:m=1:=by lia
   unfold kas_descPart;refine Rn.bind (Rn.mono (λr c=>?_) (xp P (n-(1+1)) (1+1) (by lia) (by lia) λi j a b=>by
    obtain rfl:j=1:=by lia
    obtain rfl:i=0:=by lia
    exact K))
   obtain⟨rfl,f,b3,g,d⟩:=c;rw[MS (by lia)];exact Ek P (by lia) (by lia) d
theorem oY(P:Pm B n p)(a:k<n):∀(f l r:Nat),l<=r->r<=k->r-l<=f->(∀i,i<l->ky B p i<ky B p k)->(∀i,r<=i->i<k->ky B p k<ky B p i)->So B p k->
  Rn (ri B) n (kas_place p k f l r) λm=>m<=k/\(∀i,i<m->ky B p i<ky B p k)/\∀i,m<=i->i<k->ky B p k<ky B p i
 |0,l,r,h1,h2,h3,ha,hb,_=>by
  obtain rfl:l=r:=by lia
  exact⟨h2,ha,hb⟩
 |f+1,l,r,h1,h2,h3,ha,hb,so=>by
  unfold kas_place;by_cases q:l≥r
  .rw[MU q]
   obtain rfl:l=r:=by lia
   exact⟨h2,ha,hb⟩
  .rw[MS q]
   refine⟨P.lt (by lia),P.lt (by lia),?_⟩;by_cases z:ky B p k<ky B p ((l+r)/2)
   .rw[show ri B (p.getD k 0) (p.getD ((l+r)/2) 0)=MH from M3 z];dsimp only;rw[MU rfl]
    refine oY P a f l ((l+r)/2) (by lia) (by lia) (by lia) ha (λi c b=>?_) so;by_cases w:i=(l+r)/2
    .subst w;exact z
    .exact Ry z (so _ i (by lia) b)
   .rw[show ri B (p.getD k 0) (p.getD ((l+r)/2) 0)=ML from Nw z];dsimp only;rw[MS MT]
    have d:=P.ne (show(l+r)/2<k by lia) a;refine oY P a f ((l+r)/2+1) r (by lia) h2 (by lia) (λi c=>?_) hb so;by_cases w:i=(l+r)/2
    .subst w;lia
    .exact Ry (so i ((l+r)/2) (by lia) (by lia)) (by lia)
theorem DI:∀(f:Nat) {p:a0A} {k:Nat},Pm B n p->k+f=n->So B p k->Rn (ri B) n (kas_bin f p k) λb=>Pm B n b/\So B b n
 |0,p,k,P,hk,so=>⟨P,by rw[<-hk];exact so⟩
 |f+1,p,k,P,hk,so=>by
  unfold kas_bin;refine Rn.bind (Rn.mono (λm E=>?_) (oY P (by lia) k 0 k (N2 _) (MW _) (by lia) (λi h=>Nh h (OM i)) (λi l c=>by lia) so));obtain⟨l,c,o⟩:=E;have r:Pm B n (bubble p k (k-m)):=P.of (bubble_perm _ _ _);refine DI f r (by lia) λi j a t=>?_;have G:k<p.size:=by rw[P.sz];lia
  have g:∀x:Nat,(bubble p k (k-m)).getD x 0=p.getD (if x=m then k else if m<x/\x<=k then x-1 else x) 0:=λx=>by
   refine xg ?_;rw[getElem?_bubble G (k-m) (by lia)];by_cases q:x=m
   .rw[MU (by lia),MU q]
   .rw[MS (by lia),MS q]
    by_cases w:m<x/\x<=k
    .rw[MU (by lia),MU w]
    .rw[MS (by lia),MS w]
  show B _<B _;rw[g i,g j];by_cases D:i=m
  .rw[MU D,MS (by lia),MU (by lia)]
   exact o (j-1) (by lia) (by lia)
  .rw[MS D]
   by_cases w:j=m
   .rw[MU w,MS (by lia)]
    exact c i (by lia)
   .rw[MS w]
    by_cases d:m<i/\i<=k
    .rw[MU d,MU (by lia)]
     exact so (i-1) (j-1) (by lia) (by lia)
    .rw[MS d]
     by_cases e:m<j/\j<=k
     .rw[MU e]
      exact so i (j-1) (by lia) (by lia)
     .rw[MS e]
      exact so i j a (by lia)
theorem Hb(a:1<=n)(w:∀i j,i<n->j<n->B i=B j->i=j):Rn (ri B) n (kas_sort n) λp=>Pm B n p/\So B p n:=by
 unfold kas_sort;have P:Pm B n (List.toArray (MX n)):=⟨.refl _,w⟩;refine Rn.bind (Rn.mono (λr b=>?_) (FE P a));obtain⟨D,G,K,E⟩:=b;by_cases q:r.1<n
 .rw[MU q,Nat.max_eq_left G]
  exact DI _ D (by lia) E
 .rw[MS q]
  obtain rfl:r.1=n:=by lia
  exact⟨D,E⟩
noncomputable def c7:a0c->a0c->Bool
 |[],[]=>ML
 |[],_::_=>MH
 |_::_,[]=>ML
 |a::as,b::bs=>if a=b then c7 as bs else decide (a<b)
theorem i8:∀x,c7 x x=ML
 |[]=>rfl
 |a::as=>by unfold c7;rw[MU rfl];exact i8 as
theorem qy:∀{x y z},c7 x y=MH->c7 y z=MH->c7 x z=MH
 |[],[],_,h,_=>by cases h
 |[],_::_,[],_,h=>by cases h
 |[],_::_,_::_,_,_=>rfl
 |_::_,[],_,h,_=>by cases h
 |_::_,_::_,[],_,h=>by cases h
 |a::as,b::bs,c::cs,h1,h2=>by
  unfold c7 at h1 h2⊢;by_cases w:a=b
  .rw[MU w]at h1
   by_cases n:b=c
   .rw[MU n]at h2
    rw[MU (w.trans n)];exact qy h1 h2
   .rw[MS n]at h2
    rw[MS (by rw[w];exact n),w];exact h2
  .rw[MS w]at h1
   have d:=O5 h1;by_cases n:b=c
   .rw[MS (by rw[<-n];exact w),<-n];exact h1
   .rw[MS n]at h2
    have e:=O5 h2;rw[MS (by lia)];exact M3 (by lia)
theorem nz:∀{x y},c7 x y=ML->c7 y x=ML->x=y
 |[],[],_,_=>rfl
 |[],_::_,h,_=>by cases h
 |_::_,[],_,h=>by cases h
 |a::as,b::bs,h1,h2=>by
  unfold c7 at h1 h2;by_cases q:a=b
  .rw[MU q]at h1
   rw[MU q.symm]at h2;rw[q,nz h1 h2]
  .rw[MS q]at h1
   rw[MS (Ne.symm q)]at h2;have:=Vz h1;have:=Vz h2;lia
theorem vW:∀{L:a0a},(∀l∈L,p l=MH->q l=MH)->∀{i},i∈L->p i=ML->q i=MH->L.countP p<L.countP q
 |[],_,i,h,_,_=>by cases h
 |a::L,hpq,i,hi,h1,h2=>by
  have n:L.countP p<=L.countP q:=List.countP_mono_left λl b=>hpq l (MJ a b);rcases M4.mp hi with rfl|hi
  .rw[List.countP_cons_of_neg (by rw[h1];exact MT),List.countP_cons_of_pos h2]
   lia
  .have ih:=vW (λl b=>hpq l (MJ a b)) hi h1 h2
   rw[List.countP_cons,List.countP_cons];have:(if p a=MH then 1 else 0)<=(if q a=MH then 1 else 0):=by
    by_cases z:p a=MH
    .rw[MU z,MU (hpq a MP z)];exact MW 1
    .rw[MS z];exact N2 _
   lia
def iE(ks:LI)(i:Nat):Nat:=(MX ks.length).countP λj=>c7 (ks.getD j []) (ks.getD i [])
theorem tU{n:LI}(a:i<n.length)(h:c7 (n.getD i []) (n.getD j [])=MH):iE n i<iE n j:=
 vW (λl _ b=>qy b h) (Ni.mpr a) (i8 _) h
theorem z7{ks:LI}(b:i<ks.length)(c:j<ks.length):decide (iE ks i<iE ks j)=c7 (ks.getD i []) (ks.getD j []):=by
 cases h:c7 (ks.getD i []) (ks.getD j [])with
 |true=>exact M3 (tU b h)
 |false=>
  refine Nw λz=>?_;cases a:c7 (ks.getD j []) (ks.getD i [])with
  |true=>have:=tU c a;lia
  |false=>
   have e:=nz h a;unfold iE at z;rw[e]at z;exact NU _ z
theorem Jg{ks:LI}(n:ks.Nodup)(a:i<ks.length)(b:j<ks.length)(h:iE ks i=iE ks j):i=j:=by
 have e:ks.getD i []=ks.getD j []:=by
  refine nz ?_ ?_
  .cases z:c7 (ks.getD i []) (ks.getD j [])with
   |false=>rfl
   |true=>have:=tU a z;lia
  .cases z:c7 (ks.getD j []) (ks.getD i [])with
   |false=>rfl
   |true=>have:=tU b z;lia
 rw[MN,MN,MI a,MI b]at e;have c:ks[i]=ks[j]:=e;rcases Qj i j with z|z|z
 .exact Nh c (Pl.mp n i j a b z)
 .exact z
 .exact Nh c.symm (Pl.mp n j i b a z)
abbrev Up(l:LI):Prop:=l.Pairwise λa b=>c7 a b=MH
theorem xJ:∀{l m:LI},Up l->Up m->(∀x,x∈l↔x∈m)->l=m
 |[],[],_,_,_=>rfl
 |[],b::m,_,_,h=>by have:=(h b).mpr MP;cases this
 |a::l,[],_,_,h=>by have:=(h a).mp MP;cases this
 |a::l,b::m,h1,h2,h=>by
  obtain⟨d,f⟩:=QJ.mp h1;obtain⟨n,B⟩:=QJ.mp h2;have e:a=b:=by
   rcases M4.mp ((h a).mp MP)with z|z
   .exact z
   .rcases M4.mp ((h b).mpr MP)with w|w
    .exact w.symm
    .have:=qy (n a z) (d b w)
     rw[i8]at this;cases this
  subst e;congr 1;refine xJ f B λx=>⟨λc=>?_,λc=>?_⟩
  .rcases M4.mp ((h x).mp (MJ a c))with rfl|z
   .have:=d x c;rw[i8]at this;cases this
   .exact z
  .rcases M4.mp ((h x).mpr (MJ a c))with rfl|z
   .have:=n x c;rw[i8]at this;cases this
   .exact z
variable{aa:Ny}{w:NC}{A:NX}{E:a0e}{s:MQ}
theorem w8{b:Bool}:∀{G E:a0c} {B D:a0f} (i:Nat),ItemsAre (SX aa w) G B->ItemsAre (SX aa w) E D->∀n m:Nat,(decide (n+B.length<m+D.length)=decide (G.length<E.length))->Q (c7 G E) s->KatLex aa w A MH (decide (n+B.length<m+D.length)) Q (B.zip D) i s
 |[],E,B,D,i,hx,hy,n,m,e,q=>by
  cases hx;cases hy with
  |nil=>rw[TH];exact kat_nil (by rw[e];exact q)
  |cons c d=>rw[TH];exact kat_nil (by rw[e];exact q)
 |x::G,E,B,D,i,hx,hy,n,m,e,q=>by
  cases hx with
  |@cons _ u _ us' c d=>
   cases hy with
   |nil=>rw[List.zip_nil_right];exact kat_nil (by rw[e];exact q)
   |@cons y v ys' vs' h3 h4=>
    obtain⟨g,rfl⟩:=Tj c;obtain⟨h,rfl⟩:=Tj h3;rw[OZ];refine kat_cons (wpAny_eqBool_int ?_);unfold c7 at q;by_cases z:x=y
    .rw[MU z]at q
     rw[show(x==y)=MH by rw[PV];exact z];refine kat_yes ?_;have f:∀k l:Nat,decide (k+(us'.length+1)<l+(vs'.length+1))=decide (k+1+us'.length<l+1+vs'.length):=λk l=>decide_eq_decide.mpr (by lia);rw[M5,M5,f];refine w8 (b:=b) (i+1) d h4 (n+1) (m+1) ?_ q;rw[<-f,<-M5 (a:=Qm x g),<-M5 (a:=Qm y h),e,M5,M5];exact decide_eq_decide.mpr (by lia)
    .rw[MS z]at q
     rw[show(x==y)=ML by rw[U1];exact z];refine kat_no ?_;cases j:(MH&&i==0)with
     |true=>exact oneLt_int q
     |false=>exact kat_one _ _ (lt_int (show PySem.W.BoolBack Q (.bool _) s from q))
theorem J0(i:(i4 aa w).is s.heap t x)(j:(i4 aa w).is s.heap u y)(h:Q (c7 t u) s):M0 (Nj aa w) A (keyLt' (tuples' MH) (.ref x) (.ref y)) Q E s:=by
 obtain⟨m,o,p,d,k,e,a⟩:=i;obtain⟨o2,q,r,f,l,g,c⟩:=j;refine kat_lt d e f g ?_;have:=w8 (A:=A) (b:=MH) (Q:=Q) (s:=s) 0 a c 0 0 (by rw[Oo,Oo,a.length,c.length]) h;rw[Oo,Oo,ND,ND]at this;exact this
structure ZL (aa:Ny) (w:NC) (A:NX) (is:NS->a0c->MK->Prop):Prop where
 fr:∀{h h':NS} {k:a0c} {x:MK},is h k x->(∀b o,o.cls= .type "tuple"->h.get? b=My o->h'.get? b=My o)->is h' k x
 tup:∀{h:NS} {k:a0c} {x:MK},is h k x->∃o its n i t,h.get? x=My o/\o.cls= .type "tuple"/\o.data= .seq its n/\its[0]?=My (.int i t)
 lt:∀{E:a0e} {s:MQ} {Q:Bool->MQ->Prop} {x y:MK} {xs ys:a0c},is s.heap xs x->is s.heap ys y->Q (c7 xs ys) s->M0 (Nj aa w) A (keyLt' (tuples' MH) (.ref x) (.ref y)) Q E s
theorem ww(S:ZL aa w A is):∀{ks:a0t},(∀k∈ks,is s.heap k.1 k.2)->∃B:a0f,KatTups s.heap (ks.map λk=>M6 k.2) B/\B.length=ks.length/\∀v∈B,∃n t,v=Qm n t
 |[],_=>⟨[],trivial,rfl,λv hv=>by cases hv⟩
 |k::ks,h=>by
  obtain⟨B,a,b,c⟩:=ww S λd f=>h d (MJ k f);obtain⟨o,D,n,i,t,g,j,E,e⟩:=S.tup (h k MP);refine⟨_::B,KatTups.cons g j E e a,by rw[M5,M5,b],λv hv=>?_⟩;rcases M4.mp hv with rfl|hv
  .exact⟨i,t,rfl⟩
  .exact c v hv
abbrev isI(aa:Ny)(w:NC)(h:NS)(k:a0c)(x:MK):Prop:=(i4 aa w).is h k x/\1<=k.length
theorem Lj:ZL aa w A (isI aa w) where
 fr:=λ⟨⟨o,s,n,d,b,f,c⟩,l⟩ k=>⟨⟨o,s,n,k _ _ b d,b,f,c⟩,l⟩
 tup:=λ⟨⟨o,s,n,d,b,f,c⟩,l⟩=>by
  have a:=c.length;have g:0<s.size:=by rw[<-ND,<-a];lia
  obtain⟨i,t,e⟩:=items_int c s[0] (by rw[<-Q5];exact NB _);exact⟨o,s,n,i,t,d,b,f,by rw[getElem?_pos s 0 g,e]⟩
 lt:=λj m h=>J0 j.1 m.1 h
theorem zP(S:ZL aa w A is){ks:a0t}{n:Nat}{P:R9->MQ->Prop}(L:s.heap.get? a=My (Qo "list" (ks.map λk=>M6 k.2).toArray n))(hk:∀k∈ks,is s.heap k.1 k.2)(nd:(ks.map (·.1)).Nodup)(ae:ks.length<64)
  (h:∀(V:NS) (l:a0t) (n':Nat),l.Perm ks->Up (l.map (·.1))->V.get? a=My (Qo "list" (l.map λk=>M6 k.2).toArray n')->(∀b o,b≠a->s.heap.get? b=My o->V.get? b=My o)->P (.done (.ret .none)) {s with heap:=V}):
  M0 (Nj aa w) A (Builtin.«list.sort» ⟨[.ref a],[]⟩) P E s:=by
 have ha:a<s.heap.objs.size:=Nl L;rw[list_sort_plain];refine MC (listItems_at L rfl ?_);refine MC (SD L rfl ?_ (by simp[O1];lia) (by simp));obtain⟨B,N⟩:∃B,(s.heap.update a (OF λ_=>#[])).get? a=My (Qo "list" #[] B):=⟨_,get?_update_seq L (λ_=>#[])⟩;refine MC (seqEpoch_at N rfl ?_);refine MC (Ts ?_ (by simp[O1];lia));refine MC (wpAny_newList ?_ (N2 _));refine Om ?_;generalize m:(ks.map λk=>M6 k.2)=vs at*;have q:vs.length=ks.length:=by rw[<-m,MD]
 have d:(((s.heap.update a (OF λ_=>#[])).push (Qo "tuple" vs.toArray 0)).push (Qo "list" #[] 0)).get? a=My (Qo "list" #[] B):=by
  rw[WG _ _ _ (by rw[size_push',Heap.size_update];exact NM (R4 ha)),WG _ _ _ (by rw[Heap.size_update];exact NM ha)];exact N
 have D:∀b o,b≠a->s.heap.get? b=My o->(((s.heap.update a (OF λ_=>#[])).push (Qo "tuple" vs.toArray 0)).push (Qo "list" #[] 0)).get? b=My o:=λb o F e=>by
  refine MG _ (MG _ ?_);rw[PH _ _ _ _ F];exact e
 show M0 (Nj aa w) A _ P E {s with heap:=((s.heap.update a (OF λ_=>#[])).push (Qo "tuple" vs.toArray 0)).push (Qo "list" #[] 0)};generalize af:((s.heap.update a (OF λ_=>#[])).push (Qo "tuple" vs.toArray 0)).push (Qo "list" #[] 0)=h6 at d D
 dsimp only
 have O:∀(l:a0t) (u:a0J),l.Perm ks->Up (l.map (·.1))->u=(l.map λk=>M6 k.2).toArray->P (.done (.ret .none)) {s with heap:=h6.update a (OF λ_=>u)}:=λl u p1 p2 e=>by
  refine h _ l _ p1 p2 (by rw[<-e];exact get?_update_seq d λ_=>u) λb o F W=>?_;rw[PH _ _ _ _ F];exact D b o F W
 by_cases I:vs.toArray.size<2
 .rw[MU I,MU I]
  refine MC (MF ?_);rw[StateT.run_pure];refine MC (MF ?_)
  dsimp only
  refine MC (seqEpoch_at d rfl ?_);have X:((arrOf (SortSt.mk' general' (vs.toArray.zip vs.toArray) #[] 7 ME)).map (·.2))=vs.toArray:=by
   show(vs.toArray.zip vs.toArray).map (·.2)=_;apply Array.toList_inj.mp;rw[Array.toList_map,Array.toList_zip];exact List.map_snd_zip (MW _)
  rw[X];refine MC (SD d rfl ?_ (by simp) (by simp[O1];lia));simp only[Qc,Na,N1];refine MF (O ks _ (.refl _) ?_ (by rw[m]));have Y:ks.length<2:=by rw[<-q];simpa using I
  match ks,Y with
  |[],_=>exact Sy
  |[k],_=>exact Sg _ _
  |_::_::_,Y=>simp at Y;lia
 .rw[MS I,MS I]
  have ag:2<=ks.length:=by rw[<-q];simp at I;lia
  have H:∀k∈ks,is h6 k.1 k.2:=λk Z=>S.fr (hk k Z) λb o hc F=>D b o (λz=>by
   subst z;rw[L]at F;cases F;exact Nh (QG.inj hc) (by decide)) F
  obtain⟨fs,t1,t2,t3⟩:=ww S (s:={s with heap:=h6}) H;rw[m]at t1;refine MC (kat_kind (T:= .type "int") t1 (by lia) (λv hv=>?_) rfl ?_)
  .obtain⟨x,t,rfl⟩:=t3 v hv
   exact Looks.of_pure rfl
  show M0 _ _ (StateT.run sortRuns' (SortSt.mk' (tuples' MH) (vs.toArray.zip vs.toArray) #[] 7 ME)>>=_) _ _ _;have J:(ks.map (·.1)).length=vs.length:=by rw[MD,q]
  have K:∀i,i<vs.length->∃k∈ks,vs.getD i NK= .ref k.2/\(ks.map (·.1)).getD i []=k.1/\ks[i]?=My k:=λi c=>by
   have f:i<ks.length:=by lia
   refine⟨ks[i],NB f,?_,?_,MI f⟩
   .rw[<-m,MN,MM,MI f];rfl
   .rw[MN,MM,MI f];rfl
  refine MC (NI (kat_run (κ:=tuples' MH) (ks:=vs) (vs:=vs) (Q:=λg M=>M={s with heap:=h6}/\failedOf g=ME/\∃p:a0A,Pm (iE (ks.map (·.1))) vs.length p/\So (iE (ks.map (·.1))) p vs.length/\arrOf g=p.map (kas_item (vs.toArray.zip vs.toArray)))
   (G:=λp M=>M={s with heap:=h6}/\Pm (iE (ks.map (·.1))) vs.length p/\So (iE (ks.map (·.1))) p vs.length) rfl (by lia) (by lia) (λp g M a1 a2 a3 a4=>⟨a4.1,a3,p,a4.2.1,a4.2.2,a2⟩)
   (Rn.wp (lt:=ri (iE (ks.map (·.1)))) (n:=vs.length) (λi j c y C hC=>?_) (λp hp=>⟨rfl,hp⟩) (Hb (by lia) λi j c y hr=>Jg nd (by rw[J];exact c) (by rw[J];exact y) hr))) (λr M hr=>?_) λ_ _ e=>e)
  .obtain⟨k1,m1,B,f1,_⟩:=K i c
   obtain⟨k2,m2,e2,f2,_⟩:=K j y;unfold kas_ask;rw[B,e2];refine S.lt (H k1 m1) (H k2 m2) ?_;have:=z7 (ks:=ks.map (·.1)) (i:=i) (j:=j) (by rw[J];exact c) (by rw[J];exact y);rw[f1,f2]at this;rw[<-this];exact hC
  .obtain⟨⟨⟩,g⟩:=r
   obtain⟨rfl,hf,p,P1,so,ab⟩:=hr
   dsimp only
   have X:(arrOf g).map (·.2)=(p.toList.map λi=>vs.getD i NK).toArray:=kat_snds rfl ab;have R:=P1.sz;rw[X];refine MC (seqEpoch_at d rfl ?_);refine MC (SD d rfl ?_ (by simp) (by simp[O1];lia));rw[hf];simp only[Qc,Na,N1];have U:∀i∈p.toList,i<vs.length:=λi c=>Ni.mp (P1.perm.mem_iff.mp c);refine MF (O (p.toList.map λi=>ks.getD i ([],0)) _ ?_ ?_ ?_)
   .refine(P1.perm.map _).trans (Ti ?_)
    rw[q];refine OX (by simp) λi q1 q2=>?_;rw[PN,P0,MN,MI q2];rfl
   .rw[MV]
    unfold Up;rw[RW];refine Pl.mpr λi j c y ac=>?_;have f:i<vs.length:=by simpa[R]using c
    have ad:j<vs.length:=by simpa[R]using y
    have gd:∀x (hx:x<p.toList.length),p.getD x 0=p.toList[x]:=λx hx=>by
     have:x<p.size:=by simpa using hx
     simp[Px,this]
    have z:=so i j ac ad;unfold ky at z;rw[gd i c,gd j y]at z;obtain⟨k1,m1,B,f1,g1⟩:=K p.toList[i] (U _ (NB c));obtain⟨k2,m2,e2,f2,g2⟩:=K p.toList[j] (U _ (NB y));have:=z7 (ks:=ks.map (·.1)) (i:=p.toList[i]) (j:=p.toList[j]) (by rw[J];exact U _ (NB c)) (by rw[J];exact U _ (NB y));rw[M3 z,f1,f2]at this;simp only[RC];rw[MN,MN,g1,g2];exact this.symm
   .rw[MV]
    congr 1;refine Nu λi c=>?_;obtain⟨k1,m1,B,f1,g1⟩:=K i (U i c);rw[B];simp only[RC];rw[MN,g1];rfl
theorem EI{w A:Type}{f:w->A}{B g:List A}(p:B.Perm g):∀{n:List w},g=n.map f->∃s:List w,s.Perm n/\B=s.map f:=by
 induction p with
 |nil=>
  intro n e;cases n with
  |nil=>exact⟨[],.refl _,rfl⟩
  |cons _ _=>cases e
 |cons x _ D=>
  intro n e;cases n with
  |nil=>cases e
  |cons a n=>
   cases e;obtain⟨s,c,d⟩:=D rfl;exact⟨a::s,c.cons a,by rw[d];rfl⟩
 |swap x y l=>
  intro n e
  match n,e with
  |[],e=>cases e
  |[_],e=>cases e
  |a::b::n,e=>
   cases e;exact⟨b::a::n,.swap _ _ _,rfl⟩
 |trans _ _ ih1 ih2=>
  intro n e;obtain⟨s,c,d⟩:=ih2 e;obtain⟨h,i,j⟩:=ih1 d;exact⟨h,i.trans c,j⟩
theorem xY{n:a0t}(H:A.handled=ME)(S:rS aa w s.heap a n)(I:∀x∈n,1<=x.1.length)(J:n.length<64)
  (h:∀(l:MK) (D:NS) (f v:Nat) (g:a0t),g.Perm n->Up (g.map (·.1))->D.get? l=My (Qo "list" (g.map λk=>M6 k.2).toArray v)->s.heap.objs.size<=l->(∀b o,s.heap.get? b=My o->D.get? b=My o)->s.toks<=f->Q (.ref l) {s with heap:=D,toks:=f}):
  M0 (Nj aa w) A (SC (.builtin "sorted") [.ref a]) Q E s:=by
 obtain⟨o,P,ep,t,L,y,V,i,B,N,T,O,j⟩:=S;have C:P.size=n.length:=by rw[<-ND,i,MD]
 have R:t.fits P.size=MH:=T.fits (by rw[MD,C]);refine Calls.call_function_entry kind_sorted plain_sorted entry_sorted (args_sorted1 _) ?_;unfold Builtin.«sorted»;refine MC (m:=checkCount "sorted" 1 1 _) (MF ?_);refine MC (wj H L y.1 V T R O j (by lia) λp f vs G q M pv=>?_);rw[i,MV]at pv;obtain⟨K,r,rfl⟩:=EI pv rfl;have U:K.length=n.length:=r.length_eq;refine MC (wpAny_newList ?_ (by rw[MD,O1];lia));have c:∀b d,s.heap.get? b=My d->(p.push (Qo "list" (K.map λk=>M6 k.2).toArray 0)).get? b=My d:=λb d e=>MG _ (G b d e);have u:(p.push (Qo "list" (K.map λk=>M6 k.2).toArray 0)).get? p.objs.size=My (Qo "list" (K.map λk=>M6 k.2).toArray 0):=M7 _ rfl;show M0 _ _ _ _ _ {s with heap:=p.push (Qo "list" (K.map λk=>M6 k.2).toArray 0),toks:=f};refine MC (Om (NQ slot_list_sort ⟨_,u,rfl⟩ entry_list_sort (zP Lj u (λk F=>⟨?_,I k (r.mem_iff.mp F)⟩) ((r.map (·.1)).nodup_iff.mpr B) (by lia) λD g v q1 q2 q3 q4=>⟨_,rfl,?_⟩) (args_list_sort _)))
 .obtain⟨W,its,m,X,Y,Z,z4⟩:=N k (r.mem_iff.mp F)
  exact⟨W,its,m,c _ _ X,Y,Z,z4⟩
 .refine MF ⟨_,rfl,h p.objs.size D f v g (q1.trans r) q2 q3 q (λb d e=>q4 b d (λz=>?_) (c b d e)) M⟩
  have:=Nl e;exact Nh (z▸this) (Nat.not_lt.mpr q)
end
end L2.Hs
namespace L2.Hs
section
variable{j:Ny}{w:NC}
def rT(j:Ny)(w:NC)(a:MK)(D:a0t)(h:NS):Prop:=
 ∃o E G t,h.get? a=My o/\o.ExactSet/\o.data= .set E G t/\(E.toList=D.map λx=>(hsh j w x.1,M6 x.2))/\(D.map (·.1)).Nodup/\(Tb t (D.map λx=>hsh j w x.1))/\t.plain=MH/\t.led=!(w.params.followText "set-order")
noncomputable def mT(j:Ny)(w:NC)(a:MK)(D:a0t):HO:= .ext (rT j w a D)
theorem rT.to(S:rT j w a xs h)(b:∀x∈xs,(i4 j w).is h x.1 x.2):rS j w h a xs:=by
 obtain⟨o,D,E,t,c,d,e,f,h5,g⟩:=S;exact⟨o,D,E,t,c,d,e,f,h5,b,g⟩
theorem wE(S:rT j w a d h):bX j w H h a (mT j w a d):=by
 refine⟨S,?_,λb c z k=>?_⟩
 .obtain⟨o,_,_,_,e,_⟩:=S
  exact⟨o,e⟩
 .obtain⟨o,es,ep,t,e,r⟩:=z
  exact⟨o,es,ep,t,k _ e,r⟩
theorem Fd{k:a0c}:∀{D:a0f},ar (k.map V.int) D->ItemsAre (SX j w) k D:=by
 induction k with
 |nil=>intro D h;cases h;exact .nil
 |cons i k E=>
  intro D h;cases h with
  |cons a b=>
   obtain⟨t,rfl⟩:=a;exact .cons (by simp[SX,Vn]) (E b)
variable{X:Cx}
theorem nP{s:MQ}{k:a0c}(I:cy X ba d H s)(h:hY X.K H b (k.map V.int)):(i4 X.prog X.w).is s.heap k b:=by
 obtain⟨j,a,⟨o,e,c,n,D⟩,_⟩:=I.tuple h;exact⟨o,j.toArray,n,e,c,D,Fd a⟩
theorem tb0{b:Bool}:Tb (.fresh 0 0 b) []:=⟨.inl rfl,rfl,λi j a b h=>by simp[Wv]at*,λi j h=>by simp[Wv]at h,rfl,by show 0*5<7*3;decide,λi h j c=>by simp at c⟩
theorem rX:∀a:a0t,ar (a.map λz=>V.ref z.2) (a.map λk=>M6 k.2)
 |[]=> .nil
 |_::a=> .cons rfl (rX a)
theorem HK:X0 X (newSet (.type "set")) λD=>mT X.prog X.w D []:=λa s c H E Q I h=>by
 unfold newSet setsByText;refine MC (MC (Rt (MF ?_)))
 dsimp only
 simp only[newObj];refine MC (wpAny_alloc (MF (h _ (I.laid (t':=s.toks) (λ_ _ q=>MG _ q) (MW _) (wE ?_)) λb o e=>MG _ e)));exact⟨_,#[],0,_,M7 _ rfl,⟨rfl,rfl,rfl⟩,rfl,rfl,.nil,tb0,rfl,rfl⟩
def DF(P:Ny)(w:NC)(K:M9)(D:MK)(d:TE):TB:=λc H Q=>d c H λv E=>∃j k b,E D=My (mT P w D j)/\v= .ref b/\hY K E b (k.map V.int)/\(∀x∈j,hY K E x.2 (x.1.map V.int))/\j.length<63/\
 ∀a,(k∈j.map (·.1)->a=j)->(k∉j.map (·.1)->a.Perm ((k,b)::j))->Q c (upd E D (mT P w D a))
theorem uY{D:MK}(p:X.A.units+1<Sa)(L:z[d+1]?=ME)(N:PE X elt te)(j:X.xe=λ_ _=>False):PB X (.S elt) z scope pos d D (DF X.prog X.w X.K D te):=by
 intro a s y H Q I h k Q' E' O;unfold iu;rw[L];show M0 _ _ ((do let v <-NW elt X.env;Qi elt.pos;let _ <-SC (.builtin "set.add") [.ref D,v])>>=λ_=>k) _ _ _
 have c:=N a s y H _ I h;rw[j]at c;refine MC (MC (NI c (λu g l=>?_) λ_ _ f=>f.elim));obtain⟨v,H1,i,r,E,R,b,B,rfl,C,J,P,q⟩:=l;cases r;have S:rT X.prog X.w D E g.heap:=(i.hok D _ B).1;have T:rS X.prog X.w g.heap D E:=S.to λx h=>nP i (J x h);obtain⟨o,G,M,t,U,W,_⟩:=S;refine MC (OQ (MC (NQ F.slot_set_add ⟨o,U,W.1⟩ F.entry_set_add ?_ (F.args_set_add_2 _ _))));unfold Builtin.«set.add» Builtin.Frozenset.oneOther;simp only[List.isEmpty_nil,bind_assoc];unfold Builtin.Frozenset.addrOf setAdd;refine MC (MF ?_)
 try dsimp only
 refine MC (MF ?_)
 try dsimp only
 refine MC (Om (MC ((i4 X.prog X.w).pyHash p (nP i C) ?_)));refine KQ (s:={g with toks:=g.toks+(i4 X.prog X.w).draws R}) p T (nP (s:=g) i C) P λh' m Y Z V c2=>?_;show M0 _ _ (ret NK) _ _ _;refine MF ⟨_,rfl,MF (O _ y _ (i.write (by rw[B];trivial) (.inl rfl) (λb u n e=>(Y.2 b n).trans e) ?_ (wE ?_)) (q m V c2))⟩
 all_goals obtain⟨o,G,M,t,c,l,h3,h4,h5,J,h6⟩:=Z
 .exact⟨o,c⟩
 .exact⟨o,G,M,t,c,l,h3,h4,h5,h6⟩
def lW(b:MK->HO)(w:a0h)(E:a0a)(c:TI)(d:MK->It->TB):TE:=λa H Q=>c a H λJ j=>∀D,j D=ME->d D J (kH w E a) (upd j D (b D)) λ_ e=>Q (.ref D) e
theorem Hw{d a b:Expr}{f:List Expr}{G:a0P}{E:Scope}{K:Ri}{j V:a0h}{z:a0a}{g:TG}{tt:TT}{o:a0W}{p:TI}(r:X.calm=MH)(S:db X E j V z)(t:PI X a b p)
  (u:∀(M:a0m) (C:MK) (k:a0n) (s:MQ) (H:Hp),PG (aI X j E M C k s H) a g/\eD (aI X j E M C k s H) f tt/\∀D,PB (aI X j E M C k s H) (.S d) (⟨a,b,f,0⟩::G) E K 0 D (o D))
  (hs:∀x,NO b X.env x=OW x:=by intro _;rfl):PE X (.SetComp d (⟨a,b,f,0⟩::G) E K) (lW (λD=>mT X.prog X.w D []) V z p λD J=>dB J g tt (o D)):=by
 intro i s y H Q I h;refine PX (use:=ME) rfl hs (S.clo I.ok) S.kind S.loc (NI (t i s y H _ I h) (λv Y B=>NI B (λF Z L=>?_) λ_ _ x=>x) λ_ _ x=>x);obtain⟨it,k,tn,J,H2,e,N,T,l,f2,q⟩:=L;subst e;refine ir (c:= .S d) HK (RR:=λP C=>Vs (Nj X.prog X.w) X.A X.xe ME _ P C) r S u N T l f2 q λD C s' O m R ns U W=>?_;exact⟨m,ns,λh' n=>⟨.ref D,O,R.letgo U n,rfl,W⟩⟩
def wK(P:Ny)(w:NC)(K:M9):a0i->Hp->VK->Prop:=λD H Q=>∃a j,D=[.ref a]/\H a=My (mT P w a j)/\(∀x∈j,hY K H x.2 (x.1.map V.int)/\1<=x.1.length)/\j.length<64/\
 ∀(l:MK) (b:a0t),H l=ME->b.Perm j->Up (b.map (·.1))->Q (.ref l) (upd H l (.lst (b.map λz=>V.ref z.2)))
theorem wk(e:X.calm=MH):dP X (.builtin "sorted") (wK X.prog X.w X.K):=by
 intro c s m H t v Q I r h;obtain⟨a,G,rfl,M,d,P,q⟩:=h;obtain⟨u,rfl,rfl⟩:=kO r;have S:rT X.prog X.w a G s.heap:=(I.hok a _ M).1;refine xY (I.ok.hd e) (S.to λx h=>nP I (d x h).1) (λx h=>(d x h).2) P λl y f g b p i j E D n=>?_;refine⟨.ref l,_,I.laid (t':=f) (o:= .lst (b.map λz=>V.ref z.2)) D E ⟨?_,b.map λk=>M6 k.2,g,?_,j⟩,rfl,q l b (I.hok.fresh E) p i⟩
 .rw[MD,p.length_eq,O1];lia
 .exact rX b
end
end L2.Hs
namespace L2.Pu
open L2.Hs
def im(D:Nat)(E:a0a)(G:FL)(K:lI)(M:a0q)(b:FL)(a:a0d->a0k):FD:=λw P=>match G w P with
 |none=>ME
 |some (.error C,β1)=>My (.error C,β1)
 |some (.ok ds,β1)=>match m_ K M b ds (lb D E w) β1 with
  |some (.ok os,β2)=>(a os).map λd=>(.ok d,β2)
  |_=>ME
section
variable{K:M9}{E:a0r}
theorem sd{R:AR}{p:MK->HO}{c:a0d->a0k}{S:a0h}{V:a0a}{s:FL}{g:TG}{P:lI}{tt:a0q}{O:a0W}{b:FL}(hg:cV K g P)(sg:eB P)(hb:∀D,fE K R D (O D) b)
  (r0:∀F H D,R.R F (upd H D (p D)) D []) (hp:∀os d,c os=My d->R.Z os) {T:St} {H:Hp} {Q U:VK} (h:tV K (im S.length V s P tt b c) E T H U)
  (k:∀F B f D os d,Fr F B f->¬F.A D->R.R F B D os->c os=My d->(∀v j,To F B j f->c4 K F j d v->U v j)->Q (.ref D) B):
  lW p S V (iV K s E) (λD J=>dB J g (hW K tt E0) (O D)) T H Q:=by
 obtain⟨F,δ,β,fr,W,r,f,e,h⟩:=h;unfold im at e;refine⟨F,δ,β,fr,W,?_⟩;split at e
 .cases e
 .rename_i C β1 q
  cases e;exact⟨.error C,_,q,h⟩
 .rename_i ds β1 q
  split at e
  .rename_i os β2 q2
   cases G:c os with
   |none=>rw[G]at e;cases e
   |some d=>
    rw[G]at e;cases e;refine⟨.ok ds,β1,q,λJ M t hJ D m=>?_⟩;have i:¬F.A D:=t.fr.fresh m;have nb:∀b l,F.bg=My (b,l)->D≠b/\D≠l:=λb l z=>⟨λw=>i (w▸(fr.bgA b l z).1),λw=>i (w▸(fr.bgA b l z).2.1)⟩;have X:=t.fr.upd (p D) m;have I:Fr ⟨λa=>F.A a\/a=D,F.bg⟩ (upd M D (p D)) β1:=by
     refine⟨λa ha z=>?_,λb l z=>let ⟨x,y,w⟩:=fr.bgA b l z;⟨.inl x,.inl y,w⟩,X.fr.bag⟩
     rcases ha with ha|ha
     .exact X.fr.occ a ha z
     .subst ha;rw[ao]at z;cases z
    have u:Tr F M ⟨λa=>F.A a\/a=D,F.bg⟩ (upd M D (p D)):=⟨λa ha hs z=>by
     rcases z with z|z
     .exact ha z
     .subst z;exact hs m,λa o ha z=>by rw[bt (b5 z m)];exact z,rfl⟩
    refine nC (R:=R) (D:=D) (as:=[]) (os:=os) hg sg (hb D) I (.inr rfl) nb (qQ (W.tr ((t.tr fr).trans u))) (r0 _ _ _) (hJ.tr u) q2 (hp os d G) λaa j L ab N=>?_;have Y:To F M j f:=by
     refine⟨λa o z n=>L.kp a o (by rw[bt (b5 z m)];exact z) (b5 z m) n,λa ha z=>L.fr.occ a (OC ha) z,fr.bgA,L.fr.bag⟩
    exact k F j f D os d Y.fr i (R.tr (F:=⟨λa=>F.A a\/a=D,F.bg⟩) N (λ_ z=>z) ⟨λa ha _ z=>ha (OC z),λa o _ z=>z,rfl⟩) G λv H3 t4 hv=>h v H3 ((t.trans Y).trans t4) hv
  .cases e
noncomputable abbrev i_(k:a0c):D:= .tup (k.map .int)
theorem rM{k:a0c}(h:c4 K F H (i_ k) v):∃b,v= .ref b/\hY K H b (k.map V.int):=by
 obtain⟨a,D,rfl,w,c⟩:=c4.sqT h;cases bb.ints k c;exact⟨a,rfl,w⟩
theorem gL(h:i_ k=i_ l):k=l:=by
 injection h with h
 exact Tg (λa b z=>by injection z)|>.mp h
theorem mv{w:Type} [BEq w] [LawfulBEq w]:∀{l m:List w},l.Nodup->(∀x∈l,x∈m)->l.length<=m.length
 |[],_,_,_=>N2 _
 |a::l,m,nd,h=>by
  obtain⟨c,d⟩:=Nz.mp nd;have:=mv (m:=m.erase a) d λx b=>(List.mem_erase_of_ne (λ(z:x=a)=>c (z▸b))).mpr (h x (MJ a b));rw[List.length_erase_of_mem (h a MP)]at this;have:=List.length_pos_of_mem (h a MP);rw[M5];lia
noncomputable def RS(P:Ny)(w:NC)(K:M9):AR where
 R:=λF H D M=>∃E,H D=My (mT P w D E)/\(E.map (·.1)).Nodup/\(∀x∈E,c4 K F H (i_ x.1) (.ref x.2)/\i_ x.1∈M)/\∀d∈M,∃k∈E.map (·.1),d=i_ k
 Z:=λl=>∃G:LI,G.length<63/\∀d∈l,∃k∈G,d=i_ k
 tr:=λh k t=>by
  obtain⟨E,a,b,c,f⟩:=h;exact⟨E,k _ a,b,λx e=>⟨c4.tr t _ _ (c x e).1,(c x e).2⟩,f⟩
 zp:=λh=>by
  obtain⟨G,a,b⟩:=h;exact⟨G,a,λd S=>b d (O4 _ S)⟩
theorem E9{P:Ny}{w:NC}{D:MK}:fE K (RS P w K) D (DF P w K D (tV K f E0)) (lB f):=λF H δ β u O as os Q fr R A I T e U k=>by
 obtain⟨E,W,V,j,ha⟩:=T;obtain⟨d,aa,X,Y⟩:=M.bind_inv e;cases Y;refine⟨F,δ,β,fr,I,E0.run X λv s t J=>?_⟩;have B:=t.kp D _ W A;obtain⟨ks,z1,L⟩:=U;obtain⟨r,Z,rfl⟩:=L d (NF _ MP);obtain⟨b,rfl,sq⟩:=rM J;have c:∀x∈E,c4 K F s (i_ x.1) (.ref x.2):=λx h=>c4.tr (t.tr fr) _ _ (j x h).1;have g:E.length<63:=by
  have:=mv (m:=ks) V λx C=>by
   obtain⟨y,hy,rfl⟩:=M8.mp C;obtain⟨l,hl,e⟩:=L _ (O4 _ (j y hy).2);rw[gL e];exact hl
  rw[MD]at this;lia
 refine⟨E,r,b,B,rfl,sq,λx h=>?_,g,λi c1 c2=>?_⟩
 .obtain⟨b',e,q⟩:=rM (c x h)
  cases e;exact q
 have N:l9 F D s (upd s D (mT P w D i)) u:=by
  refine⟨λa o h n _=>by rw[bt n];exact h,λa h q=>?_,fr.bgA,λb l q=>?_⟩
  .by_cases z:a=D
   .subst z;rw[ao]at q;cases q
   .rw[bt z]at q;exact t.fr.occ a h q
  .rw[bt (A b l q).1.symm,bt (A b l q).2.symm]
   exact t.fr.bag b l q
 have G:=N.tr t.fr R;refine k O _ ((t.toD D).trans N) (I.tr ((t.tr fr).trans G)) ⟨i,ao,?_⟩;by_cases S:r∈E.map (·.1)
 .cases c1 S
  refine⟨V,λx h=>⟨c4.tr G _ _ (c x h),O4 _ (j x h).2⟩,λd hd=>?_⟩;rcases NP.mp hd with hd|hd
  .exact ha d hd
  .exact⟨r,S,Nq.mp hd⟩
 .have p:=c2 S
  refine⟨(p.map (·.1)).nodup_iff.mpr (Nz.mpr ⟨S,V⟩),λx h=>?_,λd hd=>?_⟩
  .rcases M4.mp (p.mem_iff.mp h)with rfl|h
   .exact⟨c4.tr G _ _ J,NF _ MP⟩
   .exact⟨c4.tr G _ _ (c x h),O4 _ (j x h).2⟩
  .rcases NP.mp hd with hd|hd
   .obtain⟨k2,h2,e⟩:=ha d hd
    exact⟨k2,(p.map (·.1)).mem_iff.mpr (MJ _ h2),e⟩
   .exact⟨r,(p.map (·.1)).mem_iff.mpr MP,Nq.mp hd⟩
def W3(w:LI)(D:a0d):Prop:=Up w/\w.length<63/\(∀k∈w,1<=k.length/\i_ k∈D)/\∀d∈D,∃k∈w,d=i_ k
theorem W3.eq{w:a0d}(a:W3 d w)(b:W3 ls w):d=ls:=xJ a.1 b.1 λx=>⟨λh=>by
 obtain⟨l,c,e⟩:=b.2.2.2 _ (a.2.2.1 x h).2;rw[gL e];exact c,λh=>by
 obtain⟨l,c,e⟩:=a.2.2.2 _ (b.2.2.1 x h).2;rw[gL e];exact c⟩
open Classical in
def kQ(w:a0d):a0k:=if h:∃D,W3 D w then My (.lst (h.choose.map i_))else ME
theorem Eu{w:LI}{D:a0d}(h:W3 w D):kQ D=My (.lst (w.map i_)):=by
 have q:∃w,W3 w D:=⟨w,h⟩;unfold kQ;rw[dif_pos q,q.choose_spec.eq h]
theorem sk{w:a0d}(h:kQ w=My d):∃D,W3 D w/\d= .lst (D.map i_):=by
 unfold kQ at h;split at h
 .rename_i q
  cases h;exact⟨_,q.choose_spec,rfl⟩
 .cases h
theorem sU:∀{a:a0t},(∀z∈a,c4 K F H (i_ z.1) (.ref z.2))->bb K F H ((a.map (·.1)).map i_) (a.map λz=>V.ref z.2)
 |[],_=>bb.nil
 |z::a,h=>bb.cons (h z MP) (sU λx b=>h x (MJ z b))
end
section
variable{X:Cx}{E:a0r}{af b_ aa:Expr}{ac:List Expr}{ab:a0P}{P:Scope}{ae p ad:Ri}{Nc c_:a0h}{cx:a0a}{g:TG}{tb:a0W}
theorem DY(i:Gl X "sorted")(V:X.mg "sorted"=ME)(o:X.calm=MH)(S:db X P Nc c_ cx)(r:PI X b_ aa (iV X.K it E))
  (t:∀(G:a0m) (C:MK) (j:a0n) (s:MQ) (H:Hp),PG (aI X Nc P G C j s H) b_ g/\eD (aI X Nc P G C j s H) ac (hW X.K tt E0)/\∀D,PB (aI X Nc P G C j s H) (.S af) (⟨b_,aa,ac,0⟩::ab) P ae 0 D (tb D))
  (u:cV X.K g tg) (A:eB tg) (B:∀D,fE X.K (RS X.prog X.w X.K) D (tb D) b) (hs:∀x,NO aa X.env x=OW x:=by intro _;rfl):
  PE X (.Call (.Name "sorted" p) [.SetComp af (⟨b_,aa,ac,0⟩::ab) P ae] [] ad) (tV X.K (im c_.length cx it tg tt b kQ) E):=
 (kX (wk o) i V (by kernel_rfl) (b9 (Hw o S r t hs) f8)).imp λY H Q h=>by
  refine sd (Q:=λv H1=>wK X.prog X.w X.K [v] H1 Q) u A B (λF H D=>⟨[],ao,.nil,λx a=>Nh a (by simp),λd hd=>Nh hd (by simp)⟩) (λos d e=>?_) h λF Z I D os d fr J L e q=>?_
  .obtain⟨ks,s,_⟩:=sk e
   exact⟨ks,s.2.1,s.2.2.2⟩
  .obtain⟨ks,s,rfl⟩:=sk e
   obtain⟨M,N,nd,a,ha⟩:=L;have k:∀x∈M,x.1∈ks:=λx h=>by
    obtain⟨l,f,e⟩:=s.2.2.2 _ (a x h).2;rw[gL e];exact f
   have hn:M.length<64:=by
    have:=mv (m:=ks) nd λy c=>by
     obtain⟨x,h,rfl⟩:=M8.mp c;exact k x h
    rw[MD]at this;have:=s.2.1;lia
   refine⟨D,M,rfl,N,λx h=>?_,hn,λl O f n R=>?_⟩
   .obtain⟨b',e,q⟩:=rM (a x h).1
    cases e;exact⟨q,(s.2.2.1 _ (k x h)).1⟩
   .have T:ks=O.map (·.1):=xJ s.1 R λy=>by
     refine⟨λc=>?_,λc=>?_⟩
     .obtain⟨k2,U,e⟩:=ha _ (s.2.2.1 y c).2
      rw[gL e];exact(n.map (·.1)).mem_iff.mpr U
     .obtain⟨x,h,rfl⟩:=M8.mp ((n.map (·.1)).mem_iff.mp c)
      exact k x h
    rw[T]at q;exact q _ _ (fr.upd _ f) (c4.newL fr f (sU λz W=>(a z (n.mem_iff.mp W)).1))
end
end L2.Pu
namespace L2.Hs
section
variable{J:Ny}{w:NC}{A:NX}{E:a0e}{s:MQ}
def Im(J:Ny)(w:NC)(h:NS)(k:f_)(a:MK):Prop:=∃o n t b,h.get? a=My o/\o.cls= .type "tuple"/\o.data= .seq #[.int k.1 t,.ref b] n/\(i4 J w).is h k.2 b
theorem Im.ty(x:Im J w s.heap k a):s.TypeIs (.ref a) "tuple":=let ⟨o,_,_,_,ho,hc,_⟩:=x;⟨o,ho,hc⟩
theorem Im.inj(f:Im J w h x a)(g:Im J w h y a):x=y:=by
 obtain⟨o,n,t,b,i,_,s,j⟩:=f;obtain⟨k,p,A,q,d,_,c,e⟩:=g;obtain rfl:o=k:=Np (i.symm.trans d);rw[s]at c;simp only[Data.seq.injEq,Array.mk.injEq,Qp,Qm.injEq,M6.injEq]at c;obtain⟨⟨⟨l,_⟩,m,_⟩,_⟩:=c;subst m;exact QD l ((i4 J w).inj j e)
theorem Ks(k:a0c):hsh J w k=hI k:=by unfold hsh hI;show tupleKeyHash _ _=_;unfold tupleKeyHash;rfl
theorem Kt{k:f_}(g:A.units+1<Sa)(f:Im J w s.heap k a)(h:Q (hB MH k) {s with toks:=s.toks+(k.2.length+3)}):M0 (Nj J w) A (pyHash (.ref a)) Q E s:=by
 have c:=f.ty;obtain⟨o,n,t,b,i,_,G,j⟩:=f;unfold pyHash
 first|unfold pyHashByItsType|skip
 refine MC (wpAny_cRoomFor_or (.inr (by lia)) ?_);refine MC (PF c F.slot_tuple_hash.lookup ?_);show M0 _ _ (if(My (Value.builtin "tuple.__hash__")==My NK)=MH then _ else _) Q E s;rw[MS (by rw[beq_builtin_none];exact MT)];refine MC (PF c F.slot_tuple_hash.lookup ?_);show M0 _ _ (callSpecialIfBoundUnlessNone? (.ref a) "__hash__" _>>=_) Q E s;refine MC (wpAny_callSpecialIfBoundUnlessNone?_slot c F.slot_tuple_hash (NQ F.slot_tuple_hash c F.entry_tuple_hash ?_ (F.args_tuple_hash_1 _)));show M0 _ _ (Builtin.Tuple.tupleItemsOf (.ref a)>>=_) _ _ s;refine MC (T7 i G ?_);refine MC ?_;rw[<-QE];simp only[P9,Ql];refine MC (MC (wpAny_pyHash_int ?_));refine MF (MC (MC ((i4 J w).pyHash g j ?_)));refine MF (MF ?_);have D:Q (hB MH k) {s with toks:=s.toks+1+(k.2.length+1)+1}:=by
  have e:s.toks+1+(k.2.length+1)+1=s.toks+(k.2.length+3):=by lia
  rw[e];exact h
 refine wpAny_ret_mkInt ?_;generalize l:Q7 _=z;have m:hB MH k=reduceHash z:=by rw[<-l,show(i4 J w).hash k.2=hI k.2 from Ks k.2];rfl
 rw[m]at D;show M0 _ _ (if(decide (-(2:Int)^63<=z)&&decide (z<2^63))=MH then _ else _) Q E _;unfold reduceHash at D;by_cases d:(decide (-(2:Int)^63<=z)&&decide (z<2^63))=MH
 .rw[MU d]
  rw[MU d]at D;exact MF D
 .rw[MS d]
  rw[MS d]at D;exact MC (QB (MF D))
theorem Zi(q:A.units+1<Sa)(d:Im J w s.heap x a)(f:Im J w s.heap y b)(h:Q (decide (x=y)) s):M0 (Nj J w) A (eqBool (.ref a) (.ref b)) Q E s:=by
 unfold eqBool
 try with_reducible refine Om ?_
 show M0 _ _ (if(M6 a==M6 b)=MH then _ else _) Q E s;by_cases c:(M6 a==M6 b)=MH
 .rw[MU c]
  have e:a=b:=by have:=eq_of_beq c;injection this
  subst e;obtain rfl:=d.inj f;exact MC (QB (MF (by simpa using h)))
 .rw[MS c]
  refine MC (wpAny_richCompare_same_room (op:= .Eq) d.ty f.ty F.slot_tuple_eq
   (NQ F.slot_tuple_eq d.ty F.entry_tuple_eq ?_ (F.args_tuple_eq_2 _ _)) (by lia))
  have j:=f.ty;obtain⟨r,t,u,v,k,_,l,m⟩:=d;obtain⟨B,C,H,I,n,_,o,p⟩:=f;show M0 _ _ (Sb (.ref b) (.type "tuple")>>=_) _ _ s;refine MC (Pk j Td ?_);simp only[Pd,Na,N1];refine MC (T7 k l ?_);refine MC (T7 n o ?_);refine MC ?_;simp only[OZ,TH,P9,Ql];refine MC (MC ((SX J w).eqBool (a:=x.1) (b:=y.1) (by simp[SX,Vn]) (by simp[SX,Vn]) ?_));by_cases g:x.1=y.1
  .rw[M3 g]
   refine MF (MC (MC ((i4 J w).eqBool q m p ?_)));by_cases i:x.2=y.2
   .rw[M3 i]
    rw[M3 (QD g i)]at h;exact MF (MF (MF ⟨_,rfl,(λe=>nomatch e),N8 h⟩))
   .rw[Nw i]
    rw[Nw (λe=>i (N6 _ e))]at h;exact MC (MF (MF (MF (MF ⟨_,rfl,(λe=>nomatch e),N8 h⟩))))
  .rw[Nw g]
   rw[Nw (λe=>g (N6 _ e))]at h;exact MC (MF (MF (MF (MF ⟨_,rfl,(λe=>nomatch e),N8 h⟩))))
theorem Hm(f:(i4 J w).is s.heap k a)(h:Q MH s):M0 (Nj J w) A (Wz (m+1) (.ref a)) Q E s:=by
 have g:=UY f;obtain⟨o,c,n,i,_,K,j⟩:=f;unfold Wz;refine MC (PF g F.slot_tuple_eq.lookup ?_);show M0 _ _ (Sb (.ref a) (.type "tuple")>>=_) _ _ s;refine MC (Pk g Td ?_);simp only[Pd,Na,N1];refine MC (OP i K ?_);refine MC ?_;show M0 _ _ (forIn c _ _) _ _ s;rw[<-QE];refine SL _ (λD r G=>r.1=ME/\G=s/\∀v∈D,carriedByValue v=MH) _ ?_ ?_ _ _ ⟨rfl,rfl,j.byValue⟩
 .rintro v D r G ⟨d,rfl,b⟩
  rw[eqIsQuiet_byValue _ (b v MP)];refine MC (MF ?_);simp only[Pd,Na,N1];exact MF ⟨rfl,rfl,λu e=>b u (MJ _ e)⟩
 .rintro⟨r1,l⟩ G ⟨d,rfl,_⟩
  simp only at d;subst d;exact MF h
theorem Hn(c:Im J w s.heap k a)(h:Q MH s):M0 (Nj J w) A (Wz 8 (.ref a)) Q E s:=by
 have d:=c.ty;obtain⟨o,n,t,b,e,_,D,f⟩:=c;unfold Wz;refine MC (PF d F.slot_tuple_eq.lookup ?_);show M0 _ _ (Sb (.ref a) (.type "tuple")>>=_) _ _ s;refine MC (Pk d Td ?_);simp only[Pd,Na,N1];refine MC (OP e D ?_);refine MC ?_;show M0 _ _ (forIn #[Qm k.1 t,M6 b] _ _) _ _ s;rw[<-QE];simp only[P9,Ql];rw[eqIsQuiet_byValue _ (v:= .int k.1 t) rfl];exact MC (MC (MF (MF (MC (MC (Hm (m:=6) f (MF (MF (MF h)))))))))
def PKd(J:Ny)(w:NC):HeapKind J w f_ where
 is:=Im J w
 hash:=hB MH
 draws:=λk=>k.2.length+3
 room:=λA=>A.units+1<Sa
 inj:=λd e=>d.inj e
 keeps:=λx i s D=>by
  obtain⟨j,n,t,b,c,l,a,m⟩:=x;refine⟨j,n,t,b,(D.2 _ ?_).trans c,l,a,(i4 J w).keeps m i s D⟩;rintro rfl;obtain rfl:=Np (c.symm.trans i);rw[s]at a;exact nomatch a
 pyHash:=λf g h=>Kt f g h
 eqBool:=λf d e h=>Zi f d e h
 quiet:=λg h=>Hn g h
def FKd(J:Ny)(w:NC):HeapKind J w f_ where
 is:=λh k a=>k.1=0/\(i4 J w).is h k.2 a
 hash:=hB ML
 draws:=λk=>k.2.length+1
 room:=λA=>A.units+1<Sa
 inj:=λc d=>QD (c.1.trans d.1.symm) ((i4 J w).inj c.2 d.2)
 keeps:=λx i D G=>⟨x.1,(i4 J w).keeps x.2 i D G⟩
 pyHash:=λf g h=>(i4 J w).pyHash (Nat.lt_of_succ_lt f) g.2 h
 eqBool:=λ{A E s x y a b Q} f c d h=>(i4 J w).eqBool (Nat.lt_of_succ_lt f) c.2 d.2 (by
  have e:decide (x.2=y.2)=decide (x=y):=by
   by_cases q:x.2=y.2
   .rw[M3 q,M3 (QD (c.1.trans d.1.symm) q)]
   .rw[Nw q,Nw (λz=>q (N6 _ z))]
  rw[e];exact h)
 quiet:=λg h=>(i4 J w).quiet g.2 h
def KB(J:Ny)(w:NC):Bool->HeapKind J w f_
 |true=>PKd J w
 |false=>FKd J w
theorem w9{b:Bool}:(KB J w b).hash=hB b:=by cases b<;>rfl
theorem nE{b:Bool}{A:NX}(h:A.units+1<Sa):(KB J w b).room A:=by cases b<;>exact h
def B6(K:M9)(H:Hp):Bool->f_->MK->Prop
 |true,k,c=>∃e,hY K H c [.int k.1,.ref e]/\hY K H e (k.2.map V.int)
 |false,k,c=>k.1=0/\hY K H c (k.2.map V.int)
abbrev XY(x:f_×MK×V)(y:f_×MK×MO):Prop:=x.1=y.1/\x.2.1=y.2.1/\aN x.2.2 y.2.2
theorem qV:∀{s:a0w} {w:a0G},T3 XY s w->s.map (·.1)=w.map (·.1)
 |_,_,.nil=>rfl
 |_,_,.cons h t=>by rw[MZ,MZ,h.1,qV t]
theorem zm:∀{s:a0w} {w:a0G},T3 XY s w->∀y∈w,∃x∈s,XY x y
 |_,_,.nil,y,h=>by cases h
 |_,_,.cons (a:=a) h t,y,hy=>by
  rcases M4.mp hy with rfl|hy
  .exact⟨a,MP,h⟩
  .obtain⟨x,b,e⟩:=zm t y hy
   exact⟨x,MJ _ b,e⟩
noncomputable def sB(s:a0w)(k:f_):Option V:=(s.find? λx=>decide (x.1=k)).map (·.2.2)
theorem mV:∀{s:a0w} {w:a0G},T3 XY s w->iK (sB s k) ((UW w k).map (·.2))
 |_,_,.nil=>by simp[sB,UW,iK]
 |_,_,.cons (a:=a) (b:=b) h t=>by
  have A:=mV (k:=k) t;unfold sB UW at A⊢;rw[P8,P8,<-h.1];by_cases q:a.1=k
  .rw[M3 q];exact h.2.2
  .rw[Nw q];exact A
theorem wl(h:XY x y):∀{s:a0w} {w:a0G},T3 XY s w->T3 XY (s++[x]) (w++[y])
 |_,_,.nil=> .cons h .nil
 |_,_,.cons h' t=> .cons h' (wl h t)
variable{X:Cx}{P:a0b}{z:St}{H:Hp}
theorem qz{b:Bool}(I:cy X P z H s)(h:B6 X.K H b k c):(KB X.prog X.w b).is s.heap k c:=by
 cases b with
 |true=>
  obtain⟨e,a,d⟩:=h;obtain⟨A,f,⟨o,g,i,n,D⟩,_⟩:=I.tuple a;obtain⟨j,l,rfl,⟨t,rfl⟩,rfl⟩:=tP f;exact⟨o,n,t,e,g,i,D,nP I d⟩
 |false=>exact⟨h.1,nP I h.2⟩
theorem W1{P:a0b}{z:St}{H:Hp}{s:MQ}(I:cy X P z H s):T4<s.heap.objs.size:=Ry (by decide) (show O0<s.heap.objs.size from(I.mod.glob.keeps I.bk).lt)
theorem mI{b:Bool}(I:cy X P z H s)(d:H a=My (dU a b r q))(e:∀x∈q,B6 X.K H b x.1 x.2.1):∃A,s.heap.DictOfH (KB X.prog X.w b) a A/\T3 XY q A/\A.length<=M1/\(a==T4)=ML:=by
 obtain⟨o,D,A,f,g,h,i,h5,j,k,c⟩:zi a b r q s.heap:=(I.hok a _ d).1;refine⟨A,⟨o,D,r,f,g,h,?_,λy l=>?_,h5⟩,c,k,j⟩
 .rw[i];unfold entryOfKey;rw[w9]
 .obtain⟨x,m,n,p,_⟩:=zm c y l
  rw[<-n,<-p];exact qz I (e x m)
def Jm(K:M9):R2:=λx y H Q=>∃a b w s k c v,x= .ref a/\y= .ref c/\H a=My (dU a b w s)/\(∀x∈s,B6 K H b x.1 x.2.1)/\B6 K H b k c/\sB s k=My v/\Q v H
theorem BW(l:X.A.units+2<Sa):Ic X (Jm X.K):=by
 intro g i P s z H x y v u Q I m n h w;obtain⟨a,b,G,M,k,c,o,rfl,rfl,t,B,C,J,q⟩:=h;cases m;cases n;obtain⟨D,d,p,_,_⟩:=mI I t B;have f:=mV (k:=k) p;rw[J]at f;cases e:UW D k with
 |none=>rw[e]at f;exact f.elim
 |some r=>
  rw[e]at f;exact SY (x:=r.2) d.typeIs PySem.F.slot_dict_getitem.lookup (wpAny_getItem_heap (Q:=λj E=>j=r.2/\EP X P z Q j E) (nE l) (qz I C) d e ⟨rfl,o,H,I.tok _,f,q⟩) w
theorem vg{b:Bool}:X0 X newDict λD=>dU D b 0 []:=λP s z H E Q I h=>Oj (h _ (I.laid (t':=s.toks) (λ_ _ q=>MG _ q) (MW _) (xu ⟨_,#[],[],M7 _ rfl,⟨rfl,rfl,rfl⟩,rfl,rfl,.nil,beq_eq_false_iff_ne.mpr (Ne.symm (NM (W1 I))),N2 _,.nil⟩)) λb o e=>MG _ e)
def DG(K:M9)(b:Bool)(D:MK)(e f:TE):TB:=λz H Q=>e z H λx w=>f z w λy a=>∃A s k c,x= .ref c/\a D=My (dU D b A s)/\(∀x∈s,B6 K a b x.1 x.2.1)/\B6 K a b k c/\k∉s.map (·.1)/\s.length<M1/\∀d,Q z (upd a D (dU D b d (s++[(k,c,y)])))
theorem kY{D:MK}{b:Bool}(L:X.A.units+1<Sa)(N:gens[d+1]?=ME)(O:PE X ke tk)(R:PE X ve tv)(a:X.xe=λ_ _=>False):PB X (.D ke ve) gens scope pos d D (DG X.K b D tk tv):=by
 intro P s z H Q I h k Q' E' T;unfold iu;rw[N];show M0 _ _ (XS (.D ke ve) (.ref D) X.env>>=λ_=>k) _ _ _;unfold XS;have t:=O P s z H _ I h;rw[a]at t;refine MC (MC (NI t (λu U W=>?_) λ_ _ f=>f.elim));obtain⟨v,G,Y,r,M⟩:=W;have B:=R P U z G _ Y M;rw[a]at B;refine MC (Om (NI B (λu2 s2 Z=>?_) λ_ _ f=>f.elim));obtain⟨v2,H2,i,S,V,xs,j,c,rfl,C,hx,hc,hn,hl,q⟩:=Z;cases r;obtain⟨w,dd,p,hz,l⟩:=mI i C hx;have F:=qV p;have e0:UW w j=ME:=by
  cases e:UW w j with
  |none=>rfl
  |some r=>
   exfalso
   unfold UW at e;cases m:w.find? (λx=>decide (x.1=j))with
   |none=>rw[m]at e;cases e
   |some y=>
    have:=List.find?_some m;exact hn (by rw[F];exact M8.mpr ⟨y,List.mem_of_find?_eq_some m,O5 this⟩)
 refine MC (OQ (Om (wpAny_dictSet_heap (nE L) (qz i hc) dd (λh' E sb=>?_) hz)));rw[storedH_new e0]at E;obtain⟨o,es,ep,J,g2,g3,g4,g5,g6⟩:=E;have g:w.length=xs.length:=by rw[<-MD (f:=(·.1)),<-F,MD]
 refine T _ z _ (i.write (by rw[C];trivial) (.inl rfl) (λb u n e=>(sb.2 b n).trans e) ⟨o,J⟩ (xu ⟨o,es,_,J,g2,g3,?_,g6,l,?_,wl ⟨rfl,rfl,S⟩ p⟩)) (q ep)
 .rw[g4];unfold entryOfKey;rw[w9]
 .rw[Nb,g,N7];lia
theorem EN{b:Bool}{k l a d:Expr}{f:List Expr}{G:a0P}{E:Scope}{K:Ri}{i c_:a0h}{cx:a0a}{g:TG}{tt:TT}{p:a0W}{r:TI}(t:X.calm=MH)(S:db X E i c_ cx)(u:PI X a d r)
  (y:∀(M:a0m) (C:MK) (j:a0n) (s:MQ) (H:Hp),PG (aI X i E M C j s H) a g/\eD (aI X i E M C j s H) f tt/\∀D,PB (aI X i E M C j s H) (.D k l) (⟨a,d,f,0⟩::G) E K 0 D (p D))
  (hs:∀x,NO d X.env x=OW x:=by intro _;rfl):PE X (.DictComp k l (⟨a,d,f,0⟩::G) E K) (lW (λD=>dU D b 0 []) c_ cx r λD J=>dB J g tt (p D)):=by
 intro P s z H Q I h;refine PX (use:=ME) rfl hs (S.clo I.ok) S.kind S.loc (NI (u P s z H _ I h) (λv Y B=>NI B (λF Z L=>?_) λ_ _ x=>x) λ_ _ x=>x);obtain⟨it,j,tn,J,H2,e,N,T,n,f2,q⟩:=L;subst e;refine ir (c:= .D k l) vg (RR:=λV C=>Vs (Nj X.prog X.w) X.A X.xe ME _ V C) t S y N T n f2 q λD C s' O m R ns U W=>?_;exact⟨m,ns,λh' o=>⟨.ref D,O,R.letgo U o,rfl,W⟩⟩
end
end L2.Hs
namespace L2.Pu
open L2.Hs
def dK:Bool->f_->D
 |true,k=> .tup [.int k.1,i_ k.2]
 |false,k=>i_ k.2
def B4(b:Bool)(k:f_):Prop:=b=ML->k.1=0
theorem KI{b:Bool}(a:B4 b k)(c:B4 b l)(h:dK b k=dK b l):k=l:=by
 cases b with
 |true=>
  simp only[dK,D.tup.injEq,Qp,D.int.injEq,and_true]at h;exact QD h.1 (gL (N6 D.tup h.2))
 |false=>exact QD ((a rfl).trans (c rfl).symm) (gL h)
section
variable{K:M9}{F:Fx}{H:Hp}{E:a0r}
theorem vS(h:c4 K F H (.tup b) v):∃a w,v= .ref a/\TQ K F H a w/\bb K F H b w:=by
 unfold c4 at h;exact h
theorem pJ(h:TQ K F H a b)(w:bb K F H c b):c4 K F H (.tup c) (.ref a):=by
 unfold c4;exact⟨a,b,rfl,h,w⟩
theorem TQ.sq(h:TQ K F H c a):hY K H c a:=h.imp (·.2) id
theorem gW.s{b:Bool}(h:gW K F H b k c):B6 K H b k c:=by
 cases b with
 |true=>
  obtain⟨e,a,d⟩:=h;exact⟨e,a.sq,d.sq⟩
 |false=>exact⟨h.1,h.2.sq⟩
theorem gW.z{b:Bool}(h:gW K F H b k c):B4 b k:=λe=>by subst e;exact h.1
theorem ua{b:Bool}(g:B4 b k)(h:c4 K F H (dK b k) v):∃c,v= .ref c/\gW K F H b k c:=by
 cases b with
 |true=>
  obtain⟨a,w,rfl,q,d⟩:=vS h;obtain⟨i,j,rfl,D,E⟩:=bb.two d;cases D.int;obtain⟨e,M,rfl,G,f⟩:=vS E;cases bb.ints k.2 f;exact⟨a,rfl,e,q,G⟩
 |false=>
  obtain⟨a,w,rfl,q,d⟩:=vS h;cases bb.ints k.2 d;exact⟨a,rfl,g rfl,q⟩
theorem Lx{b:Bool}(h:gW K F H b k c):c4 K F H (dK b k) (.ref c):=by
 cases b with
 |true=>
  obtain⟨e,a,d⟩:=h;exact pJ a (bb.cons rfl (bb.cons (pJ d (bb.ofInts k.2)) bb.nil))
 |false=>exact pJ h.2 (bb.ofInts k.2)
abbrev y_(b:Bool)(p:f_×D):D:= .tup [dK b p.1,p.2]
def Dk(b:Bool)(w:List (f_×D))(E:a0d):Prop:=E=w.map (y_ b)/\(w.map (·.1)).Nodup/\w.length<=M1/\∀p∈w,B4 b p.1
theorem HC{b:Bool}{p q:f_×D}(a:B4 b p.1)(c:B4 b q.1)(h:y_ b p=y_ b q):p=q:=by
 simp only[y_,D.tup.injEq,Qp,and_true]at h;exact QD (KI a c h.1) h.2
theorem kZ{b:Bool}:∀{l m:List (f_×D)},(∀p∈l,B4 b p.1)->(∀p∈m,B4 b p.1)->l.map (y_ b)=m.map (y_ b)->l=m
 |[],[],_,_,_=>rfl
 |[],_::_,_,_,h=>by cases h
 |_::_,[],_,_,h=>by cases h
 |p::l,q::m,hl,hm,h=>by
  rw[MZ,MZ,Qp]at h;rw[HC (hl p MP) (hm q MP) h.1,kZ (λx a=>hl x (MJ _ a)) (λx a=>hm x (MJ _ a)) h.2]
theorem Dk.eq{b:Bool}{w:a0d}(x:Dk b l w)(y:Dk b m w):l=m:=kZ x.2.2.2 y.2.2.2 (x.1.symm.trans y.1)
open Classical in
def lA(b:Bool)(D:a0d):a0k:=if h:∃w,Dk b w D then My (.dct b (h.choose.map (·.1)) (h.choose.map (·.2)))else ME
theorem xv{b:Bool}{kvs:List (f_×D)}{w:a0d}(h:Dk b kvs w):lA b w=My (.dct b (kvs.map (·.1)) (kvs.map (·.2))):=by
 have q:∃kvs,Dk b kvs w:=⟨kvs,h⟩;unfold lA;rw[dif_pos q,q.choose_spec.eq h]
theorem vU{b:Bool}{D:a0d}(h:lA b D=My d):∃w,Dk b w D/\d= .dct b (w.map (·.1)) (w.map (·.2)):=by
 unfold lA at h;split at h
 .rename_i q
  cases h;exact⟨_,q.choose_spec,rfl⟩
 .cases h
noncomputable def RD(K:M9)(b:Bool):AR where
 R:=λF H D M=>∃G,∃a:List ((f_×Pu.D)×MK×V),M=a.map (λz=>y_ b z.1)/\H D=My (dU D b G (a.map λz=>(z.1.1,z.2)))/\∀z∈a,gW K F H b z.1.1 z.2.1/\c4 K F H z.1.2 z.2.2
 Z:=λl=>∃E w,Dk b E (l++w)
 tr:=λh k t=>by
  obtain⟨G,a,e,f,c⟩:=h;exact⟨G,a,e,k _ f,λz d=>⟨(c z d).1.tr t,c4.tr t _ _ (c z d).2⟩⟩
 zp:=λh=>by
  obtain⟨E,w,h⟩:=h;exact⟨E,_,by rw[<-N4];exact h⟩
def FH(f g:FD):FL:=λw=>M.bind (f w) λk=>M.bind (g w) λv=>M.ret [.tup [k,v]]
theorem o5{b:Bool}{D:MK}:fE K (RD K b) D (DG K b D (tV K f E0) (tV K g E0)) (FH f g):=λF H P β I σ as os Q fr hA B J hR e hz k=>by
 obtain⟨ep,d,rfl,hD,C⟩:=hR;obtain⟨W,G,e1,e2⟩:=M.bind_inv e;obtain⟨X,aa,e3,e4⟩:=M.bind_inv e2;cases e4;obtain⟨w,S,L,Y,z3,Z⟩:=hz;have N:∀p∈d.map (·.1),B4 b p.1:=λp r=>by
  obtain⟨z,h,rfl⟩:=M8.mp r;exact(C z h).1.z
 have O:d.length<w.length:=by
  have:=N6 SR L;simp at this;lia
 have ez:(d.map (·.1)).map (y_ b)=(w.take d.length).map (y_ b):=by
  rw[S9,<-L,N4,List.take_append_of_le_length (by simp),P3 (by simp),MV];rfl
 have ek:=kZ N (λp r=>Z p (List.mem_of_mem_take r)) ez;have R:y_ b w[d.length]= .tup [W,X]:=by
  have V:(w.map (y_ b))[d.length]?=My (.tup [W,X]):=by
   rw[<-L,N4,OU (by simp)];simp
  rw[MM,MI O]at V;exact Np V
 have u:=Z _ (NB O);generalize r:w[d.length]=p at R u;obtain⟨j,vv⟩:=p;simp only[y_,Pu.D.tup.injEq,Qp,and_true]at R;obtain⟨rfl,rfl⟩:=R;have y:j∉d.map (·.1.1):=λhm=>by
  have h2:w.take d.length++(j,vv)::w.drop (d.length+1)=w:=by
   rw[<-r,<-NR O,Qd]
  rw[<-h2,<-ek,NH,MZ,TF]at Y;refine Y.2.2 j ?_ j MP rfl;rw[MV];exact hm
 refine⟨F,P,β,fr,J,E0.run e1 λv H1 t hv=>⟨F,P,G,t.fr,J.tr (t.tr fr),E0.run e3 λv2 H2 m T=>?_⟩⟩;have U:=c4.tr (m.tr t.fr) _ _ hv;obtain⟨c,rfl,kc⟩:=ua u U;have i:=(t.tr fr).trans (m.tr t.fr);refine⟨ep,_,j,c,rfl,m.kp D _ (t.kp D _ hD B) B,λx h=>?_,kc.s,?_,?_,λA=>?_⟩
 .obtain⟨z,h',rfl⟩:=M8.mp h
  exact((C z h').1.tr i).s
 .rw[MV];exact y
 .rw[MD];lia
 have tD:l9 F D H2 (upd H2 D (dU D b A ((d.map λz=>(z.1.1,z.2))++[(j,c,v2)]))) I:=by
  refine⟨λa o h n _=>by rw[bt n];exact h,λa h q=>?_,fr.bgA,λb l q=>?_⟩
  .by_cases z:a=D
   .subst z;rw[ao]at q;cases q
   .rw[bt z]at q;exact m.fr.occ a h q
  .rw[bt (B b l q).1.symm,bt (B b l q).2.symm]
   exact m.fr.bag b l q
 have E:=tD.tr m.fr hA;refine k σ _ (((t.trans m).toD D).trans tD) (J.tr (i.trans E)) ⟨A,d++[((j,vv),c,v2)],by rw[NH];rfl,by rw[NH];exact ao,λz h=>?_⟩;rcases NP.mp h with h|h
 .exact⟨(C z h).1.tr (i.trans E),c4.tr (i.trans E) _ _ (C z h).2⟩
 .cases Nq.mp h
  exact⟨kc.tr E,c4.tr E _ _ T⟩
theorem vT{F:Fx}{H:Hp}{w:Type}{f:w->D}{g:w->V}:∀{a:List w},(∀z∈a,c4 K F H (f z) (g z))->bb K F H (a.map f) (a.map g)
 |[],_=>bb.nil
 |z::a,h=>bb.cons (h z MP) (vT λx b=>h x (MJ z b))
end
theorem vR{K:M9}{E:a0r}{kb:Bool}{G:a0h}{M:a0a}{g:TG}{f:a0W}{P:FL}{w:lI}{S:a0q}{b:FL}(j:cV K g w)(k:eB w)(l:∀D,fE K (RD K kb) D (f D) b){i:St}{H:Hp}{Q:VK}(h:tV K (im G.length M P w S b (lA kb)) E i H Q):
  lW (λD=>dU D kb 0 []) G M (iV K P E) (λD J=>dB J g (hW K S E0) (f D)) i H Q:=by
 refine sd j k l (λF H D=>⟨0,[],rfl,ao,λx a=>Nh a (by simp)⟩) (λV d e=>?_) h λF v m D V d fr c n e q=>?_
 .obtain⟨kvs,s,_⟩:=vU e
  exact⟨kvs,[],by rw[NJ];exact s⟩
 .obtain⟨kvs,s,rfl⟩:=vU e
  obtain⟨y,o,rfl,r,a⟩:=n;have t:kvs=o.map (·.1):=kZ s.2.2.2 (λp u=>by
   obtain⟨z,h,rfl⟩:=M8.mp u;exact(a z h).1.z) (by rw[<-s.1,MV];rfl)
  refine q _ _ (To.refl fr) ?_;unfold c4;subst t;refine⟨D,y,_,rfl,⟨c,r⟩,by simp,λx h=>?_,?_⟩
  .obtain⟨z,h',rfl⟩:=M8.mp h
   exact(a z h').1
  .rw[MV,MV]
   exact vT λz h=>(a z h).2
section
variable{X:Cx}{E:a0r}{J B t m:Expr}{p:List Expr}{n:a0P}{l:Scope}{q:Ri}{u N:a0h}{L:a0a}{g:TG}{I:a0W}
theorem G2{kb:Bool}(c:X.calm=MH)(S:db X l u N L)(d:PI X t m (iV X.K r E))
  (e:∀(w:a0m) (C:MK) (a:a0n) (s:MQ) (H:Hp),PG (aI X u l w C a s H) t g/\eD (aI X u l w C a s H) p (hW X.K v E0)/\∀D,PB (aI X u l w C a s H) (.D J B) (⟨t,m,p,0⟩::n) l q 0 D (I D))
  (f:cV X.K g o) (i:eB o) (j:∀D,fE X.K (RD X.K kb) D (I D) b) (G:∀x,NO m X.env x=OW x:=by intro _;rfl):
  PE X (.DictComp J B (⟨t,m,p,0⟩::n) l q) (tV X.K (im N.length L r o v b (lA kb)) E):=
 (EN (b:=kb) c S d e G).imp λk H Q h=>vR f i j h
noncomputable def iB:a0d->Option a0c
 |[]=>My []
 | .int i::r=>(iB r).map (i::·)
 |_=>ME
def iH:Bool->D->Option f_
 |false,.tup ds=>(iB ds).map λl=>(0,l)
 |true,.tup [.int i,.tup ds]=>(iB ds).map λl=>(i,l)
 |_,_=>ME
theorem qX:∀(l:a0c),iB (l.map .int)=My l
 |[]=>rfl
 |i::l=>by show(iB (l.map .int)).map _=_;rw[qX l];rfl
theorem lm:∀{n:a0d} {l:a0c},iB n=My l->n=l.map .int
 |[],l,h=>by cases h;rfl
 | .int i::r,l,h=>by
  have g:(iB r).map (i::·)=My l:=h;cases q:iB r with
  |none=>rw[q]at g;cases g
  |some m=>rw[q]at g;cases g;rw[lm q];rfl
 | .non::_,_,h=>by cases h
 | .bl _::_,_,h=>by cases h
 | .str _::_,_,h=>by cases h
 | .ty _::_,_,h=>by cases h
 | .txt::_,_,h=>by cases h
 | .lst _::_,_,h=>by cases h
 | .tup _::_,_,h=>by cases h
 | .scr _::_,_,h=>by cases h
 | .obj _ _ _::_,_,h=>by cases h
 | .bag::_,_,h=>by cases h
 | .adr _::_,_,h=>by cases h
 | .dct _ _ _::_,_,h=>by cases h
theorem rB{b:Bool}(h:B4 b k):iH b (dK b k)=My k:=by
 cases b with
 |true=>show(iB _).map _=_;rw[qX];rfl
 |false=>show(iB _).map _=_;rw[qX];exact N6 My (QD (h rfl).symm rfl)
theorem o6{b:Bool}(h:iH b d=My k):B4 b k/\d=dK b k:=by
 unfold iH at h;split at h
 .rename_i ds
  cases q:iB ds with
  |none=>rw[q]at h;cases h
  |some l=>rw[q]at h;cases h;exact⟨λ_=>rfl,by rw[lm q];rfl⟩
 .rename_i i ds
  cases q:iB ds with
  |none=>rw[q]at h;cases h
  |some l=>rw[q]at h;cases h;exact⟨λz=>(by cases z),by rw[lm q];rfl⟩
 .cases h
noncomputable def lp(g:List f_)(l:a0d)(k:f_):a0k:=((g.zip l).find? λp=>decide (p.1=k)).map (·.2)
variable{K:M9}{F:Fx}{H:Hp}
def ZN(K:M9)(F:Fx)(H:Hp):a0k->Option V->Prop
 |none,v=>v=ME
 |some d,v=>∃u,v=My u/\c4 K F H d u
theorem qx:∀{l:a0w} {g:a0d},bb K F H g (l.map (·.2.2))->ZN K F H (lp (l.map (·.1)) g k) (sB l k)
 |[],g,_=>by unfold lp sB;rfl
 |x::l,g,h=>by
  cases g with
  |nil=>cases h
  |cons d g=>
   obtain⟨u,r,e,a,b⟩:=h;rw[MZ,Qp]at e;obtain⟨rfl,rfl⟩:=e;have m:=qx (k:=k) b;unfold lp sB at m⊢;rw[MZ,OZ,P8,P8];by_cases q:x.1=k
   .rw[M3 q];exact⟨_,rfl,a⟩
   .rw[Nw q];exact m
def FC:D->D->a0k
 | .dct b ks vs,y=>(iH b y).bind (lp ks vs)
 |_,_=>ME
theorem LL:bn K (Jm K) FC:=λF H D Q E g d y A fr h i e k=>by
 unfold FC at e;split at e
 .rename_i b ks vs
  cases q:iH b g with
  |none=>rw[q]at e;cases e
  |some f=>
   rw[q]at e;have j:lp ks vs f=My d:=e;obtain⟨l,rfl⟩:=o6 q;obtain⟨c,rfl,m⟩:=ua l i;unfold c4 at h;obtain⟨a,w,B,rfl,n,rfl,o,p⟩:=h;have:=qx (k:=f) p;rw[j]at this;obtain⟨u,r,t⟩:=this;exact⟨a,b,w,B,f,c,u,rfl,rfl,n.2,λx v=>(o x v).s,m.s,r,k u H (To.refl fr) t⟩
 .cases e
def Lo(K:M9):V->a0i->Hp->VK->Prop:=λx l H Q=>∃a b m g k c z,x= .ref a/\l=[.ref c,z]/\H a=My (dU a b m g)/\(∀x∈g,B6 K H b x.1 x.2.1)/\B6 K H b k c/\Q ((sB g k).getD z) H
variable{o e:Expr}{es:List Expr}{P w:Ri}
theorem HJ(n:X.A.units+2<Sa):MtR X "dict.get" (Lo X.K):=by
 intro l s N H x D v E Q I r t h;obtain⟨a,b,G,e,k,c,z,rfl,rfl,u,B,C,q⟩:=h;cases r;obtain⟨O,J,rfl,g,L⟩:=tP t;cases g;obtain⟨j,d,p,_,o⟩:=mI I u B;have f:=mV (k:=k) p;refine call_meetsIn UU d.typeIs PySem.F.entry_dict_get (PySem.F.args_dict_get_3 _ _ _) (meetsH_dict_get_default (KB X.prog X.w b) a c o J) ⟨nE n,k,j,qz I C,d,_,H,I.tok _,?_,q⟩;cases m:sB e k with
 |none=>
  rw[m]at f;cases i:(UW j k).map (·.2)with
  |none=>exact L
  |some w=>rw[i]at f;exact f.elim
 |some y=>
  rw[m]at f;cases i:(UW j k).map (·.2)with
  |none=>rw[i]at f;exact f.elim
  |some w=>rw[i]at f;exact f
def Ft(f:FD)(g:FL):FD:=λe=>M.bind (f e) λd=>match d with
 | .dct b ks vs=>M.bind (g e) λl=>M.ofO (match l with
  |[k,z]=>(iH b k).map λk=>(lp ks vs k).getD z
  |_=>ME)
 |_=>M.fail
theorem Lc{g:FL}(hu:X.A.units+2<Sa)(ho:PE X o (tV X.K f E))(ha:PA X (e::es) (i0 X.K g E))
  (n:QS o "get" X.env (NW o X.env)=NW o X.env:=by rfl)
  (B:((OO w (MY (e::es) X.env)).all (λx=>!x.1)&&(PL w (OJ [] X.env)).all (λx=>x.1.isSome)
   &&decide ((e::es).length+([]:List TC).length+(if([]:List TC).isEmpty then 0 else 1)<30))=MH:=by rfl)
  (p:(P.endLine==w.line)=MH:=by rfl) (hs:b0a X e es:=by rfl) (m:b0b X w es:=by rfl):
  PE X (.Call (.Attribute o "get" P) (e::es) [] w) (tV X.K (Ft f g) E):=by
 intro j s J H Q I h;obtain⟨F,δ,β,fr,vk,h⟩:=h;refine WQ n B p rfl (d5 (ho j s J H _ I ⟨F,δ,β,fr,vk,(run.bind (R:=c4 X.K F) h)⟩) λv s1 h1=>?_);obtain⟨x,H1,I1,r1,d,S,t,hd,q1⟩:=h1;have V:∀{N:M D},N=M.fail->run (c4 X.K F) F E J N H1 Q S->False:=λ{N} e r=>by
  obtain⟨r,ae,e',_⟩:=r;rw[e]at e';cases e'
 cases d<;>first|exact(V rfl q1).elim|skip
 rename_i b ks vs;have C:=hd;unfold c4 at C;obtain⟨a,ep,G,rfl,O,rfl,hk,dl⟩:=C;cases r1;obtain⟨ys,dd,_,_,_⟩:=mI I1 O.2 λx T=>(hk x T).s;refine⟨"dict","dict.get",Uz,UU,PySem.F.type_dict_get,dd.typeIs,λb e=>?_,?_⟩
 .cases e
  obtain⟨ob,_,_,g1,g2,_⟩:=dd;exact⟨ob,g1,g2.2.1⟩
 have hA:=ha w j s1 J H1 _ I1 ⟨F,δ,S,t.fr,vk.tr (t.tr fr),run.bind (R:=bb X.K F) q1⟩;rw[hs]at hA⊢;refine Sj (by show(ML||(OO w (MY es X.env)).any (·.1))=ML;rw[m]<;>rfl) (Ve (d5 hA λus s2 h2=>?_))
 obtain⟨ws,L,I2,r2,as,af,t2,U,q2⟩:=h2;obtain⟨z,y,kf⟩:=run.ofO q2;have tt:=t2.tr t.fr;split at y
 .rename_i k zz
  cases W:iH b k with
  |none=>rw[W]at y;cases y
  |some i=>
   rw[W]at y;cases y;obtain⟨hz,rfl⟩:=o6 W;obtain⟨w1,Y,rfl,Z,aa⟩:=bb.two U;obtain⟨c,rfl,kc⟩:=ua hz Z;have ab:=bb.tr tt _ _ dl;have ac:∀x∈G,B6 X.K L b x.1 x.2.1:=λx T=>((hk x T).tr tt).s;refine HJ hu j s2 J L (.ref a) [.ref c,Y] (.ref a) us Q I2 rfl r2 ⟨a,b,ep,G,i,c,Y,rfl,rfl,tt.kp a _ O.1 O.2,ac,kc.s,?_⟩;refine kf _ L (To.refl t2.fr) ?_;show c4 X.K F L ((lp (G.map (·.1)) vs i).getD zz) ((sB G i).getD Y);have l:=qx (k:=i) ab;cases q:lp (G.map (·.1)) vs i with
   |none=>
    rw[q]at l;have l':sB G i=ME:=l;rw[l'];exact aa
   |some d=>
    rw[q]at l;obtain⟨u,l',ad⟩:=l;rw[l'];exact ad
 .cases y
end
end L2.Pu
namespace L2.Hs
section
variable{P:Ny}{w:NC}{A:NX}{E:a0e}{s:MQ}{d z v:MK}{od:Oa}{es:Array QZ}{ep i:Nat}{ok ov:MO}
theorem zc(a:s.TypeIs (.ref d) "dict")(i:(d==T4)=ML)(h:Q (.ref s.heap.objs.size) {s with heap:=s.heap.push {cls:= .type "dict_items",data:= .fields #[.ref d]}}):M0 (Nj P w) A (SC (.builtin "dict.items") [.ref d]) Q E s:=by
 refine NQ F.slot_dict_items a F.entry_dict_items ?_ (F.args_dict_items_1 _);unfold Builtin.«dict.items»;refine MC ?_;unfold Builtin.Dict.noArgs;refine MC (wpAny_notOrdered_dict a ?_);show M0 _ _ (OW d) _ _ s;refine MF ?_;show M0 _ _ (TY d>>=_) _ _ s;unfold TY;rw[MS (by rw[i];exact MT)];exact MC (MF (MC (Oj (MF ⟨_,rfl,h⟩))))
theorem yJ(a:s.heap.IsItemsView v d)(e:s.heap.get? d=My od)(i:od.data= .dict es ep)
  (h:Q (.ref s.heap.objs.size) {s with heap:=s.heap.push {cls:= .type "dict_itemiterator",data:= .fields #[.none,.bool ML,.ref d,.int 0 0,.int es.size 0,.int ep 0,.none,.none]}}):M0 (Nj P w) A (Tl (.ref v)) Q E s:=by
 obtain⟨o,b,f,c⟩:=id a;refine Sw a.typeIs VV (NQ VV a.typeIs F.entry_dict_items_iter ?_ (F.args_dict_items_iter_1 _));unfold Builtin.«dict_items.__iter__»;refine MC (MF (MC ?_));unfold Builtin.Dict_items.dictOf;refine MC (Oe b c (x:= .ref d) rfl (MF (MC ?_)));unfold Builtin.Dict_items.newIterator;refine MC (Uv e i (MC (U5 e i ?_)));simp only[show QC "dict_itemiterator"=MH from by decide,NN];refine Oj (MF ⟨_,rfl,"dict_itemiterator",_,⟨_,M7 _ rfl,rfl⟩,OH.lookup,?_⟩)
  (by simp only[sizeOk,RH,Nf,Nb,M5,Ub,O1];lia)
 simpa[Qn,RH]using h
theorem yH(a:R6 s.heap z d i es.size ep ok ov)(h:Q (.ref z) s):M0 (Nj P w) A (Tl (.ref z)) Q E s:=by
 have c:s.TypeIs (.ref z) "dict_itemiterator":=⟨_,a,rfl⟩;refine Sw c Ux (NQ Ux c (b:=Builtin.«dict_keyiterator.__iter__») (Vt (id':="dict_keyiterator.__iter__") (by kernel_rfl) rfl (by decide +kernel) (by kernel_rfl)) ?_ (F.args_dict_itemiterator_iter_1 _));show M0 _ _ (ret (.ref z)) _ _ s;exact MF ⟨_,rfl,"dict_itemiterator",_,c,OH.lookup,h⟩
theorem yI{e:QZ}(m:R6 s.heap z d i es.size ep ok ov)(K:s.heap.get? d=My od)(M:od.data= .dict es ep)(Y:es[i]?=My e)
  (S:∀v,IsItemIterOut v z d (i+1) es.size ep e.key e.val s.heap.objs.size->v.get? s.heap.objs.size=My {cls:= .type "tuple",data:= .seq #[e.key,e.val]}->v.objs.size=s.heap.objs.size+1->
   (∀b o,b≠z->s.heap.get? b=My o->v.get? b=My o)->Q (My (.ref s.heap.objs.size)) {s with heap:=v}):M0 (Nj P w) A (Ra (.ref z)) Q E s:=by
 obtain⟨n,g,T,U,D⟩:=s;have u:Shared.TypeIs ⟨n,g,T,U,D⟩ (.ref z) "dict_itemiterator":=⟨_,m,rfl⟩;have W:i<es.size:=by
  rcases SA i es.size with h|h
  .exact h
  .simp[PY h]at Y
 obtain rfl:es[i]=e:=by rw[RG W]at Y;exact Np Y
 unfold Ra;refine MC (QT (wpAny_callSpecial?_slot (name:=N9 "__next__") u OH
  (NQ OH u Ui ?_ (T9 _))))
 refine MC (MF (MC (MC ?_)))
 first|refine MC (P7 u (MF ?_))|refine MC (QK u (MF ?_))
 refine MC (Tp m rfl ?_);simp only[show QC "dict_itemiterator"=MH from by decide,NN];show M0 _ _ (if(M6 d==NK)=MH then _ else _) _ _ _;rw[MS (show ¬((M6 d==NK)=MH)from MT)];refine MC (MF (MC (Uv K M ?_)));rw[MS (by simp)];refine MC (MF (MC (U5 K M ?_)));rw[MS (by simp)];refine MF ?_;simp only[show ¬((i:Int)<0)from by lia,N1,Oh,RG W];refine MC ?_
 first|refine MC (P7 u (MF ?_))|refine MC (QK u (MF ?_))
 refine MC (SZ u ?_);show M0 _ _ (VB (.ref z) 3 (Qn ((i:Int)+1))>>=_) _ _ ⟨n,g,T,U,D⟩;refine MC (Ou m (by simp) λa c f=>?_)
 replace f:Nx z n a:=f
 replace c:R6 a z d (i+1) es.size ep ok ov:=by
  have e:((i+1:Nat):Int)=(i:Int)+1:=by lia
  unfold R6;rw[e];simpa[Qn]using c
 have l:Shared.TypeIs ⟨a,g,T,U,D⟩ (.ref z) "dict_itemiterator":=⟨_,c,rfl⟩;refine MC (Om (MC (SZ l (MC (SZ l ?_)))));show M0 _ _ (R0 (.ref z) 6 es[i].key es[i].val) _ _ ⟨a,g,T,U,D⟩;unfold R0;refine MC (Ts ?_);have j:R6 (a.push {cls:= .type "tuple",data:= .seq #[es[i].key,es[i].val]}) z d (i+1) es.size ep ok ov:=MG _ c;have k:a.objs.size=n.objs.size:=f.1;have Z:z≠n.objs.size:=NM (Nl m);have y:(a.push {cls:= .type "tuple",data:= .seq #[es[i].key,es[i].val]}).get? n.objs.size=My {cls:= .type "tuple",data:= .seq #[es[i].key,es[i].val]}:=by rw[<-k];exact M7 _ rfl
 have B:(a.push {cls:= .type "tuple",data:= .seq #[es[i].key,es[i].val]}).objs.size=n.objs.size+1:=by rw[Og,k]
 have C:∀b o,b≠z->n.get? b=My o->(a.push {cls:= .type "tuple",data:= .seq #[es[i].key,es[i].val]}).get? b=My o:=λb o X e=>MG _ (f.extBut b o X e);generalize a.push {cls:= .type "tuple",data:= .seq #[es[i].key,es[i].val]}=h₂ at*;show M0 _ _ (RI (.ref z)>>=_) _ _ ⟨h₂,g,T,U,D⟩;rw[k];refine MC ?_;unfold RI;refine MC (Oe j rfl (x:= .none) rfl (MF ?_));simp only[NN];refine MC (Oe j rfl (x:=ok) rfl (MC (Oe j rfl (x:=ov) rfl ?_)));refine MC (Ou j (by simp) λp F H=>?_);refine MC (Ou F (by simp) λq I J=>?_);refine MC (Ou I (by simp) λr L N=>?_);refine MC (Ou L (by simp) λt O R=>?_);have G:=((show Nx z h₂ p from H).trans (show Nx z p q from J)).trans ((show Nx z q r from N).trans (show Nx z r t from R));exact MC (Tq (MF (MF ⟨_,rfl,MF (S t O (G.extBut _ _ Z.symm y) (by rw[G.1,B]) λb o X e=>G.extBut b o X (C b o X e))⟩)))
theorem BX(g:A.handled=ME)(c:R6 s.heap z d i es.size ep ok ov)(f:s.heap.get? d=My od)(v:od.data= .dict es ep)(h:es.size<=i)
  (j:∀D,T0 z s.heap D->Q ME {s with heap:=D}):M0 (Nj P w) A (Ra (.ref z)) Q E s:=by
 have e:s.TypeIs (.ref z) "dict_itemiterator":=⟨_,c,rfl⟩;unfold Ra;refine MC (QT (wpAny_callSpecial?_slot (name:=N9 "__next__") e OH
  (NQ OH e Ui ?_ (T9 _))))
 refine MC (MF (MC (MC ?_)))
 first|refine MC (P7 e (MF ?_))|refine MC (QK e (MF ?_))
 refine MC (Tp c rfl ?_);simp only[show QC "dict_itemiterator"=MH from by decide,NN];show M0 _ _ (if(M6 d==NK)=MH then _ else _) _ _ s;rw[MS (show ¬((M6 d==NK)=MH)from MT)];refine MC (MF (MC (Uv f v ?_)));rw[MS (by simp)];refine MC (MF (MC (U5 f v ?_)));rw[MS (by simp)];refine MF ?_;simp only[show ¬((i:Int)<0)from by lia,N1,Oh,PY h];refine MC ?_
 first|refine MC (P7 e (MF ?_))|refine MC (QK e (MF ?_))
 show M0 _ _ (VB (.ref z) 2 .none>>=_) _ _ s;refine MC (Ps c rfl (by simp) ?_);show M0 _ _ (WN (.type "StopIteration") []>>=_) _ _ _;refine MC ?_;simp only[WN,newTuple];refine MC (Oj ?_ (by size_fits));refine MC (m:=Q9 _ _) (QA (a:=NK) (by first|rfl|(simp only[Q9];rfl)) ?_)
 refine Oj ?_ (by size_fits);simp only[raiseNew];refine MC (Wd ?_);rw[show A.in1.handled=ME from g];refine MC (MF (wpAny_throw ?_));refine MC (Pk (T:="StopIteration") (b:=MH) ⟨_,M7 _ rfl,rfl⟩ Vw ?_);exact MF (j _ (((Os ..).extBut.push _).push _))
end
end L2.Hs
namespace L2.Pu
open L2.Hs
noncomputable def ZQ(a:MK)(D n:Nat):It:=
 ⟨λi H=>∃b w,H a=My (dU a b D w)/\w.length=n/\i<n,
  λi H v c=>∃p x,H p=ME/\v= .ref p/\c=upd H p (.tup [.ref x.1,x.2])/\∀b w,H a=My (dU a b D w)->(w[i]?).map (·.2)=My x,
  λi H=>∃b w,H a=My (dU a b D w)/\w.length=n/\i=n⟩
theorem FU:∀{w:a0w} {D:a0G} {i:Nat} {y:f_×MK×MO},T3 XY w D->D[i]?=My y->∃x,w[i]?=My x/\XY x y
 |_,_,0,_,.cons h t,e=>by cases e;exact⟨_,rfl,h⟩
 |_,_,i+1,_,.cons h t,e=>FU (i:=i) t e
 |_,_,0,_,.nil,e=>by cases e
 |_,_,_+1,_,.nil,e=>by cases e
section
variable{X:Cx}{ba:a0b}{σ:St}{H:Hp}{s:MQ}{a:MK}{b:Bool}{ep i:Nat}{xs:a0w}
theorem qN(I:cy X ba σ H s)(h:H a=My (dU a b ep xs)):∃(o:Oa) (es:Array QZ),s.heap.get? a=My o/\o.data= .dict es ep/\es.size=xs.length/\o.ExactDict/\(a==T4)=ML/\∀(i:Nat) (e:QZ),es[i]?=My e->∃x,xs[i]?=My x/\e.key= .ref x.2.1/\aN x.2.2 e.val:=by
 obtain⟨o,es,w,j,k,l,d,h5,m,u,g⟩:zi a b ep xs s.heap:=(I.hok a _ h).1;have n:w.length=xs.length:=by rw[<-MD (f:=(·.1)),<-qV g,MD]
 refine⟨o,es,j,l,by rw[<-ND,d,MD,n],k,m,λi e c=>?_⟩;rw[<-Qb,d,MM]at c;cases q:w[i]? with
 |none=>rw[q]at c;cases c
 |some y=>
  rw[q]at c;cases c;obtain⟨x,p,_,r,t⟩:=FU g q;exact⟨x,p,by rw[r],t⟩
theorem xM{P:Ny}{w:NC}{K:M9}{x1}(a M:MK)(n ep:Nat):
  nw P w K (.Tuple elts x1 pos) (ZQ a ep n) [M] M (λi h=>∃G d,R6 h M a i n ep G d) where
 mem:=by simp
 obj:=λi h D b c=>by
  obtain⟨G,d,e⟩:=D;cases Nq.mp c;exact⟨_,e,λv q=>by cases q⟩
 keep:=λi h S D k=>by
  obtain⟨G,d,e⟩:=D;exact⟨G,d,k M (by simp) _ e⟩
 item:=by
  intro X l m p F i ba s σ H E I f D r;subst l m p;obtain⟨G,d,e⟩:=D;obtain⟨b,xs,t,U,J⟩:=r;obtain⟨o,es,g,j,W,h4,h5,Y⟩:=qN I t;have V:n=es.size:=by lia
  subst V;have A:es[i]?=My es[i]:=RG J;refine yI e g j A λS Z gt sz kp=>⟨_,rfl,wpAny_letOwnedTupleGo_items (s:={s with heap:=S}) Z λB ei L=>?_⟩;obtain⟨x,ex,N,O⟩:=Y i _ A;have Q:s.heap.objs.size≠M:=Pe (Nl e);have I2:cy X ba σ (upd H s.heap.objs.size (.tup [.ref x.2.1,x.2.2])) {s with heap:=B,toks:=s.toks}:=
   cy.turnNew I f (λb u c q=>L.extBut b u (λz=>c (by rw[z];simp)) (kp b u (λz=>c (by rw[z];simp)) q)) (MW _) ⟨by show 2<=M1;decide,[es[i].key,es[i].val],.cons N (.cons O .nil),_,L.extBut _ _ Q gt,rfl,_,rfl⟩
  refine⟨.ref s.heap.objs.size,_,I2,rfl,⟨s.heap.objs.size,x.2,I.hok.fresh (MW _),rfl,rfl,λb' aa C=>?_⟩,⟨_,_,ei⟩,λb c=>?_⟩
  .obtain⟨o',es',R,T,_,_,_,g6⟩:=qN I C
   rw[g]at R;cases R;rw[j]at T;cases T;obtain⟨y,ey,fk,fv⟩:=g6 i _ A;rw[ey];rw[N]at fk
   injection fk with fk
   exact N6 My (QD fk.symm (aN.inj fv O))
  .cases Nq.mp c
   rw[bt Q.symm];exact(f _ c).1
 done:=by
  intro X l m p F i ba s σ H E I f D r;subst l m p;obtain⟨G,d,e⟩:=D;obtain⟨b,xs,t,U,J⟩:=r;obtain⟨o,es,g,j,W,_⟩:=qN I t;have V:n=es.size:=by lia
  subst V;refine BX (I.ok.hd F) e g j (by lia) λS kp=>⟨rfl,cy.turnL (t':=s.toks) I f λb o c q=>kp b o (λz=>c (by rw[z];simp)) q⟩
 self:=λ_ _ _ _ _ D h=>by
  obtain⟨G,d,e⟩:=D;exact yH (es:=(Nd n (⟨0,.none,.none⟩:QZ)).toArray) (by rw[Nf,Oz];exact e) h
variable{E:a0r}{K:M9}{o:Expr}{w i y:Ri}{z:List Expr}{B:Nat}
def Zb(o:TE):TI:=λσ H R=>o σ H λx i=>∃a b ep xs,x= .ref a/\i a=My (dU a b ep xs)/\R (ZQ a ep xs.length) i
theorem EG(n:PE X o to)(c:QS o "items" X.env (NW o X.env)=NW o X.env:=by rfl)(d:(w.endLine==i.line)=MH:=by rfl):PI X (.Tuple z B y) (.Call (.Attribute o "items" w) [] [] i) (Zb to):=by
 intro ba s σ H R I h;refine wpAny_Call_method0_late c d (d5 (n ba s σ H _ I h) λv f g=>?_);obtain⟨x,D,m,E,a,b,ep,xs,rfl,p,q⟩:=g;cases E;obtain⟨j,G,g,r,t,k,h5,_⟩:=qN m p;refine⟨"dict","dict.items",Uz,PySem.F.slot_dict_items,PySem.F.type_dict_items,⟨j,g,k.1⟩,λb e=>?_,?_⟩
 .cases e;exact⟨j,g,k.2.1⟩
 refine Sj rfl (PySem.evalArgs_none (zc ⟨j,g,k.1⟩ h5 ?_));have l:cy X ba σ D {f with heap:=f.heap.push {cls:= .type "dict_items",data:= .fields #[.ref a]},toks:=f.toks}:=m.kept λb o e=>MG _ e;refine yJ (s:={f with heap:=f.heap.push {cls:= .type "dict_items",data:= .fields #[.ref a]}}) ⟨_,M7 _ rfl,rfl,rfl⟩ (MG _ g) r ?_;rw[t];exact⟨_,[_],_,_,D,rfl,l.kept (t':=f.toks) λb o e=>MG _ e,xM a _ _ ep,⟨_,_,M7 _ rfl⟩,λb u=>by
  cases Nq.mp u;exact l.fpOk (MW _) (l.hok.fresh (MW _)),q⟩
def Y7:D->a0z
 | .dct b ks vs=>My (Ru (λk v=> .tup [dK b k,v]) ks vs)
 |_=>ME
theorem BY{F:Fx}{H:Hp}{b:Bool}{a:MK}{ep:Nat}{xs:a0w}(C:¬F.A a)(I:H a=My (dU a b ep xs))(g:W=xs.map (·.1))(J:∀x∈xs,gW K F H b x.1 x.2.1)(h:bb K F H Y (xs.map (·.2.2))):vu K (ZQ a ep xs.length) F H (Ru (λk v=> .tup [dK b k,v]) W Y):=λT j s t fr i=>by
 have L:Y.length=xs.length:=by rw[h.length,MD]
 have N:W.length=xs.length:=by rw[g,MD]
 have c:=t.kp a _ C I;refine⟨λd o=>?_,λe=>⟨b,xs,c,rfl,by rw[e,S5,N,L,Vj]⟩⟩;have e:i<xs.length:=by
  have:=(MR.mp o).1;rw[S5]at this;lia
 refine⟨⟨b,xs,c,rfl,e⟩,λy U O=>?_⟩;obtain⟨p,x,l,rfl,rfl,Q⟩:=O;have m:=Q b xs c;rw[MI e]at m;have f:xs[i].2=x:=Np m;subst f;have n:bS j (upd j p (.tup [.ref xs[i].2.1,xs[i].2.2])):=bS.upd l;obtain⟨v,q⟩:∃v,Y[i]?=My v:=⟨_,MI (by lia)⟩;have R:W[i]?=My xs[i].1:=by rw[g,MM,MI e];rfl
 rw[Vg,R,q]at o;cases o;have w:=bb.tr t _ _ h;obtain⟨u,r,z⟩:=w.get q;rw[MM,MI e]at r;cases r;have B:=(fr.same n).tr fr;exact⟨n,pJ (.inl ⟨fr.fresh l,.inl ao⟩) (bb.cons (c4.tr B _ _ (Lx ((J _ (NB e)).tr t))) (bb.cons (c4.tr B _ _ z) bb.nil))⟩
def YC(f:FD):FL:=λa=>M.bind (f a) λd=>M.ofO (Y7 d)
theorem HZ(m:PE X o (tV X.K f E))(c:QS o "items" X.env (NW o X.env)=NW o X.env:=by rfl)(g:(w.endLine==i.line)=MH:=by rfl):PI X (.Tuple z B y) (.Call (.Attribute o "items" w) [] [] i) (iV X.K (YC f) E):=
 (EG m c g).imp λσ H R j=>ko j λF s D fr n h=>⟨F,s,D,fr,n,(run.bind (R:=c4 X.K F) h).mono λv G j=>by
  obtain⟨d,M,t,b,P⟩:=j;obtain⟨S,e,k⟩:=run.ofO P;cases d<;>first|(cases e;done)|skip
  cases e;unfold c4 at b;obtain⟨a,ep,xs,rfl,l,p,q,r⟩:=b;exact⟨a,_,ep,xs,rfl,l.2,k _ G (To.refl t.fr) (BY l.1 l.2 p q r)⟩⟩
end
end L2.Pu
namespace L2.Hs
theorem w6:mroOf (.type "reversed")=OW [.type "reversed",.type "object"]:=by rw[mroOf_type];kernel_rfl
theorem E6:typeLookup (.type "reversed") "__new__"=OW (My (.builtin "reversed.__new__")):=by rw[U4,Tc];kernel_rfl
theorem E3:Bind.madeBy (.type "reversed")=OW (My "reversed.__new__"):=madeBy_type w6 E6 (by decide +kernel)
theorem G9:isSubtype (.type "reversed") (.type "reversed")=OW MH:=by rw[Sc];kernel_rfl
theorem Es:isSubtype (.type "range_iterator") (.type "reversed")=OW ML:=by rw[Sc];kernel_rfl
theorem Ij:entryFor table "reversed.__new__"=My Builtin.«reversed.__new__»:=entryFor_of_tree (by kernel_rfl)
section
variable{l:Ny}{w:NC}{A:NX}{E:a0e}{s:MQ}
theorem FF(a:IsRange s.heap r 0 n 1 t u v)(j:0<=n)(g:n<2^62)
  (h:Q (.ref s.heap.objs.size) {s with heap:=s.heap.push {cls:= .type "range_iterator",data:= .fields #[Qn (n-1),Qn n,Qn (-1)]}}):M0 (Nj l w) A (SC (.type "reversed") [.ref r]) Q E s:=by
 refine Se (U3 ?_);show M0 _ _ (callAny (.type "reversed") _) _ _ _;refine MF ⟨Tf _ (by decide +kernel),U2 F.entry_type_call ?_⟩;rw[Around.under_plain (weight_type_call_type "reversed" [.ref r] []) (units_type_call_type "reversed" [.ref r] [])];have g:(QG "reversed"==QG "type")=ML:=by decide +kernel
 have k:((Wj "reversed").bind (·.mro.findSome? λt=>(Wj t).bind λb=>if b.noNew then My MH else if b.attrs.any (·.1=="__new__")then My ML else ME)).getD ML=ML:=by decide +kernel
 have e:=w6;have c:=E3;have i:checkTypeCall "reversed" ⟨[.ref r],[]⟩=OW ():=by kernel_rfl
 repeat (any_goals (first|assumption|wp_step))
 refine RA (by decide +kernel) Ij (QA (show UM "reversed.__new__" ⟨[.type "reversed",.ref r],[]⟩=OW () by kernel_rfl) ?_);have f:s.TypeIs (.ref r) "range":=⟨_,a,rfl⟩;unfold Builtin.«reversed.__new__»
 repeat (any_goals (first|assumption|wp_step))
 refine QA G9 (MF ?_);refine MC (m:=RV _ _ _) ?_;refine QA (show RV "reversed" (QG "reversed") ⟨[.type "reversed",.ref r],[]⟩=OW ()from rfl) ?_;refine MC (m:=checkCount "reversed" 1 1 _) (MF ?_);show M0 _ _ (specialOf (.ref r) (N9 "__reversed__")>>=_) _ _ s;refine MC (PF f F.slot_range_reversed.lookup ?_);show M0 _ _ (bindSpecial (.builtin "range.__reversed__") (.ref r)>>=_) _ _ s;refine MC (QA (F.slot_range_reversed.bind _) ?_);show M0 _ _ (rule "reversed.__new__.own-method">>=_) _ _ s;refine MC (QB (MC (wpAny_runValue (RA F.slot_range_reversed.plain F.entry_range_reversed (F.slot_range_reversed.check _ _ _ _ _ _ _ _ f (F.args_range_reversed_1 _) ?_)))));unfold Builtin.«range.__reversed__»;refine MC (m:=selfOnly "range.__reversed__" _) (MF (MC ?_));unfold Builtin.Range.rangeFields;refine MC (Oe a rfl (x:= .int 0 t) rfl (MC (m:=asInt? _) (MF ?_)));refine MC (Oe a rfl (x:= .int n u) rfl (MC (m:=asInt? _) (MF ?_)));refine MC (Oe a rfl (x:= .int 1 v) rfl (MC (m:=asInt? _) (MF (MF ?_))));have D:Tz 0 n 1=n:=by rw[rangeSize_one];split<;>lia
 simp only[D];have d:(Ob 0&&Ob n&&Ob 1&&Ob (-1)&&Ob (0-1)&&Ob n)=MH:=by
  have:Ob n=MH:=by unfold Ob;simp;lia
  rw[this];decide
 simp only[d,NN,Pd,Na,N1];rw[show(0:Int)+(n-1)*1=n-1 by lia];refine MC (Oj (MF (MF ?_)));exact MC (Pk (T:="range_iterator") (b:=ML) ⟨_,M7 _ rfl,rfl⟩ Es (MC (QB (MF h))))
end
end L2.Hs
namespace L2.Pu
open L2.Hs
noncomputable def ZR(n:Nat):It:=⟨λi _=>i<n,λi H v a=>v= .int ((n:Int)-1-i)/\a=H,λi _=>n<=i⟩
theorem wc{P:Ny}{w:NC}{K:M9}(G:MK)(n:Nat):nw P w K x (ZR n) [G] G (λi h=>UR h G ((n:Int)-1+(i:Nat)*-1) ((n:Int)-(i:Nat)) (-1)) where
 mem:=by simp
 obj:=λi h D b c=>by
  cases Nq.mp c;exact⟨_,D,λv z=>by
   have C:Data.fields _=Data.cell v:=z;cases C⟩
 keep:=λi h M D k=>k G (by simp) _ D
 item:=by
  intro X g j l m i a s A H E I f D p;subst g j l;obtain⟨q,f1,f2,r,u,y⟩:=f G (by simp);refine(Walks.range (prog:=X.prog) (w:=X.w) (I.ok.hd m) G ((n:Int)-1) (-1) n).item i s _ _ p D λv M B F d J=>?_;obtain⟨t,rfl⟩:=F;have L:cy X a A H {s with heap:=M,toks:=B}:=I.turned (λb o c e=>J b o (by simpa using c) e) q f1 r u y;exact⟨_,rfl,uh (s:={s with heap:=M,toks:=B}) (n:="range_iterator") d rfl rfl (by decide) ⟨.int ((n:Int)-1-i),H,L,⟨t,by rw[show(n:Int)-1+(i:Int)*-1=(n:Int)-1-i by lia]⟩,⟨rfl,rfl⟩,d,λb c=>(f b c).1⟩⟩
 done:=by
  intro X g j l m i a s A H E I f D p;subst g j l;obtain⟨q,f1,f2,r,u,y⟩:=f G (by simp);exact WR (I.ok.hd m) D (by have:n<=i:=p;lia) λM N=>⟨rfl,I.turned (t':=s.toks) (λb o c e=>N b o c e) q f1 r u y⟩
 self:=λ_ _ _ _ _ D h=>S3 D h
section
variable{X:Cx}{E:a0r}{K:M9}{y:Expr}
def Mi(a:TA):TI:=λb H R=>a b H λw y=>∃j:Int,w=[.int j]/\0<=j/\j<2^62/\R (ZR j.toNat) y
theorem AJ(f:Gl X "reversed")(g:X.mg "reversed"=ME)(m:Gl X "range")(D:X.mg "range"=ME)(E:PA X [a] A)(G:MY [a] X.env=[(ML,NW a X.env)]:=by rfl)
  (i:MY [.Call (.Name "range" p) [a] [] z] X.env=[(ML,NW (.Call (.Name "range" p) [a] [] z) X.env)]:=by rfl):PI X y (.Call (.Name "reversed" p2) [.Call (.Name "range" p) [a] [] z] [] pos2) (Mi A):=by
 intro c s l H R I h;refine Call_ (f9 I f g Boot.«reversed» (Ot ?_ i rfl));refine VT (Call_ (f9 I m D boot_range (Ot (d5 (E z c s l H _ I h) λS d n=>?_) G rfl)));obtain⟨V,w,r,K,j,rfl,M,P,q⟩:=n;obtain⟨u,rfl,t,rfl⟩:=kO K;refine call_range_1 (Wf (FF (IsRange.new ..) M P (S3 (x:=j-1) (left:=j) (step:=-1) (M7 _ rfl) ?_)));have k:cy X c l w {d with heap:=d.heap.push {cls:= .type "range",data:= .fields #[.int 0 d.toks,.int j t,.int 1 (d.toks+1)]},toks:=d.toks+1+1}:=r.kept λb o e=>MG _ e;refine⟨_,[_],_,_,w,rfl,k.kept (t':=d.toks+1+1) λb o e=>MG _ e,wc _ j.toNat,?_,λb v=>?_,q⟩
 .show UR _ _ (((j.toNat:Nat):Int)-1+((0:Nat):Int)*-1) (((j.toNat:Nat):Int)-((0:Nat):Int)) (-1)
  rw[show((j.toNat:Nat):Int)-1+((0:Nat):Int)*-1=j-1 by lia,show((j.toNat:Nat):Int)-((0:Nat):Int)=j by lia];exact M7 _ rfl
 .cases Nq.mp v
  exact k.fpOk (MW _) (k.hok.fresh (MW _))
noncomputable def iW(n:Nat):a0d:=(MX n).map λ(i:Nat)=> .int ((n:Int)-1-i)
theorem yK:vu K (ZR n) F H (iW n):=λe f y t fr i=>by
 refine⟨λd w=>?_,λa=>?_⟩
 .unfold iW at w
  have a:i<n:=by
   have:=(MR.mp w).1;simpa using this
  rw[MM,On a]at w;cases w;exact⟨a,λx g ⟨b,c⟩=>by subst b c;exact⟨bS.refl _,rfl⟩⟩
 .show n<=i
  rw[a];simp[iW]
def tR:a0d->a0z
 |[.int j]=>if(decide (0<=j)&&decide (j<2^62))=MH then My (iW j.toNat)else ME
 |_=>ME
theorem Fj(b:Gl X "reversed")(c:X.mg "reversed"=ME)(j:Gl X "range")(w:X.mg "range"=ME)(D:PA X [a] (i0 X.K g E))(G:MY [a] X.env=[(ML,NW a X.env)]:=by rfl)
  (d:MY [.Call (.Name "range" p) [a] [] q] X.env=[(ML,NW (.Call (.Name "range" p) [a] [] q) X.env)]:=by rfl):PI X y (.Call (.Name "reversed" p2) [.Call (.Name "range" p) [a] [] q] [] pos2) (iV X.K (cK tR g) E):=
 (AJ b c j w D G d).imp λo H R f=>ko f λF M P fr m h=>⟨F,M,P,fr,m,(run.bind (R:=bb X.K F) h).mono λu S f=>by
  obtain⟨x,V,t,r,s⟩:=f;obtain⟨l,e,k⟩:=run.ofO s;unfold tR at e;split at e
  .split at e
   .rename_i i
    cases e;simp only[No,Nv]at i;obtain⟨v,rfl,n⟩:=bb.one r;cases n.int;exact⟨_,rfl,i.1,i.2,k _ S (To.refl t.fr) yK⟩
   .cases e
  .cases e⟩
variable{e m:Expr}{z tm:TE}{J L:Ri}
theorem EF(a:a0f):WD a.toArray ME ME (My (-1))=a.reverse.toArray:=by
 have b:Qz ME ME (My (-1)) a.toArray.size=((a.length:Int)-1,-1,-1):=by simp[Qz]
 unfold WD;rw[b];refine N6 _ ?_;have c:sliceRange ((a.length:Int)-1) (-1) (-1)=(MX a.length).map λk=>a.length-1-k:=by
  unfold sliceRange;have d:(if(-1:Int)>0 then(if(a.length:Int)-1< -1 then(-1-((a.length:Int)-1)+-1-1)/ -1 else 0)else(if(a.length:Int)-1>-1 then((a.length:Int)-1- -1- -1-1)/(- -1)else 0)).toNat=a.length:=by
   rw[MS (by decide)];split
   .rw[show(- -1:Int)=1 by decide,Int.ediv_one];lia
   .lia
  simp only[d];exact Nu λk _=>by lia
 show(sliceRange ((a.length:Int)-1) (-1) (-1)).filterMap _=_;rw[c,List.filterMap_map];rcases a with _|⟨x,r⟩
 .rfl
 generalize j:x::r=a;rw[vH (g:=λk=>a.getD (a.length-1-k) x) λk f=>by
  have:k<a.length:=Ni.mp f;simp only[RC,SI];rw[MN,MI (by lia)];rfl]
 refine OX (by simp) λi h l=>?_;have n:i<a.length:=by simpa using h
 rw[PN,P0,VJ,MN,MI (by lia)];rfl
def Yh(K:M9)(z tm:TE):TE:=λc H Q=>z c H λx m=>tm c m λy b=>∃a e,x= .ref a/\y= .int (-1)/\et K b a e/\∀p,b p=ME->Q (.ref p) (upd b p (.lst e.reverse))
theorem JC(l:PE X e z)(E:PE X m tm):PE X (.Subscript e (.Slice ME ME (My m) L) J) (Yh X.K z tm):=by
 intro c s f H Q I h;refine Subscript_ (d5 (l c s f H _ I h) λv n o=>?_);obtain⟨x,G,p,M,P⟩:=o;refine wpAny_Slice ?_;rw[V8];refine MF (MF ?_);rw[evalPart_some];refine d5 (E c n f G _ p P) λu d r=>?_;obtain⟨y,B,g,C,a,S,rfl,rfl,V,q⟩:=r;cases M;obtain⟨t,rfl⟩:=C;obtain⟨its,i,D,j⟩:=g.list V;have k:cy X c f B {d with heap:=d.heap.push {cls:= .type "slice",data:= .fields #[.none,.none,.int (-1) t]}}:=g.kept (t':=d.toks) λb F q=>MG _ q;show M0 (Nj X.prog X.w) X.A (Wb e (.Slice ME ME (My m) L) (.ref a) (.ref d.heap.objs.size)) (EP X c f Q) X.xe {d with heap:=d.heap.push {cls:= .type "slice",data:= .fields #[.none,.none,.int (-1) t]}};refine tail_any (ops:=[.ref a,.ref d.heap.objs.size]) (D.isList.push _).typeIs slot_list_getitem.lookup (Wc (D.isList.push _) (Ua ..) .none .none (.int (-1) t) (by simp) ?_ (by rw[Nf,<-i.length];exact j)) (by with_unfolding_all rfl)
 rw[EF];exact⟨.ref _,_,k.lnew (t':=d.toks) (its:=its.reverse) (ys:=S.reverse) i.reverse (by rw[VX];exact j),rfl,q _ (k.hok.fresh (MW _))⟩
noncomputable def Jj:D->D->a0k
 | .lst ds,.int (-1)=>My (.lst ds.reverse)
 |_,_=>ME
theorem bb.reverse:∀{m:a0d} {e:a0i},bb K F H m e->bb K F H m.reverse e.reverse
 |[],e,h=>by have q:e=[]:=h;subst q;exact bb.nil
 |d::m,e,h=>by
  obtain⟨x,r,rfl,a,b⟩:=h;rw[RX,RX];exact bb.append (bb.reverse b) (bb.cons a bb.nil)
theorem K9(o:PE X e (tV X.K f E))(G:PE X m (tV X.K g E)):PE X (.Subscript e (.Slice ME ME (My m) L) J) (tV X.K (f2 Jj f g) E):=
 (JC o G).imp λu H Q b=>ko b λF D M fr l h=>⟨F,D,M,fr,l,(run.bind (R:=c4 X.K F) h).mono λv B b=>oa b λd w t P S=>⟨F,D,w,t.fr,l.tr (t.tr fr),(run.bind (R:=c4 X.K F) S).mono λy A b=>oa b λC V i j q=>by
  obtain⟨z,c,k⟩:=run.ofO q;unfold Jj at c;split at c
  .cases c
   obtain⟨a,s,rfl,x,r⟩:=c4.sqL (c4.tr (i.tr t.fr) _ _ P);cases j.int;exact⟨a,s,rfl,rfl,x,λp n=>k _ _ (i.fr.upd _ n) (c4.newL i.fr n (bb.reverse r))⟩
  .cases c⟩⟩
end
end L2.Pu
namespace L2.Pu
theorem Zc{A:NX}(a:d4 k A):A.units+2<Sa:=ON (Wl (by decide:2<=64) _) a.units
open L2.Hs
section
variable{X:Cx}{E:a0r}{ke ve b_ aa:Expr}{ac:List Expr}{ab:a0P}{P:Scope}{ad:Ri}{Nc c_:a0h}{cx:a0a}{g:TG}{tb:a0W}
theorem Ho{kb:Bool}{b d:Ri}(y:X.N.Nodup)(k:X.N[i]?=My x)(B:B3 X.env.scope x)(F:X.calm=MH)(S:db X P Nc c_ cx)(L:PI X b_ aa wi)
  (O:∀(E:a0m) (C:MK) (j:a0n) (s:MQ) (H:Hp),PG (aI X Nc P E C j s H) b_ g/\eD (aI X Nc P E C j s H) ac tt/\∀D,PB (aI X Nc P E C j s H) (.D ke ve) (⟨b_,aa,ac,0⟩::ab) P ad 0 D (tb D))
  (l:Q1 (.DictComp ke ve (⟨b_,aa,ac,0⟩::ab) P ad) (My (.Name x b)) d.line X.env=OW MH:=by rfl)
  (K:∀x,NO aa X.env x=OW x:=by intro _;rfl) (R:b0d X x:=by first|exact .inl rfl|exact .inr rfl|assumption):
  PS X (.Assign [.Name x b] (.DictComp ke ve (⟨b_,aa,ac,0⟩::ab) P ad) d) (iC (lW (λD=>dU D kb 0 []) c_ cx wi λD J=>dB J g tt (tb D)) (fQ i)):=by
 intro f s U H D I h;rw[exec_Assign_Name_used _ _ _ _ l];refine MC (OQ (MC ?_));show M0 _ X.A (do let _ <-comprehension (.DictComp ke ve (⟨b_,aa,ac,0⟩::ab) P ad) P X.env _ newDict ML (NW aa X.env) (My (RM (.Name x b) X.env))) _ _ s
 refine MC (NI (PX (use:=My (RM (.Name x b) X.env)) (Q:=λ_ s'=>SP X f D .next s') rfl K (S.clo I.ok) S.kind S.loc
  (NI (L f s U H _ I h) (λv s1 W=>NI W (λY Z n=>?_) λ_ _ e=>e) λ_ _ e=>e)) (λ_ s' M=>MF (MF M)) λ_ _ e=>e)
 obtain⟨it,j,tn,J,H2,e,o,T,p,f2,q⟩:=n;subst e;refine ir (c:= .D ke ve) vg (RR:=λG C=>Vs (Nj X.prog X.w) X.A X.xe (My (RM (.Name x b) X.env)) _ G C) F S O o T p f2 q λA C s' V m I' ns r q'=>?_;show M0 _ X.A (RM (.Name x b) X.env (.ref A)) _ _ s';refine Uu (l3 I' y k B (v:= .ref A) rfl (λZ o n=>?_) R);obtain⟨a,sb,ha⟩:=n;have t:C≠a:=by
  rcases ha with rfl|ha
  .exact r.2.1
  .exact λz=>r.2.2.2.1 x a ha z.symm
 exact⟨m,ns.sameBut sb t,λh' u=>⟨_,V,o.letgo r u,q'⟩⟩
theorem zY{kb:Bool}{a c:Ri}(j:X.N.Nodup)(d:X.N[i]?=My x)(k:B3 X.env.scope x)(l:X.calm=MH)(S:db X P Nc c_ cx)(m:PI X b_ aa (iV X.K v E))
  (n:∀(w:a0m) (C:MK) (f:a0n) (s:MQ) (H:Hp),PG (aI X Nc P w C f s H) b_ g/\eD (aI X Nc P w C f s H) ac (hW X.K y E0)/\∀D,PB (aI X Nc P w C f s H) (.D ke ve) (⟨b_,aa,ac,0⟩::ab) P ad 0 D (tb D))
  (o:cV X.K g u) (p:eB u) (q:∀D,fE X.K (RD X.K kb) D (tb D) b)
  (e:Q1 (.DictComp ke ve (⟨b_,aa,ac,0⟩::ab) P ad) (My (.Name x a)) c.line X.env=OW MH:=by rfl)
  (G:∀x,NO aa X.env x=OW x:=by intro _;rfl) (r:b0d X x:=by first|exact .inl rfl|exact .inr rfl|assumption):
  PS X (.Assign [.Name x a] (.DictComp ke ve (⟨b_,aa,ac,0⟩::ab) P ad) c) (tG X.K X.H₀ (cD i (im c_.length cx v u y b (lA kb))) E):=
 aD ((Ho (kb:=kb) j d k l S m n e G r).imp λD t H h=>vR o p q h)
end
end L2.Pu
namespace L2.Hs
section
variable{X:Cx}
def Jl(K:M9):R2:=λx y H Q=>∃a b D w k c,x= .ref c/\y= .ref a/\H a=My (dU a b D w)/\(∀x∈w,B6 K H b x.1 x.2.1)/\B6 K H b k c/\Q (.bl (sB w k).isNone) H
theorem wX(i:X.A.units+2<Sa):f0 X (Od .NotIn) (Jl X.K):=by
 intro c s t H x y v u Q I j l h;obtain⟨d,b,M,D,k,a,rfl,rfl,m,n,o,q⟩:=h;cases j;cases l;obtain⟨E,w,p,_,G⟩:=mI I m n;have f:=mV (k:=k) p;show M0 _ _ (do return Ta (!(<-contains (.ref d) (.ref a)))) _ _ s
 refine MC ?_;unfold contains
 try with_reducible refine Om ?_
 refine MC (PF w.typeIs slot_dict_contains.lookup ?_);show M0 _ _ (if(My (Value.builtin "dict.__contains__")==My NK)=MH then _ else _) _ _ s;rw[MS (by rw[beq_builtin_none];exact MT)];refine MC (wpAny_callSpecialUnlessNone?_slot (name:=N9 "__contains__") w.typeIs slot_dict_contains
  (NQ slot_dict_contains w.typeIs entry_dict_contains ?_ (args_dict_contains _ _)))
 show M0 _ _ (dictGet d (.ref a)>>=_) _ _ s;refine MC (wpAny_dictGet_heap (nE i) (qz I o) w ?_);cases g:UW E k with
 |some r=>
  rw[g]at f;cases e:sB D k with
  |none=>rw[e]at f;exact f.elim
  |some z=>
   rw[e]at q;show M0 _ _ (ret (.bool MH)) _ _ _;exact MF ⟨_,rfl,N8 (MF ⟨.bl _,H,I.tok _,rfl,q⟩)⟩
 |none=>
  rw[g]at f;cases e:sB D k with
  |some z=>rw[e]at f;exact f.elim
  |none=>
   rw[e]at q;show M0 _ _ (Builtin.Dict.pendingKey? d (.ref a)>>=_) _ _ _;exact MC (wpAny_pendingKey_other G (MF ⟨_,rfl,N8 (MF ⟨.bl _,H,I.tok _,rfl,q⟩)⟩))
end
end L2.Hs
namespace L2.Pu
open L2.Hs
section
variable{K:M9}
def EU:D->D->a0k
 |y,.dct b ks vs=>(iH b y).map λk=> .bl (lp ks vs k).isNone
 |_,_=>ME
theorem LF:bn K (Jl K) EU:=λF H M Q E P d p r fr h g e k=>by
 unfold EU at e;split at e
 .rename_i b ks vs
  cases q:iH b E with
  |none=>rw[q]at e;cases e
  |some f=>
   rw[q]at e;cases e;obtain⟨i,rfl⟩:=o6 q;obtain⟨c,rfl,j⟩:=ua i h;unfold c4 at g;obtain⟨a,G,w,rfl,l,rfl,m,n⟩:=g;refine⟨a,b,G,w,f,c,rfl,rfl,l.2,λx o=>(m x o).s,j.s,?_⟩;have:=qx (k:=f) n
   dsimp only at k
   cases D:lp (w.map (·.1)) vs f with
   |none=>
    rw[D]at this k;have t:sB w f=ME:=this;rw[t];exact k _ H (To.refl fr) rfl
   |some z=>
    rw[D]at this k;obtain⟨u,t,_⟩:=this;rw[t];exact k _ H (To.refl fr) rfl
 .cases e
end
end L2.Pu
namespace L2.Pu
section
variable{X:Cx}{E:a0r}{K:M9}{f:N3}{a:Hp}{B:Ow}{g:a0s}{H h:Hp}{d:Ds}{e b:Bg}{c:St}
end
end L2.Pu
namespace L2.Pu
open PySem.SeqAt
open PySem.AutoSeq1 (wpAny_loadPart')
open PySem.MeetsSeq PySem.MeetsSeq2 PySem.MeetsSeq3
end L2.Pu
namespace L2.Hs
section
variable{X:Cx}
end
end L2.Hs
namespace L2.Pu
open L2.Hs
section
variable{K:M9}{F:Fx}{H:Hp}
variable{X:Cx}{E:a0r}{a:N3}
end
end L2.Pu
namespace L2.Hs
end L2.Hs
namespace L2.Pu
open L2.Hs
end L2.Pu
namespace L2.Pu
def wh(w:a0c):Bool:=decide (w.length<=6)&&w.all λx=>decide (x.natAbs<=1000000)
theorem Z1:∀{w:a0c},(∀x∈w,x.natAbs<=1000000)->S6 (w.map .int)=MH/\Th (w.map .int)=ML/\Qx (w.map .int)=0/\((Pj (w.map .int)).map (·.length)).sum<=1921*w.length/\(Pj (w.map .int)).length=w.length
 |[],_=>⟨by simp only[Pb,S6],by simp only[Pb,Th],by simp only[Pb,Qx],by simp only[Pb,Pj];exact N2 _,by simp only[Pb,Pj];rfl⟩
 |n::w,h=>by
  obtain⟨b,c,d,g,h5⟩:=Z1 λx e=>h x (MJ n e);have i:=h n MP;have a:n.natAbs.log2<1920:=BJ (by lia) (by lia);have f:=int_text_len_1921 a;refine⟨?_,?_,?_,?_,?_⟩
  .simp only[MZ,S6,WK,b,M3 a,Q6]
  .simp only[MZ,Th,PyData.hasDict,c,Bool.or_self]
  .simp only[MZ,Qx,Po,d];rfl
  .simp only[MZ,Pj,PyData.shown,Nn,M5]
   have:(N9 (toString n)).length<=1921:=f;lia
  .simp only[MZ,Pj,M5,h5]
theorem Ll{w:a0c}(h:wh w=MH):(Si (w.map .int)).showable=MH/\(Si (w.map .int)).hasDict=ML/\(Si (w.map .int)).depth<=100/\(Si (w.map .int)).shown.length<=20000:=by
 unfold wh at h;obtain⟨a,D⟩:=SM.mp h;have a:=O5 a;obtain⟨b,c,f,g,h5⟩:=Z1 λx d=>O5 (OR.mp D x d);have e:(tupleText (Pj (w.map .int))).length<=20000:=by
  have:=tupleText_len_le (Pj (w.map .int));rw[h5]at this;lia
 simp only[WK,PyData.hasDict,Po,PyData.shown];exact⟨b,c,by lia,e⟩
section
variable{X:Cx}{E:a0r}{w:List Expr}{K:M9}{t:TJ}
theorem wJ:∀{D:a0c} {w:a0f},ar (D.map V.int) w->ReadsAll h w (D.map VL) []
 |[],w,r=>by cases r;exact .nil
 |n::D,w,r=>by
  cases r with
  |cons E a=>
   obtain⟨t,rfl⟩:=E;exact .cons (as:=[]) (bs:=[]) (.int n t) (wJ a)
theorem CV:∀{w:a0c} {t:a0i},bb K F H (w.map D.int) t->t=w.map V.int
 |[],t,h=>h
 |n::w,t,h=>by
  obtain⟨y,r,e,a,b⟩:=h;subst e;rw[CV b,show y=V.int n from a];rfl
def Y3(K:M9)(b:TE)(t:TJ):TJ:=λa H n Q=>b a H λv w=>∃l D,v= .ref l/\hY K w l (D.map V.int)/\wh D=MH/\n+20000<=M1/\∀m,m<=n+20000->t a w m Q
theorem Ju(c:d4 k X.A)(g:PE X v U)(h:PJ X w t)(i:Qy (.FormattedValue v (-1) ME p::w) X.env=NW (.FormattedValue v (-1) ME p) X.env::Qy w X.env:=by rfl):PJ X (.FormattedValue v (-1) ME p::w) (Y3 X.K U t):=by
 intro a s d H D Q I L j;rw[i];refine Vx (FormattedValue_plain (d5 (g a s d H _ I j) λu m ⟨y,E,f,r,l,G,B,M,ok,N,q⟩=>?_));subst B;cases r;obtain⟨P,r,⟨o,e,C,n,S⟩,_⟩:=f.tuple M;have V:Reads m.heap (.ref l) (.tuple (G.map .int)) []:= .tuple e C S (wJ r);obtain⟨F,o2,O,R⟩:=Ll ok;refine formatField_of_reads V F (PyData.noDict_hsm o2) c.gd (by have:=c.un;lia) (λ_ _ z=>z) (λW u T J=>?_) (by lia);have e:∀x:NA,(D++x).length=D.length+x.length:=Wa D;exact⟨by rw[e];lia,h a _ d E _ Q (f.kept λb o e=>J b o e) (by rw[e];lia) (by rw[e];exact q _ (by lia))⟩
def yE(f:FD)(g:Dn->M Unit):Dn->M Unit:=λt=>M.bind (f t) λd=>match d with
 | .tup ds=>match dn ds with
  |some w=>if wh w=MH then g t else M.fail
  |none=>M.fail
 |_=>M.fail
theorem Me(j:d4 k X.A)(o:PE X v (tV X.K f E))(h:PJ X w (jV X.K g c E))(y:Qy (.FormattedValue v (-1) ME p::w) X.env=NW (.FormattedValue v (-1) ME p) X.env::Qy w X.env:=by rfl):PJ X (.FormattedValue v (-1) ME p::w) (jV X.K (yE f g) (20000+c) E):=
 (Ju j o h y).imp λO H n Q ⟨T,F,M,s,fr,i,r⟩=>⟨F,M,s,fr,i,(run.bind (R:=c4 X.K F) r).mono λv z B=>by
  obtain⟨d,G,t,P,D⟩:=B;cases d with
  |tup ds=>
   cases q:dn ds with
   |none=>simp only[q]at D;obtain⟨b,a,e,k⟩:=D;cases e
   |some S=>
    simp only[q]at D;rw[hV q]at P;obtain⟨l,U,rfl,V,I⟩:=c4.sqT P;rw[CV I]at V;by_cases ok:wh S=MH
    .simp only[MU ok]at D
     obtain⟨b,a,e,k⟩:=D;refine⟨l,S,rfl,V,ok,by lia,λm W=>⟨by lia,F,M,G,t.fr,i.tr (t.tr fr),b,a,e,?_⟩⟩;cases b with
     |ok u=>exact λJ L x N=>k J L x (by lia)
     |error C=>exact k
    .simp only[MS ok]at D
     obtain⟨b,a,e,k⟩:=D;cases e
  |_=>obtain⟨b,a,e,k⟩:=D;cases e⟩
end
end L2.Pu
namespace Law
open L2 L2.Pu
open L2.Hs (uY BW kY wX)
noncomputable def dk(i:Nat):N3:=PySem.Challenge.pw_edgetally_k25_numbers_refused.main.body.getD i (.Pass ⟨0,0,0,0⟩)
abbrev pW:N3:=dk 65
set_option genSizeOf false in
set_option genInjectivity false in
structure Ad where
 Aa:MK
 Ab:MK
 Ac:Nk
 Ae:MK
 Af:MK
 Ag:Nk
 Ah:MK
 Ai:MK
 Aj:Nk
 Ak:MK
 Am:MK
 An:Nk
 Ao:MK
 Aq:Nk
 Ar:MK
 As:Nk
 At:MK
 Au:Nk
 Av:MK
 Aw:Nk
 Ax:MK
 Ay:Nk
 Az:MK
 A0:Nk
 A1:MK
 A3:Nk
 A4:MK
 A5:Nk
 A6:MK
 A7:Nk
 A8:MK
 A9:Nk
 Ba:MK
 Bb:Nk
 Bc:MK
 Bd:Nk
 Be:MK
 Bf:Nk
 Bh:MK
 Bi:Nk
 Bj:MK
 Bk:Nk
 Bl:MK
 Bm:Nk
 Bn:MK
 Bo:Nk
 Bp:MK
 Bq:Nk
 Br:MK
 Bs:Nk
 Bt:MK
 Bu:Nk
 Bv:MK
 Bw:Nk
 Bx:MK
 By:Nk
 Bz:MK
 B0:Nk
 B5:MK
 B7:Nk
 B8:MK
 Ca:Nk
 Cb:MK
 Cc:Nk
 Cd:MK
 Cf:Nk
 Cg:MK
 Ch:Nk
 Ci:MK
 Cj:Nk
 Ck:MK
 Cl:Nk
 Cm:MK
 Cn:Nk
 Co:MK
 Cp:Nk
 Cq:MK
 Cr:Nk
 Cs:MK
 Ct:Nk
 Cu:MK
 Cv:Nk
 Cw:MK
 Cy:Nk
 Cz:MK
 C0:Nk
 C2:MK
 C3:Nk
 C4:MK
 C5:Nk
 C6:MK
 C7:Nk
 C8:MK
 C9:Nk
 Da:MK
 Db:Nk
 Dd:MK
 Df:Nk
 Dg:MK
 Dh:Nk
 Di:MK
 Dj:Nk
 Dl:MK
 Dm:Nk
 Do:MK
 Dp:Nk
 Dq:MK
 Dr:Nk
 Dt:MK
 Du:Nk
 Dv:MK
 Dw:Nk
 Dx:MK
 Dy:Nk
def FnL(K:M9)(mg:a0j)(a:Ad):List Prop:=[
 oj K mg "MOST" (.int 40),
 oj K mg "MOST_COLUMNS" (.int 6),
 oj K mg "MOST_ROWS" (.int 4),
 oj K mg "WIDE" (.int 500),
 g_ K "free" "free" (dk 14) a.Am a.An,
 mg "free"=My (.ref a.Am),
 bO K a.An ["rows","columns","pair"] [.tup [.int 0,.int 40]],
 hL K mg "check_sums" (dk 15) a.Ao a.Aq ["rowsums","columnsums"],
 hL K mg "check_pair" (dk 16) a.Ar a.As ["pair"],
 hL K mg "settled_bounds" (dk 17) a.At a.Au ["bounds","rows","columns"],
 hL K mg "rows_turned" (dk 18) a.Av a.Aw ["rows"],
 hL K mg "factorial" (dk 20) a.Ax a.Ay ["number"],
 hL K mg "ways" (dk 21) a.Az a.A0 ["parts"],
 hL K mg "fillings" (dk 22) a.A1 a.A3 ["rests","many","pairs"],
 hL K mg "need_of" (dk 24) a.A4 a.A5 ["rowsums","over"],
 hL K mg "room_inside" (dk 25) a.A6 a.A7 ["columnsums","bounds","over","column"],
 hL K mg "room_beside" (dk 26) a.A8 a.A9 ["bounds","over","column"],
 hL K mg "room_of" (dk 27) a.Ba a.Bb ["columnsums","bounds","over","into"],
 hL K mg "narrowest" (dk 28) a.Bc a.Bd ["columnsums","bounds","over"],
 hL K mg "choices" (dk 29) a.Be a.Bf ["many"],
 hL K mg "check_fit" (dk 30) a.Bh a.Bi ["rowsums","columnsums","bounds"],
 hL K mg "check_wide" (dk 33) a.Bj a.Bk ["rowsums"],
 hL K mg "settled_for_net" (dk 34) a.Bl a.Bm ["rowsums","columnsums","bounds"],
 hL K mg "column_fillings" (dk 35) a.Bn a.Bo ["rests","columnsums","bounds","column"],
 hL K mg "rests_behind" (dk 36) a.Bp a.Bq ["rests","counts"],
 hL K mg "nodes_by_level" (dk 37) a.Br a.Bs ["rowsums","columnsums","bounds"],
 hL K mg "node_counts" (dk 38) a.Bt a.Bu ["rests","filled","behind"],
 hL K mg "counted_nodes" (dk 39) a.Bv a.Bw ["rowsums","columnsums","bounds"],
 hL K mg "check_number" (dk 42) a.Bx a.By ["k","many"],
 hL K mg "steps_counted" (dk 43) a.Bz a.B0 ["net","level","rests"],
 hL K mg "falls_to" (dk 44) a.B5 a.B7 ["numbered","k"],
 hL K mg "kth_table" (dk 45) a.B8 a.Ca ["net","k"],
 hL K mg "kth_dealing" (dk 46) a.Cb a.Cc ["net","k"],
 hL K mg "columns_asked" (dk 47) a.Cd a.Cf ["net","rows"],
 hL K mg "counted_ahead" (dk 48) a.Cg a.Ch ["net","level","rests","filling"],
 hL K mg "number_of" (dk 49) a.Ci a.Cj ["net","rows"],
 hL K mg "stretch" (dk 50) a.Ck a.Cl ["net","rows"],
 hL K mg "_law_bag" (dk 52) a.Cm a.Cn ["_law_script"],
 hL K mg "_law_pull" (dk 53) a.Co a.Cp ["_law_bag_here","_law_lot"],
 hL K mg "_law_grid" (dk 54) a.Cq a.Cr ["_law_bag_here","_law_block","_law_columns","_law_things"],
 hL K mg "_law_small" (dk 55) a.Cs a.Ct ["_law_bag_here"],
 hL K mg "_law_turned" (dk 56) a.Cu a.Cv ["_law_block"],
 hL K mg "_law_rowsums" (dk 57) a.Cw a.Cy ["_law_grid_here"],
 hL K mg "_law_columnsums" (dk 58) a.Cz a.C0 ["_law_grid_here"],
 hL K mg "_law_free" (dk 59) a.C2 a.C3 ["_law_block","_law_columns"],
 hL K mg "_law_bounds" (dk 60) a.C4 a.C5 ["_law_bag_here","_law_grid_here"],
 hL K mg "_law_copied" (dk 61) a.C6 a.C7 ["_law_block"],
 hL K mg "_law_net" (dk 62) a.C8 a.C9 ["_law_grid_here","_law_limits"],
 hL K mg "_law_good" (dk 63) a.Da a.Db ["_law_block","_law_rowsums_here","_law_columnsums_here","_law_limits"],
 hL K mg "_law_strange" (dk 64) a.Dd a.Df ["_law_bag_here","_law_grid_here"],
 g_ K "__init__" "Net.__init__" (cz (dk 40) 0) a.Dg a.Dh,
 Mk K a.Ak a.Dg,
 D2 K a.Dh ["self","rowsums","columnsums","bounds"] ["bounds"] 3 [.kw 0],
 g_ K "dealings" "Net.dealings" (cz (dk 40) 8) a.Di a.Dj,
 l0 K a.Ak "dealings" a.Di,
 ci K a.Dj ["self"] [],
 g_ K "counts_at" "Net.counts_at" (cz (dk 40) 6) a.Dl a.Dm,
 l0 K a.Ak "counts_at" a.Dl,
 ci K a.Dm ["self","level","rests"] [],
 g_ K "rowsums" "Net.rowsums" (cz (dk 40) 3) a.Do a.Dp,
 l0 K a.Ak "rowsums" a.Do,
 ci K a.Dp ["self"] [],
 g_ K "columnsums" "Net.columnsums" (cz (dk 40) 4) a.Dq a.Dr,
 l0 K a.Ak "columnsums" a.Dq,
 ci K a.Dr ["self"] [],
 g_ K "steps" "Net.steps" (cz (dk 40) 9) a.Dt a.Du,
 l0 K a.Ak "steps" a.Dt,
 ci K a.Du ["self","level","rests"] [],
 g_ K "tables" "Net.tables" (cz (dk 40) 7) a.Dv a.Dw,
 l0 K a.Ak "tables" a.Dv,
 ci K a.Dw ["self"] [],
 r_ K a.Ak,
 mg "Net"=My (.ref a.Ak),
 eQ K a.Ak "column_list",
 eQ K a.Ak "counted",
 eQ K a.Ak "pairs",
 eQ K a.Ak "row_list",
 g_ K "__init__" "EdgeError.__init__" (cz (dk 2) 0) a.Ab a.Ac,
 ci K a.Ac ["self","word","why"] [],
 mg "EdgeError"=My (.ref a.Aa),
 g_ K "__init__" "BadNumber.__init__" (cz (dk 7) 0) a.Af a.Ag,
 ci K a.Ag ["self","why"] [],
 mg "BadNumber"=My (.ref a.Ae),
 XT K a.Ae a.Af,
 O8 K (.ref a.Ae) "word"=My ME,
 g_ K "__init__" "NoTable.__init__" (cz (dk 8) 0) a.Ai a.Aj,
 ci K a.Aj ["self","why"] [],
 mg "NoTable"=My (.ref a.Ah),
 XT K a.Ah a.Ai,
 O8 K (.ref a.Ah) "word"=My ME,
 WS K a.Aa "__init__" a.Ab]
structure v_ (K:M9) (mg:a0j) (a:Ad):Prop where
 Dz:∀i,(FnL K mg a).getD i True
 D0:mg "ValueError"=ME
 D3:mg "abs"=ME
 D4:mg "any"=ME
 D5:mg "bool"=ME
 D6:mg "enumerate"=ME
 D7:mg "int"=ME
 D8:mg "isinstance"=ME
 D9:mg "len"=ME
 Ea:mg "list"=ME
 Eb:mg "max"=ME
 Ec:mg "min"=ME
 Ed:mg "range"=ME
 Ee:mg "reversed"=ME
 Ef:mg "sorted"=ME
 Eg:mg "sum"=ME
 Eh:mg "tuple"=ME
 Ei:mg "zip"=ME
section
variable{P:Ny}{w:NC}{K:M9}{mg:a0j}{aa:NS}{a:Ad}
def IU(K:M9):Sp:=λa H Q _=>∃(x C:MK) (w y:V),a=[.ref x,w,y]/\H x=My (eL C x ME)/\XC K C/\O8 K (.ref C) "word"=My ME/\∀(d:MK) (c:Hp),c x=My (eL C x (My d))->(∀b o,H b=My o->b≠x->c b=My o)->Q .non c
theorem tF:b4 ["self","word","why"] ["self","word","why"] (af (cz (dk 2) 0)):=fA
theorem w4(N:v_ K mg a):eg P w K mg aa (fh P w) 1 a.Ab a.Ac ["self","word","why"] (IU K):=by
 refine(N.1 77).ok tF (λM H Q E h=>?_) (λj A D s H M Q E n h=>?_)
 .obtain⟨x,C,wd,y,rfl,_⟩:=h
  rfl
 .obtain⟨x,C,wd,y,rfl,l,c,m,k⟩:=h
  refine⟨_,cY (bR (EJ rfl N.D0 (b9 (pv 0) (b9 (pv 2) f8)))) (gQ (ED (pv 0) (pv 1) rfl)),?_⟩;refine⟨_,rfl,_,rfl,x,C,ME,_,rfl,(by show 1<=M1;decide),l,c,?_⟩;refine⟨_,rfl,_,rfl,x,C,rfl,ao,c,m,λd G f=>?_⟩;refine k d _ ao λb o e i=>?_;have g:H d=ME:=by rw[bt f]at G;exact G
  rw[bt i,bt (b5 e g),bt i];exact e
theorem tJ:b4 ["self","why"] ["self","why"] (af (cz (dk 7) 0)):=fA
theorem lQ(N:v_ K mg a):eg P w K mg aa (fh P w) 2 a.Af a.Ag ["self","why"] (xX a.Ae 1):=by
 refine(N.1 80).ok tJ (λG H Q E h=>?_) (λc A D s H G Q E e h=>?_)
 .obtain⟨x,rest,rfl,b,_⟩:=h
  show rest.length+1=2;rw[b]
 .obtain⟨x,rest,rfl,b,f,k⟩:=h
  obtain⟨y,rfl⟩:∃y,rest=[y]:=Ss.mp b;refine⟨_,gQ (bR (qm (N.1 90) (w4 N) e rfl (N.1 79) (N.1 78) .nil iY (b9 (pv 0) (b9 uW (b9 (pv 1) f8))))),?_⟩;exact⟨_,rfl,_,rfl,x,a.Ae,_,y,rfl,f,(N.1 83).xc,(N.1 84),λd g i j=>k _ g i j⟩
theorem we:b4 ["self","why"] ["self","why"] (af (cz (dk 8) 0)):=fA
theorem oE(N:v_ K mg a):eg P w K mg aa (fh P w) 2 a.Ai a.Aj ["self","why"] (xX a.Ah 1):=by
 refine(N.1 85).ok we (λG H Q E h=>?_) (λc A D s H G Q E e h=>?_)
 .obtain⟨x,rest,rfl,b,_⟩:=h
  show rest.length+1=2;rw[b]
 .obtain⟨x,rest,rfl,b,f,k⟩:=h
  obtain⟨y,rfl⟩:∃y,rest=[y]:=Ss.mp b;refine⟨_,gQ (bR (qm (N.1 90) (w4 N) e rfl (N.1 79) (N.1 78) .nil iY (b9 (pv 0) (b9 uW (b9 (pv 1) f8))))),?_⟩;exact⟨_,rfl,_,rfl,x,a.Ah,_,y,rfl,f,(N.1 88).xc,(N.1 89),λd g i j=>k _ g i j⟩
theorem jH:b4 ["_law_bag_here","_law_lot","_law_cells","_law_at","_law_cell"] ["_law_bag_here","_law_lot"] (af (dk 53)):=fA
theorem AO(N:v_ K mg a):eg P w K mg aa (fh P w) 2 a.Co a.Cp ["_law_bag_here","_law_lot"] (J_ K 2 dY):=by
 refine(N.1 38).F.ok (k:=1) jH (λvs H Q E h=>h.1) (λY A x s H vs Q E hr h=>?_);obtain⟨_,F,ds,D,fr,hd,r,Z,e,k⟩:=h;obtain⟨G,rfl,ok,I,h1,rfl,rfl⟩:=BG e;obtain⟨v,w',rfl,d1,d2⟩:=bb.two hd;unfold c4 at d1;obtain⟨b,l,d,rfl⟩:=d1;cases d2.int;obtain⟨t,J⟩:=fr.bag b l d;obtain⟨ab,al,m⟩:=fr.bgA b l d;obtain⟨W,L,ac,X⟩:=ok.at;obtain⟨_,_,ad,_⟩:=wM ok I;have M:((D.cells.map V.int).length:Int)=(D.cells.length:Int):=by rw[MD]
 have O:o_ (D.cells.map V.int) (D.pos:Int)=My (.int D.cell):=Iw (by rw[MM,L];rfl);refine⟨_,cY (qi (i:=2) jH.nd rfl (OC rfl) (dN cb (pv 0) b8 (λ_ _=>rfl)))
  (cY (qi (i:=3) jH.nd rfl (OC rfl) (dX mr (dN cb (pv 0) b8 (λ_ _=>rfl)) (kX mQ (by rfl) N.D9 PySem.boot_len (b9 (pv 2) f8))))
  (cY (qi (i:=4) jH.nd rfl (OC rfl) (dN cb (pv 2) (pv 3) (λ_ _=>rfl)))
  (cY (Gn (wP Gp (pv 4) (dX JJ b8 b8) (u9 _))
   (cY (cm (dX wY (pv 4) (pv 1)) (dM (pv 2) (pv 3) ck)) (gQ (aw (dX mr (pv 4) (pv 1))))) rh)
  (cY (cm (dX qq (dN cb (pv 0) b8 (λ_ _=>rfl)) b8) (dM (pv 0) b8 ck))
  (cY (cm (dX mr (dX JL (dX qq (dX qq (dN cb (pv 0) b8 (λ_ _=>rfl)) (dX mr (pv 4) b8)) b8) b8) b8) (dM (pv 0) b8 ck))
  (gQ (aw (dX mr (dX wY (dN cb (pv 0) b8 (λ_ _=>rfl)) b8) (pv 1))))))))),?_⟩
 refine⟨_,rfl,b,_,_,_,rfl,rfl,et.of t,rfl,?_⟩;refine⟨_,rfl,b,_,_,_,rfl,rfl,et.of t,rfl,_,rfl,l,_,rfl,.inl (et.of J),_,_,rfl,rfl,?_,?_⟩
 .have:=W
  rw[M];lia
 refine⟨_,rfl,_,rfl,l,_,_,_,rfl,rfl,et.of J,by rw[M,X];exact O,?_⟩;refine⟨_,rfl,_,_,rfl,rfl,⟨by decide,by decide,by decide⟩,_,_,rfl,rfl,_,rfl,?_⟩;have S:∀{R:Hp} {p:MK} {o:HO},(∀c,F.A c->R c≠ME)->∀c,F.A c->upd R p o c≠ME:=λ{R p o} f c u z=>by
  by_cases q:c=p
  .subst q;rw[ao]at z;cases z
  .rw[bt q]at z;exact f c u z
 refine Y9 (λg=>?_) (λg=>?_)
 .have W1:(10:Int)^18<=D.cell:=O5 g
  refine⟨_,rfl,_,rfl,_,_,rfl,rfl,⟨I,h1⟩,_,rfl,_,rfl,l,_,_,D.pos,rfl,rfl,J,?_,?_⟩
  .rw[M,X,MD]
   exact nK W
  refine⟨_,rfl,_,rfl,_,_,rfl,rfl,I,?_⟩;have T:jQ D G=D.cell % G:=MU W1;have U:kU D G=⟨D.cells.set D.pos (D.cell/G),D.i,D.j⟩:=MU W1;rw[T,U]at k;refine k _ _ ⟨λc o u n=>by rw[bt (n b l d).2];exact u,S fr.occ,fr.bgA,λb' l' y=>?_⟩ rfl;rw[d]at y;cases y;exact⟨by rw[bt m];exact t,by rw[ao,Pw]⟩
 .have W1:¬(10:Int)^18<=D.cell:=λq=>g (M3 q)
  refine⟨_,rfl,b,_,_,_,rfl,rfl,et.of t,rfl,_,_,rfl,rfl,_,rfl,b,_,_,1,rfl,rfl,t,rfl,?_⟩;have B:(upd H b (.lst [.ref l,.int (D.i+1),.int D.j])) b=My (.lst [.ref l,.int (D.i+1),.int D.j]):=ao;refine⟨_,rfl,b,_,_,_,rfl,rfl,et.of B,rfl,_,rfl,_,_,rfl,rfl,(by show(0:Int)<2147483629;decide),_,_,rfl,rfl,_,_,rfl,rfl,_,_,rfl,rfl,.inr ⟨by decide,by decide⟩,_,_,rfl,rfl,(by show(0:Int)<2147483629;decide),_,rfl,b,_,_,2,rfl,rfl,B,rfl,?_⟩;have C:(upd (upd H b (.lst [.ref l,.int (D.i+1),.int D.j])) b (.lst [.ref l,.int (D.i+1),.int D.nxt])) b=My (.lst [.ref l,.int (D.i+1),.int D.nxt]):=ao;refine⟨_,rfl,b,_,_,_,rfl,rfl,et.of C,rfl,_,_,rfl,rfl,⟨by decide,by decide⟩,_,rfl,_,_,rfl,rfl,I,?_⟩;have T:jQ D G=D.nxt/64 % G:=MS W1;have U:kU D G=⟨D.cells,D.i+1,D.nxt⟩:=MS W1;rw[T,U]at k;refine k _ _ ⟨λc o u n=>by rw[bt (n b l d).1,bt (n b l d).1];exact u,S (S fr.occ),fr.bgA,λb' l' y=>?_⟩ rfl;rw[d]at y;cases y;exact⟨C,by rw[bt m.symm,bt m.symm];exact J⟩
theorem Ey:b4 ["_law_script"] ["_law_script"] (af (dk 52)):=fA
theorem nd1:(["_law_cell"]:a0h).Nodup:=by decide +kernel
theorem EQ(N:v_ K mg a):eg P w K mg aa (fh P w) 1 a.Cm a.Cn ["_law_script"] (Lk K):=by
 refine(N.1 37).F.ok Ey (λS H Q E h=>?_) (λY A M s H S Q E hr h=>?_)
 .obtain⟨a,ns,rfl,_⟩:=h
  rfl
 .obtain⟨a,ns,rfl,Z,k⟩:=h
  refine⟨_,gQ (aw (gz (b9 (dX JO (nh rfl (c_:=["_law_cell"]) (db.plain rfl (by decide +kernel) (by decide +kernel)) (Ht (uX wD (pv 0) wT (wS b8)))
   (λcl C fp s H=>⟨wV (i:=0) nd1 rfl (OC rfl),uV,λD=>aM rfl (kX FG (by rfl) N.D3 Boot.«abs» (b9 (pv 0) f8)) rfl⟩)) (gz (b9 b8 f8))) (b9 b8 (b9 b8 f8))))),?_⟩
  obtain⟨q,J,ab⟩:=Mz ns;refine⟨_,rfl,63,rfl,a,_,rfl,Z,λp hp=>?_⟩;rw[J];have O:bS H (upd H p (.lst (q.map V.int))):=bS.upd hp;refine⟨p,rfl,⟨_,et.of ao⟩,λD B=>?_⟩;have r:D≠p:=λz=>by subst z;rw[ao]at B;cases B
  refine y8 (xs:=q.map V.int) (λi I g=>∃G:a0c,(∃v,I=[v])/\G.length=i/\(∀c∈G,0<=c)/\g D=My (.lst (G.map V.int))/\g p=My (.lst (q.map V.int))/\bS H g) ⟨[],⟨_,rfl⟩,rfl,(λ_ h=>nomatch h),ao,by rw[bt r.symm,ao],O.trans (bS.upd B)⟩
   (λi I g _ ⟨_,_,_,_,_,e,_⟩=>et.of e) ?_ ?_
  .rintro i x I g n ⟨G,⟨v,rfl⟩,l,m,d,t,u⟩
   have ac:i<q.length:=by have:=(MR.mp n).1;rwa[MD]at this
   obtain⟨z,rfl⟩:∃z,x=V.int z:=by
    rw[MM]at n;cases e:q[i]? with
    |none=>rw[e]at n;cases n
    |some z=>rw[e]at n;exact⟨z,(Np n).symm⟩
   unfold fQ IM;refine Y8 ?_;refine⟨_,rfl,_,rfl,G.map V.int,d,by rw[MD];exact sr (by lia),G++[if z<0 then -z else z],⟨_,rfl⟩,by rw[Nb,l];rfl,λc hc=>?_,by rw[ao,NH];rfl,by rw[bt r.symm];exact t,λb o e=>?_⟩
   .rcases NP.mp hc with hc|hc
    .exact m c hc
    .obtain rfl:c=_:=by simpa using hc
     split<;>lia
   .rw[bt (b5 e (O.free B))]
    exact u b o e
  .rintro I g ⟨G,⟨v,rfl⟩,l,m,d,t,u⟩
   rw[MD]at l;refine⟨by decide,λR j=>⟨D,R,_,_,rfl,rfl,by rw[bt (b5 d j)];exact d,ao,by rw[MD];exact Sz (sr (by simp;lia)),λT y=>⟨(by show 3<=M1;decide),λU f=>?_⟩⟩⟩;have W:bS g (upd g R (.lst [V.int 1])):=bS.upd j;have X:=W.trans (bS.upd (o:= .lst (G.map V.int++[V.int 1])) y);have L:T≠U:=λz=>by subst z;rw[ao]at f;cases f
   refine k U T _ ((u.trans X).free f) ((u.trans W).free y) ⟨G++[1],0,0,ao,by rw[bt L,ao,NH];rfl,by simp,by rw[Nb];simp;lia,λc hc=>?_,by decide⟩ ((u.trans X).trans (bS.upd f));rcases NP.mp hc with hc|hc
   .exact m c hc
   .obtain rfl:c=1:=by simpa using hc
    decide
theorem aP(N:v_ K mg a):FB P w K mg aa 2 "_law_pull" a.Co a.Cp ["_law_bag_here","_law_lot"] 2 dY:=⟨AO N,(N.1 38).m,(N.1 38).F.kp,(N.1 38).b⟩
abbrev QF(K:M9)(a:Ad)(k:Nat)(x:NA)(f:MK)(d:Nk)(E:a0h)(n:Nat):={m:a0d->M D//∀{P:Ny} {w:NC} {mg:a0j} {aa:NS} (N:v_ K mg a),FB P w K mg aa k x f d E n m}
abbrev QM(K:M9)(a:Ad)(k:Nat)(f:MK)(d:Nk)(E:a0h)(n:Nat):={m:a0d->M D//∀{P:Ny} {w:NC} {mg:a0j} {aa:NS} (N:v_ K mg a),eg P w K mg aa (fh P w) k f d E (J_ K n m)}
theorem Hh:b4 ["rows","columns","pair"] ["rows","columns","pair"] (af (dk 14)):=fA
def Jn(K:M9)(a:Ad):QM K a 2 a.Am a.An ["rows","columns","pair"] 3:=⟨_,λN=>by
 exact lx (k:=1) 3 3 _ (N.1 4) Hh rfl rfl λb A w s H E d=>aj (aF (aw (bx rfl (iv ["row","pair","columns"] ["row"] [2,1]) (bZ (by rfl) N.Ed (dc (vv 0))) (λG C c s H=>⟨(dv 0 fx),aQ,λD=>aM rfl (bx rfl (iv ["column","pair"] ["column"] [1]) (bZ (by rfl) N.Ed (dc (vv 2))) (λG C c s H=>⟨(dv 0 fx),aQ,λD=>aM rfl (vv 1) rfl⟩) aq ax (λD=>aS)) rfl⟩) aq ax (λD=>aS))))⟩
theorem tK:b4 ["rowsums","columnsums"] ["rowsums","columnsums"] (af (dk 15)):=fA
def jt(K:M9)(a:Ad):QF K a 2 "check_sums" a.Ao a.Aq ["rowsums","columnsums"] 2:=⟨_,λN=>by
 exact io 2 (N.1 7) tK λb A w s H E c=>ac (bJ (kP (qY hX hX j8 j8 (ah) (cj N.D9 (dc (vv 0))) (lU (N.1 2)))) (aj (fL)) (bq))
   (ac (bJ (kP (qY hX hX j8 j8 (ah) (cj N.D9 (dc (vv 1))) (lU (N.1 1)))) (aj (fL)) (bq))
   (ac (bJ (gv (j4 (jG (da (jY rfl) t8 (by rfl) N.D4 Boot.«any» (dc (bx rfl (iv ["many"] ["many"] []) (bj (vv 0)) (λG C d s H=>⟨(dv 0 fx),aQ,λD=>aM rfl (iR iZ k8 (vv 0) (ah)) rfl⟩) aq ax (λD=>aS))))) (iP (jG (da (jY rfl) t8 (by rfl) N.D4 Boot.«any» (dc (bx rfl (iv ["many"] ["many"] []) (bj (vv 1)) (λG C d s H=>⟨(dv 0 fx),aQ,λD=>aM rfl (iR iZ k8 (vv 0) (ah)) rfl⟩) aq ax (λD=>aS)))))))) (aj (fL)) (bq))
   (ac (bJ (aY (eM c) gh (jh N.Eg (dc (vv 0))) (jh N.Eg (dc (vv 1)))) (aj (fL)) (bq))
   (aj (bJ (aY qp vq (jh N.Eg (dc (vv 0))) (lU (N.1 0))) (aj (fL)) (bq))))))⟩
theorem iD:b4 ["pair","low","high"] ["pair"] (af (dk 16)):=fA
def ju(K:M9)(a:Ad):QF K a 2 "check_pair" a.Ar a.As ["pair"] 1:=⟨_,λN=>by
 exact io 3 (N.1 8) iD λb A w s H E c=>ac (qc (eP (aX aE (aX aE dG)) (aW (aW cW))) (cm (vv 0) (bM rfl (au (dv 1 iD.nd) (au (dv 2 iD.nd) bz)))))
   (aj (bJ (kP (El hX hX hX j8 j8 j8 (ah) (vv 1) (vv 2) (lU (N.1 0)))) (aj (fL)) (bq)))⟩
theorem fV:b4 ["bounds","rows","columns","pairs","pair"] ["bounds","rows","columns"] (af (dk 17)):=fA
def dj(K:M9)(a:Ad):QF K a 3 "settled_bounds" a.At a.Au ["bounds","rows","columns"] 3:=⟨_,λN=>by
 exact io 5 (N.1 9) fV λd A w s H E b=>ac (bJ (aY JM LK (vv 0) (La)) (aj (aF (aw (G3 ((Jn K a).2 N) (b.mono (by decide)) (by rfl) (N.1 5) (N.1 4).kp (N.1 6) cf (d_ (vv 1) (vv 2)) (λG M r c h=>by rw[(aU (aU tx)) G M r c h];rfl))))) (bq))
   (ac (bJ (gv (j4 (aY (eM b) gh (cj N.D9 (dc (vv 0))) (vv 1)) (iP (jG (da (jY rfl) t8 (by rfl) N.D4 Boot.«any» (dc (bx rfl (iv ["pairs","columns"] ["pairs"] [2]) (bj (vv 0)) (λP C e s H=>⟨(dv 0 fx),aQ,λD=>aM rfl (iR (eM b) gh (cj N.D9 (dc (vv 0))) (vv 1)) rfl⟩) aq ax (λD=>aS)))))))) (aj (fL)) (bq))
   (ac (bU aE (bB cQ rfl (bj (vv 0)) (dv 3 fV.nd) (aj (bU aE (bB cQ rfl (bj (vv 3)) (dv 4 fV.nd) (aj (fZ (bR (vc ((ju K a).2 N) b (dc (vv 4)))))))))))
   (aj (aF (aw (bx rfl (iv ["pairs"] ["pairs"] []) (bj (vv 0)) (λP C e s H=>⟨(dv 0 fx),aQ,λD=>aM rfl (bY dA kC (by rfl) N.Ea Boot.«list» (dc (vv 0))) rfl⟩) aq ax (λD=>aS)))))))⟩
theorem rb:b4 ["rows"] ["rows"] (af (dk 18)):=fA
def dD(K:M9)(a:Ad):QF K a 2 "rows_turned" a.Av a.Aw ["rows"] 1:=⟨_,λN=>by
 exact io 1 (N.1 10) rb λb A w s H E d=>aj (aF (aw (bx rfl (iv ["column","rows"] ["column"] [0]) (bZ (by rfl) N.Ed (dc (cj N.D9 (dc (aT aA aV (vv 0) (ah)))))) (λG C c s H=>⟨(dv 0 fx),aQ,λD=>aM rfl (bx rfl (iv ["cells","column"] ["cells"] [0]) (bj (vv 1)) (λG C c s H=>⟨(dv 0 fx),aQ,λD=>aM rfl (aT aA aV (vv 0) (vv 1)) rfl⟩) aq ax (λD=>aS)) rfl⟩) aq ax (λD=>aS))))⟩
theorem gx:b4 ["number","product","factor"] ["number"] (af (dk 20)):=fA
def hG(K:M9)(a:Ad):QF K a 2 "factorial" a.Ax a.Ay ["number"] 1:=⟨_,λN=>by
 exact io 3 (N.1 11) gx λb A w s H E c=>ac (aD (ej 1 gx.nd (ah)))
   (ac (bU aE (bB cQ rfl (vG (by rfl) N.Ed (d_ (ah) (aL aO bV (vv 0) (ah)))) (dv 2 gx.nd) (aj (fM rA (d9 (i:=1) gx.nd rfl (by first|exact OC rfl|exact O6 rfl) (vv 2) rE)))))
   (aj (aF (aw (vv 1)))))⟩
theorem ki:b4 ["parts","part","told"] ["parts"] (af (dk 21)):=fA
def kz(K:M9)(a:Ad):QF K a 4 "ways" a.Az a.A0 ["parts"] 1:=⟨_,λN=>by
 exact io 3 (N.1 12) ki λd A w s H E b=>ac (bU aE (bB cQ rfl (bj (vv 0)) (dv 1 ki.nd) (aj (bJ (aY iZ k8 (vv 1) (ah)) (aj (m9 (N.1 83).xc (aU tx) (by decide) (kW b.hd (ql (N.1 83) (lQ N) (b.mono (by decide)) rfl (N.1 82) (N.1 81) .nil iY (dc (uw (c:=((N9 "a part of ").length+(1921+((N9 " is below nought").length+0)))) (nF (ub (vv 1) (nF (yG)))) (by decide +kernel))))))) (bq)))))
   (ac (aD (ej 2 ki.nd (vc ((hG K a).2 N) b (dc (da (DC rfl) J5 (by rfl) N.Eg Boot.«sum» (dc (vv 0)))))))
   (ac (bU aE (bB cQ rfl (bj (vv 0)) (dv 1 ki.nd) (aj (fM vp (d9 (i:=2) ki.nd rfl (by first|exact OC rfl|exact O6 rfl) (vc ((hG K a).2 N) b (dc (vv 1))) xa)))))
   (aj (aF (aw (vv 2))))))⟩
theorem c9:b4 ["rests","many","pairs","lows","tops","begun","row","fewest_behind","most_behind"] ["rests","many","pairs"] (af (dk 22)):=fA
def kS(K:M9)(a:Ad):QF K a 2 "fillings" a.A1 a.A3 ["rests","many","pairs"] 3:=⟨_,λN=>by
 exact io 9 (N.1 13) c9 λc A w s H E d=>ac (aD (ej 3 c9.nd (bx rfl (iv ["low","high"] ["low","high"] []) (bj (vv 2)) (λG C b s H=>⟨(bM rfl (au (dv 0 fx) (au (dv 1 fx) bz))),aQ,λD=>aM rfl (vv 0) rfl⟩) (ft (bi aq (bi aq eA)) (bc (bc dg))) (ff (bf ax (bf ax dZ))) (λD=>aS))))
   (ac (aD (ej 4 c9.nd (bx rfl (iv ["rest","low","high"] ["rest","low","high"] []) (uc (by rfl) N.Ei (d_ (vv 0) (vv 2))) (λG C b s H=>⟨(bM rfl (au (dv 0 fx) (au (bM rfl (au (dv 1 fx) (au (dv 2 fx) bz))) bz))),aQ,λD=>aM rfl (da (mP rfl) yC (by rfl) N.Ec Boot.«min» (d_ (vv 0) (vv 2))) rfl⟩) (ft (bi aq (bi (ft (bi aq (bi aq eA)) (bc (bc dg))) eA)) (bc (bc dg))) (ff (bf ax (bf (ff (bf ax (bf ax dZ))) dZ))) (λD=>aS))))
   (ac (aD (ej 5 c9.nd (gc (dc (cZ (d_ (cZ (gu)) (vv 1)))))))
   (ac (bU aE (bB cQ rfl (bZ (by rfl) N.Ed (dc (cj N.D9 (dc (vv 0))))) (dv 6 c9.nd) (ac (aD (ej 7 c9.nd (jh N.Eg (dc (wu (vv 3) (AU (aL aO bV (vv 6) (ah))) (AV))))))
   (ac (aD (ej 8 c9.nd (jh N.Eg (dc (wu (vv 4) (AU (aL aO bV (vv 6) (ah))) (AV))))))
   (aj (pU (i:=5) c9.nd rfl (by first|exact OC rfl|exact O6 rfl) rfl (iv ["counts","left","count","lows","row","most_behind","tops","fewest_behind"] ["counts","left","count"] [3,6,8,4,7]) (bj (vv 5)) (λG C b s H=>⟨(bM rfl (au (dv 0 fx) (au (dv 1 fx) bz))),aQ,λD=>rm rfl rfl rfl (vG (by rfl) N.Ed (d_ (da (sZ rfl) GA (by rfl) N.Eb Boot.«max» (d_ (aT aA aV (vv 3) (vv 4)) (aL bH cg (vv 1) (vv 5)))) (aL aO bV (da (mP rfl) yC (by rfl) N.Ec Boot.«min» (d_ (aT aA aV (vv 6) (vv 4)) (aL bH cg (vv 1) (vv 7)))) (ah)))) (dv 2 fx) (aQ) (aM rfl (cZ (d_ (aL aO bV (vv 0) (cZ (dc (vv 2)))) (aL bH cg (vv 1) (vv 2)))) rfl)⟩) (ft (bi aq (bi aq eA)) (bc (bc dg))) (ff (bf ax (bf ax dZ))) (λD=>HS aq ax (aS))))))))
   (aj (aF (aw (bx rfl (iv ["counts","left"] ["counts","left"] []) (bj (vv 5)) (λG C b s H=>⟨(bM rfl (au (dv 0 fx) (au (dv 1 fx) bz))),uk (aY (cR d) dO (vv 1) (ah)),λD=>aM rfl (vv 0) rfl⟩) (ft (bi aq (bi aq eA)) (bc (bc dg))) (ff (bf ax (bf ax dZ))) (λD=>aS))))))))⟩
theorem x6:b4 ["rowsums","over"] ["rowsums","over"] (af (dk 24)):=fA
def mn(K:M9)(a:Ad):QF K a 2 "need_of" a.A4 a.A5 ["rowsums","over"] 2:=⟨_,λN=>by
 exact io 2 (N.1 14) x6 λb A w s H E c=>aj (aF (aw (jh N.Eg (dc (bx rfl (iv ["row","rowsums"] ["row"] [0]) (bj (vv 1)) (λG C d s H=>⟨(dv 0 fx),aQ,λD=>aM rfl (aT aA aV (vv 1) (vv 0)) rfl⟩) aq ax (λD=>aS))))))⟩
theorem kj:b4 ["columnsums","bounds","over","column","lows"] ["columnsums","bounds","over","column"] (af (dk 25)):=fA
def dE(K:M9)(a:Ad):QF K a 2 "room_inside" a.A6 a.A7 ["columnsums","bounds","over","column"] 4:=⟨_,λN=>by
 exact io 5 (N.1 15) kj λb A w s H E c=>ac (pU (i:=4) kj.nd rfl (by first|exact OC rfl|exact O6 rfl) rfl (iv ["row","pairs","over","column"] ["row","pairs"] [2,3]) (kE (by rfl) N.D6 (dc (vv 1))) (λG C d s H=>⟨(bM rfl (au (dv 0 fx) (au (dv 1 fx) bz))),uk (aY uZ (J7 (neg:=MH)) (vv 0) (vv 2)),λD=>aM rfl (aT aA aV (aT aA aV (vv 1) (vv 3)) (ah)) rfl⟩) (ft (bi aq (bi aq eA)) (bc (bc dg))) (ff (bf ax (bf ax dZ))) (λD=>aS))
   (aj (aF (aw (aL bH cg (aT aA aV (vv 0) (vv 3)) (jh N.Eg (dc (vv 4)))))))⟩
theorem rc:b4 ["bounds","over","column"] ["bounds","over","column"] (af (dk 26)):=fA
def dF(K:M9)(a:Ad):QF K a 2 "room_beside" a.A8 a.A9 ["bounds","over","column"] 3:=⟨_,λN=>by
 exact io 3 (N.1 16) rc λb A w s H E c=>aj (aF (aw (jh N.Eg (dc (bx rfl (iv ["row","bounds","column"] ["row"] [0,2]) (bj (vv 1)) (λG C d s H=>⟨(dv 0 fx),aQ,λD=>aM rfl (aT aA aV (aT aA aV (aT aA aV (vv 1) (vv 0)) (vv 2)) (ah)) rfl⟩) aq ax (λD=>aS))))))⟩
theorem x5:b4 ["columnsums","bounds","over","into"] ["columnsums","bounds","over","into"] (af (dk 27)):=fA
def ml(K:M9)(a:Ad):QF K a 3 "room_of" a.Ba a.Bb ["columnsums","bounds","over","into"] 4:=⟨_,λN=>by
 exact io 4 (N.1 17) x5 λc A w s H E b=>aj (aF (aw (jh N.Eg (dc (bx rfl (iv ["column","into","columnsums","bounds","over"] ["column"] [3,0,1,2]) (bZ (by rfl) N.Ed (dc (cj N.D9 (dc (vv 0))))) (λG C d s H=>⟨(dv 0 fx),aQ,λD=>aM rfl (X8 (aY AN (J7 (neg:=ML)) (vv 0) (vv 1)) (vc ((dE K a).2 N) b (si (vv 2) (vv 3) (vv 4) (vv 0))) (vc ((dF K a).2 N) b (ss (vv 3) (vv 4) (vv 0)))) rfl⟩) aq ax (λD=>aS))))))⟩
theorem uJ:b4 ["columnsums","bounds","over"] ["columnsums","bounds","over"] (af (dk 28)):=fA
def j5(K:M9)(a:Ad):QF K a 3 "narrowest" a.Bc a.Bd ["columnsums","bounds","over"] 3:=⟨_,λN=>by
 exact io 3 (N.1 18) uJ λc A w s H E b=>aj (aF (aw (bx rfl (iv ["column","columnsums","bounds","over"] ["column"] [0,1,2]) (bZ (by rfl) N.Ed (dc (cj N.D9 (dc (vv 0))))) (λG C d s H=>⟨(dv 0 fx),uk (aY iZ k8 (vc ((dE K a).2 N) b (si (vv 1) (vv 2) (vv 3) (vv 0))) (vc ((dF K a).2 N) b (ss (vv 2) (vv 3) (vv 0)))),λD=>aM rfl (vv 0) rfl⟩) aq ax (λD=>aS))))⟩
theorem iU:b4 ["many","told","number"] ["many"] (af (dk 29)):=fA
def mo(K:M9)(a:Ad):QF K a 2 "choices" a.Be a.Bf ["many"] 1:=⟨_,λN=>by
 exact io 3 (N.1 19) iU λb A w s H E c=>ac (aD (ej 1 iU.nd (gc (dc (gc (gu))))))
   (ac (bU aE (bB cQ rfl (bZ (by rfl) N.Ed (dc (vv 0))) (dv 2 iU.nd) (aj (aD (ej 1 iU.nd (aL aO bV (vv 1) (bx rfl (iv ["chosen","number"] ["chosen"] [2]) (bj (vv 1)) (λG C d s H=>⟨(dv 0 fx),aQ,λD=>aM rfl (aL aO bV (vv 0) (gc (dc (vv 1)))) rfl⟩) aq ax (λD=>aS))))))))
   (aj (aF (aw (vv 1)))))⟩
theorem jj:b4 ["rowsums","columnsums","bounds","over","into"] ["rowsums","columnsums","bounds"] (af (dk 30)):=fA
def f7(K:M9)(a:Ad):QF K a 4 "check_fit" a.Bh a.Bi ["rowsums","columnsums","bounds"] 3:=⟨_,λN=>by
 exact io 5 (N.1 20) jj λc A w s H E b=>aj (bU aE (bB cQ rfl (bj (vc ((mo K a).2 N) b (dc (cj N.D9 (dc (vv 0)))))) (dv 3 jj.nd) (ac (aD (ej 4 jj.nd (vc ((j5 K a).2 N) b (ss (vv 1) (vv 2) (vv 3)))))
   (aj (bJ (aY qp vq (vc ((mn K a).2 N) b (d_ (vv 0) (vv 3))) (vc ((ml K a).2 N) b (si (vv 1) (vv 2) (vv 3) (vv 4)))) (aj (fL)) (bq))))))⟩
theorem gf:b4 ["rowsums","wide","many"] ["rowsums"] (af (dk 33)):=fA
def jr(K:M9)(a:Ad):QF K a 2 "check_wide" a.Bj a.Bk ["rowsums"] 1:=⟨_,λN=>by
 exact io 3 (N.1 21) gf λb A w s H E c=>ac (aD (ej 1 gf.nd (ah)))
   (ac (bU aE (bB cQ rfl (bj (vv 0)) (dv 2 gf.nd) (aj (fM rA (d9 (i:=1) gf.nd rfl (by first|exact OC rfl|exact O6 rfl) (aL aO bV (vv 2) (ah)) rE)))))
   (aj (bJ (aY qp vq (vv 1) (lU (N.1 3))) (aj (fL)) (bq))))⟩
theorem ie:b4 ["rowsums","columnsums","bounds","settled"] ["rowsums","columnsums","bounds"] (af (dk 34)):=fA
def dW(K:M9)(a:Ad):QF K a 4 "settled_for_net" a.Bl a.Bm ["rowsums","columnsums","bounds"] 3:=⟨_,λN=>by
 exact io 4 (N.1 22) ie λc A w s H E b=>ac (fZ (bR (vc ((jt K a).2 N) b (d_ (vv 0) (vv 1)))))
   (ac (aD (ej 3 ie.nd (vc ((dj K a).2 N) b (ss (vv 2) (cj N.D9 (dc (vv 0))) (cj N.D9 (dc (vv 1)))))))
   (ac (fZ (bR (vc ((jr K a).2 N) b (dc (vv 0)))))
   (aj (aF (aw (vv 3))))))⟩
theorem l7:b4 ["rests","columnsums","bounds","column"] ["rests","columnsums","bounds","column"] (af (dk 35)):=fA
def cu(K:M9)(a:Ad):QF K a 3 "column_fillings" a.Bn a.Bo ["rests","columnsums","bounds","column"] 4:=⟨_,λN=>by
 exact io 4 (N.1 23) l7 λb A w s H E c=>aj (aF (aw (vc ((kS K a).2 N) c (ss (vv 0) (aT aA aV (vv 1) (vv 3)) (bx rfl (iv ["pairs","column"] ["pairs"] [3]) (bj (vv 2)) (λG C d s H=>⟨(dv 0 fx),aQ,λD=>aM rfl (aT aA aV (vv 0) (vv 1)) rfl⟩) aq ax (λD=>aS))))))⟩
theorem pQ:b4 ["rests","counts"] ["rests","counts"] (af (dk 36)):=fA
def bF(K:M9)(a:Ad):QF K a 2 "rests_behind" a.Bp a.Bq ["rests","counts"] 2:=⟨_,λN=>by
 exact io 2 (N.1 24) pQ λb A w s H E c=>aj (aF (aw (bY bW fN (by rfl) N.Eh Boot.«tuple» (dc (bx rfl (iv ["rest","count"] ["rest","count"] []) (uc (by rfl) N.Ei (d_ (vv 0) (vv 1))) (λG C d s H=>⟨(bM rfl (au (dv 0 fx) (au (dv 1 fx) bz))),aQ,λD=>aM rfl (aL bH cg (vv 0) (vv 1)) rfl⟩) (ft (bi aq (bi aq eA)) (bc (bc dg))) (ff (bf ax (bf ax dZ))) (λD=>aS))))))⟩
theorem cr:b4 ["rowsums","columnsums","bounds","here","told","column","behind"] ["rowsums","columnsums","bounds"] (af (dk 37)):=fA
def gn(K:M9)(a:Ad):QF K a 4 "nodes_by_level" a.Br a.Bs ["rowsums","columnsums","bounds"] 3:=⟨_,λN=>by
 exact io 7 (N.1 25) cr λc A w s H E b=>ac (aD (ej 3 cr.nd (gc (dc (bY bW fN (by rfl) N.Eh Boot.«tuple» (dc (vv 0)))))))
   (ac (pV (ej 4 cr.nd (gz (dc (vv 3)))))
   (ac (bU aE (bB cQ rfl (bZ (by rfl) N.Ed (dc (cj N.D9 (dc (vv 1))))) (dv 5 cr.nd) (ac (aD (ej 6 cr.nd (DY (by rfl) N.Ef rfl (iv ["rests","counts","columnsums","bounds","column"] ["rests","counts"] [1,2,5]) (bj (vv 3)) (λG C d s H=>⟨(dv 0 fx),aQ,λD=>rm rfl rfl rfl (bj (vc ((cu K a).2 N) b (si (vv 0) (vv 2) (vv 3) (vv 4)))) (dv 1 fx) (aQ) (uY (ue b) rfl (vc ((bF K a).2 N) b (d_ (vv 0) (vv 1))) rfl)⟩) aq ax (λD=>oZ aq ax (E9)))))
   (ac (qd (bR (qo Pz Pq Pr ik (pv 4) (dc (vv 6)))))
   (aj (aD (ej 3 cr.nd (vv 6))))))))
   (aj (aF (aw (vv 4))))))⟩
theorem b6:b4 ["rests","filled","behind","tables","dealings","counts","tables_behind","dealings_behind"] ["rests","filled","behind"] (af (dk 38)):=fA
def iF(K:M9)(a:Ad):QF K a 5 "node_counts" a.Bt a.Bu ["rests","filled","behind"] 3:=⟨_,λN=>by
 exact io 8 (N.1 26) b6 λc A w s H E b=>ac (aD (ej 3 b6.nd (ah)))
   (ac (aD (ej 4 b6.nd (ah)))
   (ac (bU aE (bB cQ rfl (bj (vv 1)) (dv 5 b6.nd) (ac (qc (eP (aX aE (aX aE dG)) (aW (aW cW))) (cm (aT (BW (Zc b)) LL (vv 2) (vc ((bF K a).2 N) b (d_ (vv 0) (vv 5)))) (bM rfl (au (dv 6 b6.nd) (au (dv 7 b6.nd) bz)))))
   (ac (fM gU (d9 (i:=3) b6.nd rfl (by first|exact OC rfl|exact O6 rfl) (vv 6) jy))
   (aj (fM gU (d9 (i:=4) b6.nd rfl (by first|exact OC rfl|exact O6 rfl) (aL rn yB (vc ((kz K a).2 N) b (dc (vv 5))) (vv 7)) jy)))))))
   (aj (aF (aw (cZ (d_ (vv 3) (vv 4))))))))⟩
theorem bK:b4 ["rowsums","columnsums","bounds","levels","last","here","told","level","behind"] ["rowsums","columnsums","bounds"] (af (dk 39)):=fA
def eY(K:M9)(a:Ad):QF K a 6 "counted_nodes" a.Bv a.Bw ["rowsums","columnsums","bounds"] 3:=⟨_,λN=>by
 exact io 9 (N.1 27) bK λe A w s H E c=>ac (aD (ej 3 bK.nd (vc ((gn K a).2 N) c (ss (vv 0) (vv 1) (vv 2)))))
   (ac (aD (ej 4 bK.nd (cj N.D9 (dc (vv 1)))))
   (ac (zY (kb:=ML) (i:=5) bK.nd rfl (by first|exact OC rfl|exact O6 rfl) rfl (iv ["rests"] ["rests"] []) (bj (aT aA aV (vv 3) (vv 4))) (λG C d s H=>⟨(dv 0 fx),aQ,λD=>kY (b:=ML) (ue c) rfl (vv 0) (cZ (d_ (ah) (ah))) rfl⟩) aq ax (λD=>o5))
   (ac (pV (ej 6 bK.nd (gz (dc (vv 5)))))
   (ac (bU aE (bB cQ rfl (Fj (by rfl) N.Ee (by rfl) N.Ed (dc (vv 4))) (dv 7 bK.nd) (ac (aD (ej 8 bK.nd (vv 5)))
   (ac (zY (kb:=ML) (i:=5) bK.nd rfl (by first|exact OC rfl|exact O6 rfl) rfl (iv ["rests","columnsums","bounds","level","behind"] ["rests"] [1,2,7,8]) (bj (aT aA aV (vv 3) (vv 7))) (λG C d s H=>⟨(dv 0 fx),aQ,λD=>kY (b:=ML) (ue c) rfl (vv 0) (vc ((iF K a).2 N) c (ss (vv 0) (vc ((cu K a).2 N) c (si (vv 0) (vv 1) (vv 2) (vv 3))) (vv 4))) rfl⟩) aq ax (λD=>o5))
   (aj (qd (bR (qo Pz Pq Pr ik (pv 6) (dc (vv 5))))))))))
   (aj (aF (aw (G2 (kb:=MH) rfl (iv ["level","nodes","rests","counts"] ["level","nodes","rests","counts"] []) (kE (by rfl) N.D6 (dc (K9 (vv 6) (X7 IC LG (ah))))) (λG C d s H=>⟨(bM rfl (au (dv 0 fx) (au (dv 1 fx) bz))),aQ,λD=>rm rfl rfl rfl (HZ (vv 1)) (bM rfl (au (dv 2 fx) (au (dv 3 fx) bz))) (aQ) (kY (b:=MH) (ue c) rfl (cZ (d_ (vv 0) (vv 2))) (vv 3) rfl)⟩) (ft (bi aq (bi aq eA)) (bc (bc dg))) (ff (bf ax (bf ax dZ))) (λD=>oZ (ft (bi aq (bi aq eA)) (bc (bc dg))) (ff (bf ax (bf ax dZ))) (o5))))))))))⟩
theorem pS:b4 ["k","many"] ["k","many"] (af (dk 42)):=fA
def d7(K:M9)(a:Ad):QF K a 4 "check_number" a.Bx a.By ["k","many"] 2:=⟨_,λN=>by
 exact io 2 (N.1 28) pS λd A w s H E b=>aj (bJ (kP (qY hX iZ j8 k8 (ah) (vv 0) (vv 1))) (aj (m9 (N.1 83).xc (aU tx) (by decide) (kW b.hd (ql (N.1 83) (lQ N) (b.mono (by decide)) rfl (N.1 82) (N.1 81) .nil iY (dc (uw (c:=((N9 "there is no number ").length+(1921+((N9 " among ").length+(1921+0))))) (nF (ub (vv 0) (nF (ub (vv 1) (yG))))) (by decide +kernel))))))) (bq))⟩
theorem oU:b4 ["self","level","rests"] ["self","level","rests"] (af (cz (dk 40) 6)):=fA
def dL(K:M9)(a:Ad):QM K a 2 a.Dl a.Dm ["self","level","rests"] 3:=⟨_,λN=>by
 exact lx (k:=1) 3 3 _ (N.1 56) oU rfl rfl λb A w s H E c=>aj (aF (aw (Lc (Zc c) (iQ (N.1 71) (N.1 74) (vv 0)) (d_ (cZ (d_ (vv 1) (vv 2))) (cZ (d_ (ah) (ah)))))))⟩
theorem uL:b4 ["self","level","rests"] ["self","level","rests"] (af (cz (dk 40) 9)):=fA
def j6(K:M9)(a:Ad):QM K a 4 a.Dt a.Du ["self","level","rests"] 3:=⟨_,λN=>by
 exact lx (k:=3) 3 3 _ (N.1 65) uL rfl rfl λd A w s H E b=>ac (bJ (gv (j4 (aY (wX (Zc b)) LF (cZ (d_ (vv 1) (vv 2))) (iQ (N.1 71) (N.1 74) (vv 0))) (iP (aY (cR b) dO (vv 1) (cj N.D9 (dc (iQ (N.1 71) (N.1 73) (vv 0)))))))) (aj (aF (aw (gc (gu))))) (bq))
   (aj (aF (aw (bx rfl (iv ["counts","self","level","rests"] ["counts"] [0,1,2]) (bj (vc ((cu K a).2 N) b (si (vv 2) (iQ (N.1 71) (N.1 73) (vv 0)) (iQ (N.1 71) (N.1 75) (vv 0)) (vv 1)))) (λP C e s H=>⟨(dv 0 fx),uk (aY qp vq (aT aA aV (lT (N.1 71) (N.1 57) ((dL K a).2 N) (b.mono (by decide)) (bO.nil (N.1 58)) iY (vv 1) (d_ (aL aO bV (vv 2) (ah)) (vc ((bF K a).2 N) b (d_ (vv 3) (vv 0)))) (λG M r c h=>by rw[(aU (aU tx)) G M r c h];rfl)) (ah)) (ah)),λD=>aM rfl (vv 0) rfl⟩) aq ax (λD=>aS)))))⟩
theorem dh:b4 ["net","level","rests","told","counts","tables","dealings"] ["net","level","rests"] (af (dk 43)):=fA
def dI(K:M9)(a:Ad):QF K a 5 "steps_counted" a.Bz a.B0 ["net","level","rests"] 3:=⟨_,λN=>by
 exact io 7 (N.1 29) dh λd A w s H E c=>ac (pV (ej 3 dh.nd (gz (gu))))
   (ac (bU aE (bB cQ rfl (bj (lT (N.1 71) (N.1 66) ((j6 K a).2 N) (c.mono (by decide)) (bO.nil (N.1 67)) cf (vv 0) (d_ (vv 1) (vv 2)) (λD G r b h=>by rw[(aU (aU tx)) D G r b h];rfl))) (dv 4 dh.nd) (ac (qc (eP (aX aE (aX aE dG)) (aW (aW cW))) (cm (lT (N.1 71) (N.1 57) ((dL K a).2 N) (c.mono (by decide)) (bO.nil (N.1 58)) cf (vv 0) (d_ (aL aO bV (vv 1) (ah)) (vc ((bF K a).2 N) c (d_ (vv 2) (vv 4)))) (λD G r b h=>by rw[(aU (aU tx)) D G r b h];rfl)) (bM rfl (au (dv 5 dh.nd) (au (dv 6 dh.nd) bz)))))
   (aj (qd (bR (qo Pz Pq Pr ik (pv 3) (dc (cZ (ss (vv 4) (vv 5) (aL rn yB (vc ((kz K a).2 N) c (dc (vv 4))) (vv 6))))))))))))
   (aj (aF (aw (vv 3)))))⟩
theorem g9:b4 ["numbered","k","at"] ["numbered","k"] (af (dk 44)):=fA
def iX(K:M9)(a:Ad):QF K a 2 "falls_to" a.B5 a.B7 ["numbered","k"] 2:=⟨_,λN=>by
 exact io 3 (N.1 30) g9 λb A w s H E c=>ac (aD (ej 2 g9.nd (ah)))
   (ac (Hi cQ (aY Gp YM (vv 1) (aT aA aV (aT aA aV (vv 0) (vv 2)) (ah))) (ac (fM HU (d9 (i:=1) g9.nd rfl (by first|exact OC rfl|exact O6 rfl) (aT aA aV (aT aA aV (vv 0) (vv 2)) (ah)) Kq))
   (aj (fM gU (d9 (i:=2) g9.nd rfl (by first|exact OC rfl|exact O6 rfl) (ah) jy)))))
   (aj (aF (aw (cZ (d_ (aT aA aV (aT aA aV (vv 0) (vv 2)) (ah)) (vv 1)))))))⟩
theorem tL:b4 ["self"] ["self"] (af (cz (dk 40) 7)):=fA
def cP(K:M9)(a:Ad):QM K a 3 a.Dv a.Dw ["self"] 1:=⟨_,λN=>by
 exact lx (k:=2) 1 1 _ (N.1 68) tL rfl rfl λc A w s H E d=>aj (aF (aw (aT aA aV (lT (N.1 71) (N.1 57) ((dL K a).2 N) (d.mono (by decide)) (bO.nil (N.1 58)) cf (vv 0) (d_ (ah) (bY bW fN (by rfl) N.Eh Boot.«tuple» (dc (iQ (N.1 71) (N.1 76) (vv 0))))) (λD G r b h=>by rw[(aU (aU tx)) D G r b h];rfl)) (ah))))⟩
theorem re:b4 ["self"] ["self"] (af (cz (dk 40) 3)):=fA
def cB(K:M9)(a:Ad):QM K a 2 a.Do a.Dp ["self"] 1:=⟨_,λN=>by
 exact lx (k:=1) 1 1 _ (N.1 59) re rfl rfl λb A w s H E c=>aj (aF (aw (bY dA kC (by rfl) N.Ea Boot.«list» (dc (iQ (N.1 71) (N.1 76) (vv 0))))))⟩
theorem oo:b4 ["self"] ["self"] (af (cz (dk 40) 4)):=fA
def eF(K:M9)(a:Ad):QM K a 2 a.Dq a.Dr ["self"] 1:=⟨_,λN=>by
 exact lx (k:=1) 1 1 _ (N.1 62) oo rfl rfl λb A w s H E c=>aj (aF (aw (bY dA kC (by rfl) N.Ea Boot.«list» (dc (iQ (N.1 71) (N.1 73) (vv 0))))))⟩
theorem cN:b4 ["net","k","rests","columns","level","numbered","filling"] ["net","k"] (af (dk 45)):=fA
def dT(K:M9)(a:Ad):QF K a 6 "kth_table" a.B8 a.Ca ["net","k"] 2:=⟨_,λN=>by
 exact io 7 (N.1 31) cN λc A w s H E b=>ac (fZ (bR (vc ((d7 K a).2 N) b (d_ (vv 1) (cG (N.1 71) (N.1 69) ((cP K a).2 N) (b.mono (by decide)) (bO.nil (N.1 70)) cf (vv 0) rfl)))))
   (ac (aD (ej 2 cN.nd (bY bW fN (by rfl) N.Eh Boot.«tuple» (dc (cG (N.1 71) (N.1 60) ((cB K a).2 N) (b.mono (by decide)) (bO.nil (N.1 61)) cf (vv 0) rfl)))))
   (ac (pV (ej 3 cN.nd (gz (gu))))
   (ac (bU aE (bB cQ rfl (bZ (by rfl) N.Ed (dc (cj N.D9 (dc (cG (N.1 71) (N.1 63) ((eF K a).2 N) (b.mono (by decide)) (bO.nil (N.1 64)) cf (vv 0) rfl))))) (dv 4 cN.nd) (ac (pU (i:=5) cN.nd rfl (by first|exact OC rfl|exact O6 rfl) rfl (iv ["counts","tables","dealings"] ["counts","tables","dealings"] []) (bj (vc ((dI K a).2 N) b (ss (vv 0) (vv 4) (vv 2)))) (λG C d s H=>⟨(bM rfl (au (dv 0 fx) (au (dv 1 fx) (au (dv 2 fx) bz)))),aQ,λD=>aM rfl (cZ (d_ (vv 0) (vv 1))) rfl⟩) (ft (bi aq (bi aq (bi aq eA))) (bc (bc (bc dg)))) (ff (bf ax (bf ax (bf ax dZ)))) (λD=>aS))
   (ac (qc (eP (aX aE (aX aE dG)) (aW (aW cW))) (cm (vc ((iX K a).2 N) b (d_ (vv 5) (vv 1))) (bM rfl (au (dv 6 cN.nd) (au (dv 1 cN.nd) bz)))))
   (ac (qd (bR (qo Pz Pq Pr ik (pv 3) (dc (vv 6)))))
   (aj (aD (ej 2 cN.nd (vc ((bF K a).2 N) b (d_ (vv 2) (vv 6)))))))))))
   (aj (aF (aw (vc ((dD K a).2 N) b (dc (vv 3)))))))))⟩
theorem pT:b4 ["self"] ["self"] (af (cz (dk 40) 8)):=fA
def de(K:M9)(a:Ad):QM K a 3 a.Di a.Dj ["self"] 1:=⟨_,λN=>by
 exact lx (k:=2) 1 1 _ (N.1 53) pT rfl rfl λc A w s H E d=>aj (aF (aw (aT aA aV (lT (N.1 71) (N.1 57) ((dL K a).2 N) (d.mono (by decide)) (bO.nil (N.1 58)) cf (vv 0) (d_ (ah) (bY bW fN (by rfl) N.Eh Boot.«tuple» (dc (iQ (N.1 71) (N.1 76) (vv 0))))) (λD G r b h=>by rw[(aU (aU tx)) D G r b h];rfl)) (ah))))⟩
theorem bN:b4 ["net","k","rests","columns","level","numbered","filling"] ["net","k"] (af (dk 46)):=fA
def cX(K:M9)(a:Ad):QF K a 6 "kth_dealing" a.Cb a.Cc ["net","k"] 2:=⟨_,λN=>by
 exact io 7 (N.1 32) bN λc A w s H E b=>ac (fZ (bR (vc ((d7 K a).2 N) b (d_ (vv 1) (cG (N.1 71) (N.1 54) ((de K a).2 N) (b.mono (by decide)) (bO.nil (N.1 55)) cf (vv 0) rfl)))))
   (ac (aD (ej 2 bN.nd (bY bW fN (by rfl) N.Eh Boot.«tuple» (dc (cG (N.1 71) (N.1 60) ((cB K a).2 N) (b.mono (by decide)) (bO.nil (N.1 61)) cf (vv 0) rfl)))))
   (ac (pV (ej 3 bN.nd (gz (gu))))
   (ac (bU aE (bB cQ rfl (bZ (by rfl) N.Ed (dc (cj N.D9 (dc (cG (N.1 71) (N.1 63) ((eF K a).2 N) (b.mono (by decide)) (bO.nil (N.1 64)) cf (vv 0) rfl))))) (dv 4 bN.nd) (ac (pU (i:=5) bN.nd rfl (by first|exact OC rfl|exact O6 rfl) rfl (iv ["counts","tables","dealings"] ["counts","tables","dealings"] []) (bj (vc ((dI K a).2 N) b (ss (vv 0) (vv 4) (vv 2)))) (λG C d s H=>⟨(bM rfl (au (dv 0 fx) (au (dv 1 fx) (au (dv 2 fx) bz)))),aQ,λD=>aM rfl (cZ (d_ (vv 0) (vv 2))) rfl⟩) (ft (bi aq (bi aq (bi aq eA))) (bc (bc (bc dg)))) (ff (bf ax (bf ax (bf ax dZ)))) (λD=>aS))
   (ac (qc (eP (aX aE (aX aE dG)) (aW (aW cW))) (cm (vc ((iX K a).2 N) b (d_ (vv 5) (vv 1))) (bM rfl (au (dv 6 bN.nd) (au (dv 1 bN.nd) bz)))))
   (ac (fM vp (d9 (i:=1) bN.nd rfl (by first|exact OC rfl|exact O6 rfl) (vc ((kz K a).2 N) b (dc (vv 6))) xa))
   (ac (qd (bR (qo Pz Pq Pr ik (pv 3) (dc (vv 6)))))
   (aj (aD (ej 2 bN.nd (vc ((bF K a).2 N) b (d_ (vv 2) (vv 6))))))))))))
   (aj (aF (aw (vc ((dD K a).2 N) b (dc (vv 3)))))))))⟩
theorem ji:b4 ["net","rows","many"] ["net","rows"] (af (dk 47)):=fA
def cT(K:M9)(a:Ad):QF K a 4 "columns_asked" a.Cd a.Cf ["net","rows"] 2:=⟨_,λN=>by
 exact io 3 (N.1 33) ji λc A w s H E b=>ac (aD (ej 2 ji.nd (cj N.D9 (dc (cG (N.1 71) (N.1 63) ((eF K a).2 N) (b.mono (by decide)) (bO.nil (N.1 64)) cf (vv 0) rfl)))))
   (ac (bJ (gv (j4 (aY (eM b) gh (cj N.D9 (dc (vv 1))) (cj N.D9 (dc (cG (N.1 71) (N.1 60) ((cB K a).2 N) (b.mono (by decide)) (bO.nil (N.1 61)) cf (vv 0) rfl)))) (iP (jG (da (jY rfl) t8 (by rfl) N.D4 Boot.«any» (dc (bx rfl (iv ["counts","many"] ["counts"] [2]) (bj (vv 1)) (λG C d s H=>⟨(dv 0 fx),aQ,λD=>aM rfl (iR (eM b) gh (cj N.D9 (dc (vv 0))) (vv 1)) rfl⟩) aq ax (λD=>aS)))))))) (aj (m9 (N.1 88).xc (aU tx) (by decide) (kW b.hd (ql (N.1 88) (oE N) (b.mono (by decide)) rfl (N.1 87) (N.1 86) .nil iY (dc (K8)))))) (bq))
   (aj (aF (aw (bx rfl (iv ["counts"] ["counts"] []) (bj (vc ((dD K a).2 N) b (dc (vv 1)))) (λG C d s H=>⟨(dv 0 fx),aQ,λD=>aM rfl (bY bW fN (by rfl) N.Eh Boot.«tuple» (dc (vv 0))) rfl⟩) aq ax (λD=>aS))))))⟩
theorem bL:b4 ["net","level","rests","filling","tables_ahead","dealings_ahead","counts","tables","dealings"] ["net","level","rests","filling"] (af (dk 48)):=fA
def dJ(K:M9)(a:Ad):QF K a 6 "counted_ahead" a.Cg a.Ch ["net","level","rests","filling"] 4:=⟨_,λN=>by
 exact io 9 (N.1 34) bL λd A w s H E b=>ac (aD (ej 4 bL.nd (ah)))
   (ac (aD (ej 5 bL.nd (ah)))
   (ac (bU (eP (aX aE (aX aE (aX aE dG))) (aW (aW (aW cW)))) (bB cQ rfl (bj (vc ((dI K a).2 N) b (ss (vv 0) (vv 1) (vv 2)))) (bM rfl (au (dv 6 bL.nd) (au (dv 7 bL.nd) (au (dv 8 bL.nd) bz)))) (ac (bJ (aY (cR b) dO (vv 6) (vv 3)) (aj (aF (aw (cZ (d_ (vv 4) (vv 5)))))) (bq))
   (ac (fM gU (d9 (i:=4) bL.nd rfl (by first|exact OC rfl|exact O6 rfl) (vv 7) jy))
   (aj (fM gU (d9 (i:=5) bL.nd rfl (by first|exact OC rfl|exact O6 rfl) (vv 8) jy)))))))
   (aj (m9 (N.1 88).xc (aU tx) (by decide) (kW b.hd (ql (N.1 88) (oE N) (b.mono (by decide)) rfl (N.1 87) (N.1 86) .nil iY (dc (uw (c:=((N9 "no table of the net goes on with ").length+(20000+((N9 " in column ").length+(1921+0))))) (nF (Me b (vv 3) (nF (ub (vv 1) (yG))))) (by decide +kernel)))))))))⟩
theorem di:b4 ["net","rows","rests","number","level","filling"] ["net","rows"] (af (dk 49)):=fA
def dS(K:M9)(a:Ad):QF K a 7 "number_of" a.Ci a.Cj ["net","rows"] 2:=⟨_,λN=>by
 exact io 6 (N.1 35) di λc A w s H E b=>ac (aD (ej 2 di.nd (bY bW fN (by rfl) N.Eh Boot.«tuple» (dc (cG (N.1 71) (N.1 60) ((cB K a).2 N) (b.mono (by decide)) (bO.nil (N.1 61)) cf (vv 0) rfl)))))
   (ac (aD (ej 3 di.nd (ah)))
   (ac (bU (eP (aX aE (aX aE dG)) (aW (aW cW))) (bB cQ rfl (kE (by rfl) N.D6 (dc (vc ((cT K a).2 N) b (d_ (vv 0) (vv 1))))) (bM rfl (au (dv 4 di.nd) (au (dv 5 di.nd) bz))) (ac (fM gU (d9 (i:=3) di.nd rfl (by first|exact OC rfl|exact O6 rfl) (aT aA aV (vc ((dJ K a).2 N) b (si (vv 0) (vv 4) (vv 2) (vv 5))) (ah)) jy))
   (aj (aD (ej 2 di.nd (vc ((bF K a).2 N) b (d_ (vv 2) (vv 5)))))))))
   (aj (aF (aw (vv 3))))))⟩
theorem c5:b4 ["net","rows","rests","first","many","level","filling"] ["net","rows"] (af (dk 50)):=fA
def fm(K:M9)(a:Ad):QF K a 7 "stretch" a.Ck a.Cl ["net","rows"] 2:=⟨_,λN=>by
 exact io 7 (N.1 36) c5 λc A w s H E b=>ac (aD (ej 2 c5.nd (bY bW fN (by rfl) N.Eh Boot.«tuple» (dc (cG (N.1 71) (N.1 60) ((cB K a).2 N) (b.mono (by decide)) (bO.nil (N.1 61)) cf (vv 0) rfl)))))
   (ac (aD (ej 3 c5.nd (ah)))
   (ac (aD (ej 4 c5.nd (ah)))
   (ac (bU (eP (aX aE (aX aE dG)) (aW (aW cW))) (bB cQ rfl (kE (by rfl) N.D6 (dc (vc ((cT K a).2 N) b (d_ (vv 0) (vv 1))))) (bM rfl (au (dv 5 c5.nd) (au (dv 6 c5.nd) bz))) (ac (fM gU (d9 (i:=3) c5.nd rfl (by first|exact OC rfl|exact O6 rfl) (aL rn yB (vv 4) (aT aA aV (vc ((dJ K a).2 N) b (si (vv 0) (vv 5) (vv 2) (vv 6))) (ah))) jy))
   (ac (fM rA (d9 (i:=4) c5.nd rfl (by first|exact OC rfl|exact O6 rfl) (vc ((kz K a).2 N) b (dc (vv 6))) rE))
   (aj (aD (ej 2 c5.nd (vc ((bF K a).2 N) b (d_ (vv 2) (vv 6))))))))))
   (aj (aF (aw (cZ (d_ (vv 3) (aL aO bV (vv 3) (vv 4))))))))))⟩
theorem ig:b4 ["_law_bag_here","_law_block","_law_columns","_law_things","_law_grid_here","_law_thing","_law_at","_law_to"] ["_law_bag_here","_law_block","_law_columns","_law_things"] (af (dk 54)):=fA
def pb(K:M9)(a:Ad):G:=
  ay (rF 4 (gD 1 [2] (cK gm (ae (ag 1) (az))) (h8 0) (λ_=>M.ret MH) (pp (yj (ae (fC (.int 0)) (az)) (ag 1)))))
  (ay (Kx (cK gm (ae (ag 3) (az))) (Z2 5) (ay (cD 6 (bw dY (ae (ag 0) (ae (ag 1) (az)))))
  (ay (cD 7 (bw dY (ae (ag 0) (ae (ag 2) (az)))))
  (lq 4 (ag 6) (ag 7) (f2 j9 (f2 j0 (f2 j0 (ag 4) (ag 6)) (ag 7)) (fC (.int 1)))))))
  (jA (ag 4)))
def k7(K:M9)(a:Ad):a0d->M D:=ia 8 (pb K a)
theorem jR(N:v_ K mg a):FB P w K mg aa 3 "_law_grid" a.Cq a.Cr ["_law_bag_here","_law_block","_law_columns","_law_things"] 4 (k7 K a):=⟨by
 unfold k7
 exact lx (k:=2) 4 8 (pb K a) (N.1 39).F ig rfl rfl λd A G s H E c=>ac (I9 (i:=4) ig.nd rfl (by first|exact OC rfl|exact O6 rfl) rfl (iv ["_law_row","_law_columns"] ["_law_row"] [2]) (bZ (by rfl) N.Ed (dc (vv 1))) (λM C e s H=>⟨(dv 0 fx),aQ,λD=>aM rfl (Gq (dc (ah)) (vv 1)) rfl⟩) aq ax (λD=>rq))
   (ac (bU aE (bB cQ rfl (bZ (by rfl) N.Ed (dc (vv 3))) (dv 5 ig.nd) (ac (aD (ej 6 ig.nd (vc (aP N) c (d_ (vv 0) (vv 1)))))
   (ac (aD (ej 7 ig.nd (vc (aP N) c (d_ (vv 0) (vv 2)))))
   (aj (fY (cm (aL aO bV (aT aA aV (aT aA aV (vv 4) (vv 6)) (vv 7)) (ah)) (dM (dN cb (pv 4) (vv 6) (λ_ _=>rfl)) (vv 7) ck))))))))
   (aj (aF (aw (vv 4))))),(N.1 39).m,(N.1 39).F.kp,(N.1 39).b⟩
theorem iT:b4 ["_law_bag_here","_law_way","_law_block","_law_columns"] ["_law_bag_here"] (af (dk 55)):=fA
def ii(K:M9)(a:Ad):QF K a 4 "_law_small" a.Cs a.Ct ["_law_bag_here"] 1:=⟨_,λN=>by
 exact io 4 (N.1 40) iT λc A w s H E b=>ac (aD (ej 1 iT.nd (vc (aP N) b (d_ (vv 0) (ah)))))
   (ac (bJ (aY (cR b) dO (vv 1) (ah)) (aj (aF (aw (vc (jR N) b (si (vv 0) (ah) (ah) (vc (aP N) b (d_ (vv 0) (ah)))))))) (bq))
   (ac (bJ (aY (cR b) dO (vv 1) (ah)) (aj (aF (aw (vc (jR N) b (si (vv 0) (ah) (aL aO bV (ah) (vc (aP N) b (d_ (vv 0) (ah)))) (vc (aP N) b (d_ (vv 0) (ah)))))))) (bq))
   (ac (bJ (aY (cR b) dO (vv 1) (ah)) (aj (aF (aw (vc (jR N) b (si (vv 0) (aL aO bV (ah) (vc (aP N) b (d_ (vv 0) (ah)))) (ah) (vc (aP N) b (d_ (vv 0) (ah)))))))) (bq))
   (ac (aD (ej 2 iT.nd (aL aO bV (ah) (vc (aP N) b (d_ (vv 0) (ah))))))
   (ac (aD (ej 3 iT.nd (aL aO bV (ah) (vc (aP N) b (d_ (vv 0) (ah))))))
   (aj (aF (aw (vc (jR N) b (si (vv 0) (vv 2) (vv 3) (vc (aP N) b (d_ (vv 0) (ah)))))))))))))⟩
theorem wf:b4 ["_law_block"] ["_law_block"] (af (dk 56)):=fA
def qg(K:M9)(a:Ad):QF K a 2 "_law_turned" a.Cu a.Cv ["_law_block"] 1:=⟨_,λN=>by
 exact io 1 (N.1 41) wf λb A w s H E d=>aj (aF (aw (bx rfl (iv ["_law_to","_law_block"] ["_law_to"] [0]) (bZ (by rfl) N.Ed (dc (cj N.D9 (dc (aT aA aV (vv 0) (ah)))))) (λG C c s H=>⟨(dv 0 fx),aQ,λD=>aM rfl (bx rfl (iv ["_law_row","_law_to"] ["_law_row"] [0]) (bj (vv 1)) (λG C c s H=>⟨(dv 0 fx),aQ,λD=>aM rfl (aT aA aV (vv 0) (vv 1)) rfl⟩) aq ax (λD=>aS)) rfl⟩) aq ax (λD=>aS))))⟩
theorem uK:b4 ["_law_grid_here"] ["_law_grid_here"] (af (dk 57)):=fA
def eS(K:M9)(a:Ad):QF K a 2 "_law_rowsums" a.Cw a.Cy ["_law_grid_here"] 1:=⟨_,λN=>by
 exact io 1 (N.1 42) uK λb A w s H E c=>aj (aF (aw (bx rfl (iv ["_law_row"] ["_law_row"] []) (bj (vv 0)) (λG C d s H=>⟨(dv 0 fx),aQ,λD=>aM rfl (jh N.Eg (dc (vv 0))) rfl⟩) aq ax (λD=>aS))))⟩
theorem pR:b4 ["_law_grid_here"] ["_law_grid_here"] (af (dk 58)):=fA
def d6(K:M9)(a:Ad):QF K a 3 "_law_columnsums" a.Cz a.C0 ["_law_grid_here"] 1:=⟨_,λN=>by
 exact io 1 (N.1 43) pR λb A w s H E c=>aj (aF (aw (bx rfl (iv ["_law_column"] ["_law_column"] []) (bj (vc ((qg K a).2 N) c (dc (vv 0)))) (λG C d s H=>⟨(dv 0 fx),aQ,λD=>aM rfl (jh N.Eg (dc (vv 0))) rfl⟩) aq ax (λD=>aS))))⟩
theorem zV:b4 ["_law_block","_law_columns"] ["_law_block","_law_columns"] (af (dk 59)):=fA
def sO(K:M9)(a:Ad):G:=
  kF (gD 1 [1] (cK gm (ae (ag 0) (az))) (h8 0) (λ_=>M.ret MH) (pp (iq 1 [] (cK gm (ae (ag 1) (az))) (h8 0) (λ_=>M.ret MH) (lB (br hZ (ae (fC (.int 0)) (ae (fC (.int 40)) (az))))))))
def mw(K:M9)(a:Ad):a0d->M a0o:=lH 2 (sO K a)
theorem yi(N:v_ K mg a):eg P w K mg aa (fh P w) 2 a.C2 a.C3 ["_law_block","_law_columns"] (XF K 2 (mw K a)):=by
 unfold mw;exact xk (k:=1) 2 2 (sO K a) (N.1 44).F zV rfl rfl λb A G s H E d=>aj (wF (aw (CI rfl (iv ["_law_at","_law_columns"] ["_law_at"] [1]) (bZ (by rfl) N.Ed (dc (vv 0))) (λM C c s H=>⟨(dv 0 fx),aQ,λD=>aM rfl (JR rfl (iv ["_law_to"] ["_law_to"] []) (bZ (by rfl) N.Ed (dc (vv 1))) (λM C c s H=>⟨(dv 0 fx),aQ,λD=>aM rfl (cZ (d_ (ah) (ah))) rfl⟩) aq ax (λD=>aS)) rfl⟩) aq ax (λD=>rq))))
theorem dR:b4 ["_law_bag_here","_law_grid_here","_law_told","_law_at","_law_row","_law_to","_law_count","_law_way"] ["_law_bag_here","_law_grid_here"] (af (dk 60)):=fA
def gy(K:M9)(a:Ad):QF K a 3 "_law_bounds" a.C4 a.C5 ["_law_bag_here","_law_grid_here"] 2:=⟨_,λN=>by
 exact io 8 (N.1 45) dR λd A w s H E c=>ac (x8 (ej 2 dR.nd (CJ (yi N) (c.mono (by decide)) (by rfl) (N.1 44).m (N.1 44).F.kp (N.1 44).b cf (d_ (cj N.D9 (dc (vv 1))) (cj N.D9 (dc (aT aA aV (vv 1) (ah))))) (aU (aU tx)))))
   (ac (bJ (aY (cR c) dO (vc (aP N) c (d_ (vv 0) (ah))) (ah)) (aj (aF (aw (vv 2)))) (bq))
   (ac (bU (eP (aX aE (aX aE dG)) (aW (aW cW))) (bB cQ rfl (kE (by rfl) N.D6 (dc (vv 1))) (bM rfl (au (dv 3 dR.nd) (au (dv 4 dR.nd) bz))) (aj (bU (eP (aX aE (aX aE dG)) (aW (aW cW))) (bB cQ rfl (kE (by rfl) N.D6 (dc (vv 4))) (bM rfl (au (dv 5 dR.nd) (au (dv 6 dR.nd) bz))) (ac (aD (ej 7 dR.nd (vc (aP N) c (d_ (vv 0) (ah)))))
   (ac (bJ (aY (cR c) dO (vv 7) (ah)) (aj (fY (cm (cZ (d_ (aL bH cg (vv 6) (vc (aP N) c (d_ (vv 0) (aL aO bV (vv 6) (ah))))) (da (mP rfl) yC (by rfl) N.Ec Boot.«min» (d_ (ah) (aL aO bV (vv 6) (vc (aP N) c (d_ (vv 0) (ah)))))))) (dM (dN cb (pv 2) (vv 3) (λ_ _=>rfl)) (vv 5) ck)))) (bq))
   (aj (bJ (aY (cR c) dO (vv 7) (ah)) (aj (fY (cm (cZ (d_ (ah) (da (sZ rfl) GA (by rfl) N.Eb Boot.«max» (d_ (vv 6) (vc (aP N) c (d_ (vv 0) (ah))))))) (dM (dN cb (pv 2) (vv 3) (λ_ _=>rfl)) (vv 5) ck)))) (bq))))))))))
   (aj (aF (aw (vv 2))))))⟩
theorem oq:b4 ["_law_block"] ["_law_block"] (af (dk 61)):=fA
def eE(K:M9)(a:Ad):QF K a 2 "_law_copied" a.C6 a.C7 ["_law_block"] 1:=⟨_,λN=>by
 exact io 1 (N.1 46) oq λb A w s H E c=>aj (aF (aw (bx rfl (iv ["_law_row"] ["_law_row"] []) (bj (vv 0)) (λG C d s H=>⟨(dv 0 fx),aQ,λD=>aM rfl (bY dA kC (by rfl) N.Ea Boot.«list» (dc (vv 0))) rfl⟩) aq ax (λD=>aS))))⟩
def oH(K:M9)(a:Ad):G:=
  kF (gD 1 [] (ef (ag 0)) (h8 0) (λ_=>M.ret MH) (pp (yk tY (ae (ag 0) (az)))))
def j7(K:M9)(a:Ad):a0d->M a0o:=lH 1 (oH K a)
theorem u7(N:v_ K mg a):eg P w K mg aa (fh P w) 2 a.C6 a.C7 ["_law_block"] (XF K 1 (j7 K a)):=by
 unfold j7;exact xk (k:=1) 1 1 (oH K a) (N.1 46).F oq rfl rfl λb A G s H E c=>aj (wF (aw (CI rfl (iv ["_law_row"] ["_law_row"] []) (bj (vv 0)) (λM C d s H=>⟨(dv 0 fx),aQ,λD=>aM rfl (ER dA HN (by rfl) N.Ea Boot.«list» (dc (vv 0))) rfl⟩) aq ax (λD=>rq))))
theorem jI:b4 ["self","rowsums","columnsums","bounds","settled"] ["self","rowsums","columnsums","bounds"] (af (cz (dk 40) 0)):=fA
def vD(K:M9)(a:Ad):IP:=
  nQ (cD 4 (bw (dW K a).1 (ae (ag 1) (ae (ag 2) (ae (ag 3) (az))))))
  (nQ (gi (bw (f7 K a).1 (ae (ag 1) (ae (ag 2) (ae (ag 4) (az))))))
  (jU (br tZ (ae (ag 1) (az)))
  (jU (br tZ (ae (ag 2) (az)))
  (jU (ag 4)
  (jU (bw (eY K a).1 (ae (ag 1) (ae (ag 2) (ae (ag 4) (az)))))
  (GG))))))
def qu(K:M9)(a:Ad):a0d->M a0d:=nU 5 (vD K a)
theorem HF(N:v_ K mg a):eg P w K mg aa (fh P w) 7 a.Dg a.Dh ["self","rowsums","columnsums","bounds"] (XE K a.Ak ["row_list","column_list","pairs","counted"] 3 (qu K a)):=by
 unfold qu
 exact Ig (k:=6) 3 5 (vD K a) (N.1 50) jI rfl rfl λc A D s H E b=>GH (aD (ej 4 jI.nd (vc ((dW K a).2 N) b (ss (vv 1) (vv 2) (vv 3)))))
   (GH (fZ (bR (vc ((f7 K a).2 N) b (ss (vv 1) (vv 2) (vv 4)))))
   (ud (N.1 71) (N.1 76) (by decide) (by decide) (qj (pv 0) (bY dA kC (by rfl) N.Ea Boot.«list» (dc (vv 1))) rfl)
   (ud (N.1 71) (N.1 73) (by decide) (by decide) (qj (pv 0) (bY dA kC (by rfl) N.Ea Boot.«list» (dc (vv 2))) rfl)
   (ud (N.1 71) (N.1 75) (by decide) (by decide) (qj (pv 0) (vv 4) rfl)
   (ud (N.1 71) (N.1 74) (by decide) (by decide) (qj (pv 0) (vc ((eY K a).2 N) b (ss (vv 1) (vv 2) (vv 4))) rfl)
   (Mf))))))
theorem Ex:b4 ["_law_grid_here","_law_limits"] ["_law_grid_here","_law_limits"] (af (dk 62)):=fA
def ng(K:M9)(a:Ad):QF K a 9 "_law_net" a.C8 a.C9 ["_law_grid_here","_law_limits"] 2:=⟨_,λN=>by
 exact io 2 (N.1 47) Ex λc A w s H E b=>aj (aF (aw (G1 (N.1 51) (HF N) (b.mono (by decide)) (by rfl) (N.1 72) (N.1 52) cf (d_ (vc ((eS K a).2 N) b (dc (vv 0))) (vc ((d6 K a).2 N) b (dc (vv 0)))) (GW (vc ((eE K a).2 N) b (dc (vv 1))) (Iy)) (aU (aU tx)) (aU tx) rfl)))⟩
theorem fj:b4 ["_law_block","_law_rowsums_here","_law_columnsums_here","_law_limits","_law_row","_law_count","_law_pairs","_law_duo"] ["_law_block","_law_rowsums_here","_law_columnsums_here","_law_limits"] (af (dk 63)):=fA
def jq(K:M9)(a:Ad):QF K a 4 "_law_good" a.Da a.Db ["_law_block","_law_rowsums_here","_law_columnsums_here","_law_limits"] 4:=⟨_,λN=>by
 exact io 8 (N.1 48) fj λc A w s H E b=>ac (bJ (gv (j4 (kP (jG (xI N.D8 (d_ (vv 0) (I0 (d:= .ty "list") (nl (v:= .ty "list") (by rfl) N.Ea Boot.«list» rfl) (λ_ _=>rfl)))))) (iP (aY (eM b) gh (cj N.D9 (dc (vv 0))) (cj N.D9 (dc (vv 1))))))) (aj (aF (aw (e8)))) (bq))
   (ac (bU aE (bB cQ rfl (bj (vv 0)) (dv 4 fj.nd) (ac (bJ (gv (j4 (kP (jG (xI N.D8 (d_ (vv 4) (I0 (d:= .ty "list") (nl (v:= .ty "list") (by rfl) N.Ea Boot.«list» rfl) (λ_ _=>rfl)))))) (iP (aY (eM b) gh (cj N.D9 (dc (vv 4))) (cj N.D9 (dc (vv 2))))))) (aj (aF (aw (e8)))) (bq))
   (aj (bU aE (bB cQ rfl (bj (vv 4)) (dv 5 fj.nd) (aj (bJ (gv (j4 (kP (jG (xI N.D8 (d_ (vv 5) (I0 (d:= .ty "int") (nl (v:= .ty "int") (by rfl) N.D7 Boot.«int» rfl) (λ_ _=>rfl)))))) (j4 (jG (xI N.D8 (d_ (vv 5) (I0 (d:= .ty "bool") (nl (v:= .ty "bool") (by rfl) N.D5 Boot.«bool» rfl) (λ_ _=>rfl))))) (iP (aY iZ k8 (vv 5) (ah)))))) (aj (aF (aw (e8)))) (bq)))))))))
   (ac (bJ (gv (j4 (aY (eM b) gh (vc ((eS K a).2 N) b (dc (vv 0))) (vv 1)) (iP (aY (eM b) gh (vc ((d6 K a).2 N) b (dc (vv 0))) (vv 2))))) (aj (aF (aw (e8)))) (bq))
   (ac (bU (eP (aX aE (aX aE dG)) (aW (aW cW))) (bB cQ rfl (uc (by rfl) N.Ei (d_ (vv 0) (vv 3))) (bM rfl (au (dv 4 fj.nd) (au (dv 6 fj.nd) bz))) (aj (bU (eP (aX aE (aX aE dG)) (aW (aW cW))) (bB cQ rfl (uc (by rfl) N.Ei (d_ (vv 4) (vv 6))) (bM rfl (au (dv 5 fj.nd) (au (dv 7 fj.nd) bz))) (aj (bJ (gv (j4 (aY iZ k8 (vv 5) (aT aA aV (vv 7) (ah))) (iP (aY qp vq (vv 5) (aT aA aV (vv 7) (ah)))))) (aj (aF (aw (e8)))) (bq))))))))
   (aj (aF (aw (e8)))))))⟩
theorem fi:b4 ["_law_bag_here","_law_grid_here","_law_block","_law_at","_law_to","_law_way"] ["_law_bag_here","_law_grid_here"] (af (dk 64)):=fA
def f6(K:M9)(a:Ad):QF K a 3 "_law_strange" a.Dd a.Df ["_law_bag_here","_law_grid_here"] 2:=⟨_,λN=>by
 exact io 6 (N.1 49) fi λd A w s H E c=>ac (x8 (ej 2 fi.nd (CJ (u7 N) (c.mono (by decide)) (by rfl) (N.1 46).m (N.1 46).F.kp (N.1 46).b cf (dc (vv 1)) (aU tx))))
   (ac (zX (ej 3 fi.nd (vc (aP N) c (d_ (vv 0) (cj N.D9 (dc (vv 2)))))))
   (ac (zX (ej 4 fi.nd (vc (aP N) c (d_ (vv 0) (cj N.D9 (dc (aT aA aV (vv 2) (ah))))))))
   (ac (aD (ej 5 fi.nd (vc (aP N) c (d_ (vv 0) (ah)))))
   (ac (bJ (aY (cR c) dO (vv 5) (ah)) (aj (aF (aw (gc (gu))))) (bq))
   (ac (bJ (aY (cR c) dO (vv 5) (ah)) (aj (aF (aw (bx rfl (iv ["_law_row"] ["_law_row"] []) (bj (vv 2)) (λG C e s H=>⟨(dv 0 fx),aQ,λD=>aM rfl (gc (gu)) rfl⟩) aq ax (λD=>aS))))) (bq))
   (ac (bJ (aY (cR c) dO (vv 5) (ah)) (aj (IZ (cm (Lz (aT aA aV (vv 2) (vv 3)) (gc (dc (ah)))) (dM (pv 2) (vv 3) ck)))) (bq))
   (ac (bJ (aY (cR c) dO (vv 5) (ah)) (aj (aF (aw (aL aO bV (vv 2) (gc (dc (Lb (Gq (dc (ah)) (cj N.D9 (dc (aT aA aV (vv 2) (ah)))))))))))) (bq))
   (ac (bJ (aY (cR c) dO (vv 5) (ah)) (aj (fY (cm (aL aO bV (aT aA aV (aT aA aV (vv 2) (vv 3)) (vv 4)) (ah)) (dM (dN cb (pv 2) (vv 3) (λ_ _=>rfl)) (vv 4) ck)))) (bq))
   (ac (bJ (aY (cR c) dO (vv 5) (ah)) (ac (fY (cm (aL bH cg (aT aA aV (aT aA aV (vv 2) (vv 3)) (vv 4)) (ah)) (dM (dN cb (pv 2) (vv 3) (λ_ _=>rfl)) (vv 4) ck)))
   (aj (fY (cm (aL aO bV (aT aA aV (aT aA aV (vv 2) (vv 3)) (aL bH cg (vv 4) (ah))) (ah)) (dM (dN cb (pv 2) (vv 3) (λ_ _=>rfl)) (aL bH cg (vv 4) (ah)) ck))))) (bq))
   (ac (bJ (aY (cR c) dO (vv 5) (ah)) (ac (fY (cm (aL bH cg (aT aA aV (aT aA aV (vv 2) (vv 3)) (vv 4)) (ah)) (dM (dN cb (pv 2) (vv 3) (λ_ _=>rfl)) (vv 4) ck)))
   (ac (fY (cm (aL aO bV (aT aA aV (aT aA aV (vv 2) (vv 3)) (aL bH cg (vv 4) (ah))) (ah)) (dM (dN cb (pv 2) (vv 3) (λ_ _=>rfl)) (aL bH cg (vv 4) (ah)) ck)))
   (ac (fY (cm (aL aO bV (aT aA aV (aT aA aV (vv 2) (aL bH cg (vv 3) (ah))) (vv 4)) (ah)) (dM (dN cb (pv 2) (aL bH cg (vv 3) (ah)) (λ_ _=>rfl)) (vv 4) ck)))
   (aj (fY (cm (aL bH cg (aT aA aV (aT aA aV (vv 2) (aL bH cg (vv 3) (ah))) (aL bH cg (vv 4) (ah))) (ah)) (dM (dN cb (pv 2) (aL bH cg (vv 3) (ah)) (λ_ _=>rfl)) (aL bH cg (vv 4) (ah)) ck))))))) (bq))
   (aj (aF (aw (vv 2))))))))))))))⟩
theorem cE:b4 ["_law_script","_law_bag_here","_law_grid_here","_law_limits","_law_net_here","_law_block","_law_due","_law_told","_law_k","_law_lot"] ["_law_script"] (af pW):=fA
def qJ(K:M9)(a:Ad):G:=
  ay (cD 2 (bw (ii K a).1 (ae (ag 1) (az))))
  (ay (cD 3 (bw (gy K a).1 (ae (ag 1) (ae (ag 2) (az)))))
  (ay (cD 4 (bw (ng K a).1 (ae (ag 2) (ae (ag 3) (az)))))
  (ay (cD 5 (bw (f6 K a).1 (ae (ag 1) (ae (ag 2) (az)))))
  (ay (cD 6 (bw (jq K a).1 (ae (ag 5) (ae (bw (eS K a).1 (ae (ag 2) (az))) (ae (bw (d6 K a).1 (ae (ag 2) (az))) (ae (ag 3) (az)))))))
  (ay (cD 7 (fC (.bl MH)))
  (ay (jz (gi (bw (dS K a).1 (ae (ag 4) (ae (bw (eE K a).1 (ae (ag 5) (az))) (az))))) (lh K a.Ah (cD 7 (fC (.bl ML))) (Xa)))
  (ay (xi (fB (f2 (fW) (ag 7) (ag 6))) (jA (fC (.bl ML))) (gNil))
  (ay (cD 7 (fC (.bl MH)))
  (ay (jz (gi (bw (fm K a).1 (ae (ag 4) (ae (bw (eE K a).1 (ae (ag 5) (az))) (az))))) (lh K a.Ah (cD 7 (fC (.bl ML))) (Xa)))
  (ay (xi (fB (f2 (fW) (ag 7) (ag 6))) (jA (fC (.bl ML))) (gNil))
  (ay (cD 8 (f2 j0 (br gB (ae (gj a.Ak "tables" (cP K a).1 (ag 4) az []) (ae (f2 oQ (f2 oQ (fC (.int 0)) (fC (.int 1))) (bw dY (ae (ag 1) (ae (fC (.int 4)) (az))))) (ae (f2 j9 (gj a.Ak "tables" (cP K a).1 (ag 4) az []) (bw dY (ae (ag 1) (ae (fC (.int 9)) (az))))) (ae (fC (.int 0)) (az)))))) (bw dY (ae (ag 1) (ae (fC (.int 4)) (az))))))
  (ay (cD 7 (fC (.bl MH)))
  (ay (jz (gi (bw (dT K a).1 (ae (ag 4) (ae (ag 8) (az))))) (lh K a.Ae (cD 7 (fC (.bl ML))) (Xa)))
  (ay (xi (fB (f2 (fW) (ag 7) (vO (f2 (F3) (fC (.int 0)) (ag 8)) (f2 (SF) (ag 8) (gj a.Ak "tables" (cP K a).1 (ag 4) az []))))) (jA (fC (.bl ML))) (gNil))
  (ay (cD 9 (gj a.Ak "dealings" (de K a).1 (ag 4) az []))
  (ay (cD 8 (f2 j0 (br gB (ae (ag 9) (ae (f2 oQ (f2 oQ (fC (.int 0)) (fC (.int 1))) (bw dY (ae (ag 1) (ae (fC (.int 4)) (az))))) (ae (f2 j9 (ag 9) (bw dY (ae (ag 1) (ae (fC (.int 9)) (az))))) (ae (f2 oQ (ag 9) (fC (.int 1))) (az)))))) (bw dY (ae (ag 1) (ae (fC (.int 4)) (az))))))
  (ay (cD 7 (fC (.bl MH)))
  (ay (jz (gi (bw (cX K a).1 (ae (ag 4) (ae (ag 8) (az))))) (lh K a.Ae (cD 7 (fC (.bl ML))) (Xa)))
  (jA (f2 (gE) (ag 7) (vO (f2 (F3) (fC (.int 0)) (ag 8)) (f2 (SF) (ag 8) (gj a.Ak "dealings" (de K a).1 (ag 4) az [])))))))))))))))))))))))
theorem JQ{f:MK}{q:Nk}(F:g_ K "law" "law" pW f q)(N:v_ K mg a)(T:∀G:Bg,G.ok->∃d,qJ K a [ME,My (.sh .bag),ME,ME,ME,ME,ME,ME,ME,ME] G=My (.rt (.bl MH),d)):
  eg P w K mg aa (fh P w) 10 f q ["_law_script"] (Gf K):=by
 refine F.okE (k:=9) cE (λV H Q E h=>?_) (λg A D s H V Q E c h=>?_)
 .obtain⟨a,ns,rfl,_⟩:=h
  rfl
 .obtain⟨a1,ns,rfl,t,r,k⟩:=h
  have rest:PSs (dz (fh P w) P w K mg aa ["_law_script","_law_bag_here","_law_grid_here","_law_limits","_law_net_here","_law_block","_law_due","_law_told","_law_k","_law_lot"] "law" (af pW) f g A D s H E) (cA pW).tail (tG K H (qJ K a) (λ_=>E)):=ac (aD (ej 2 cE.nd (vc ((ii K a).2 N) c (dc (vv 1)))))
   (ac (aD (ej 3 cE.nd (vc ((gy K a).2 N) c (d_ (vv 1) (vv 2)))))
   (ac (aD (ej 4 cE.nd (vc ((ng K a).2 N) c (d_ (vv 2) (vv 3)))))
   (ac (aD (ej 5 cE.nd (vc ((f6 K a).2 N) c (d_ (vv 1) (vv 2)))))
   (ac (aD (ej 6 cE.nd (vc ((jq K a).2 N) c (si (vv 5) (vc ((eS K a).2 N) c (dc (vv 2))) (vc ((d6 K a).2 N) c (dc (vv 2))) (vv 3)))))
   (ac (aD (ej 7 cE.nd (e8)))
   (ac (tQ rfl rfl (λE M S i=>aj (fZ (bR (vc ((dS K a).2 N) c (d_ (vv 4) (vc ((eE K a).2 N) c (dc (vv 5)))))))) (qG (by rfl) (N.1 87) (λA=>aj (aD (ej 7 cE.nd (e8)))) (ug)))
   (ac (bJ (aY (eM c) gh (vv 7) (vv 6)) (aj (aF (aw (e8)))) (bq))
   (ac (aD (ej 7 cE.nd (e8)))
   (ac (tQ rfl rfl (λE M S i=>aj (fZ (bR (vc ((fm K a).2 N) c (d_ (vv 4) (vc ((eE K a).2 N) c (dc (vv 5)))))))) (qG (by rfl) (N.1 87) (λA=>aj (aD (ej 7 cE.nd (e8)))) (ug)))
   (ac (bJ (aY (eM c) gh (vv 7) (vv 6)) (aj (aF (aw (e8)))) (bq))
   (ac (aD (ej 8 cE.nd (aT aA aV (gc (si (cG (N.1 71) (N.1 69) ((cP K a).2 N) (c.mono (by decide)) (bO.nil (N.1 70)) cf (vv 4) rfl) (aL bH cg (aL bH cg (ah) (ah)) (vc (aP N) c (d_ (vv 1) (ah)))) (aL aO bV (cG (N.1 71) (N.1 69) ((cP K a).2 N) (c.mono (by decide)) (bO.nil (N.1 70)) cf (vv 4) rfl) (vc (aP N) c (d_ (vv 1) (ah)))) (ah))) (vc (aP N) c (d_ (vv 1) (ah))))))
   (ac (aD (ej 7 cE.nd (e8)))
   (ac (tQ rfl rfl (λE M S i=>aj (fZ (bR (vc ((dT K a).2 N) c (d_ (vv 4) (vv 8)))))) (qG (by rfl) (N.1 82) (λA=>aj (aD (ej 7 cE.nd (e8)))) (ug)))
   (ac (bJ (aY (eM c) gh (vv 7) (F7 (iR hX j8 (ah) (vv 8)) (F6 (iR iZ k8 (vv 8) (cG (N.1 71) (N.1 69) ((cP K a).2 N) (c.mono (by decide)) (bO.nil (N.1 70)) cf (vv 4) rfl))))) (aj (aF (aw (e8)))) (bq))
   (ac (aD (ej 9 cE.nd (cG (N.1 71) (N.1 54) ((de K a).2 N) (c.mono (by decide)) (bO.nil (N.1 55)) cf (vv 4) rfl)))
   (ac (aD (ej 8 cE.nd (aT aA aV (gc (si (vv 9) (aL bH cg (aL bH cg (ah) (ah)) (vc (aP N) c (d_ (vv 1) (ah)))) (aL aO bV (vv 9) (vc (aP N) c (d_ (vv 1) (ah)))) (aL bH cg (vv 9) (ah)))) (vc (aP N) c (d_ (vv 1) (ah))))))
   (ac (aD (ej 7 cE.nd (e8)))
   (ac (tQ rfl rfl (λE M S i=>aj (fZ (bR (vc ((cX K a).2 N) c (d_ (vv 4) (vv 8)))))) (qG (by rfl) (N.1 82) (λA=>aj (aD (ej 7 cE.nd (e8)))) (ug)))
   (aj (aF (aw (iR (cR c) dO (vv 7) (F7 (iR hX j8 (ah) (vv 8)) (F6 (iR iZ k8 (vv 8) (cG (N.1 71) (N.1 54) ((de K a).2 N) (c.mono (by decide)) (bO.nil (N.1 55)) cf (vv 4) rfl))))))))))))))))))))))))))
  refine⟨_,cY (rest:=(cA pW).tail) (ej 1 cE.nd (nk (EQ N) (c.mono (by decide)) rfl (N.1 37).m (N.1 37).F.kp (N.1 37).b .nil iY (b9 (pv 0) f8))) rest,?_⟩;refine⟨_,rfl,a1,ns,rfl,t,λb l x j o u y=>?_⟩;obtain⟨G,ok,p⟩:=Ir (K:=K) (a:=a1) (n:=["_law_script","_law_bag_here","_law_grid_here","_law_limits","_law_net_here","_law_block","_law_due","_law_told","_law_k","_law_lot"].length-2) y j o u;obtain⟨d,e⟩:=T G ok;exact⟨_,_,_,G,_,d,p,e,λv I B s fr C=>by cases C.bl;exact k B⟩
end
end Law
namespace L2.Pu
noncomputable def dt:Nat->Nat
 |0=>1
 |n+1=>dt n*(n+1)
noncomputable def pr(l:a0a):Nat:=l.foldr (·*·) 1
theorem Js:pr []=1:=rfl
theorem AG(l m:a0a):pr (l++m)=pr l*pr m:=by
 induction l with
 |nil=>simp[pr]
 |cons x l w=>
  show x*pr (l++m)=x*pr l*pr m;rw[w,Rc]
theorem G6{w:Type}{l:List w}{i:Nat}{x:w}(h:l[i]?=My x):l.take (i+1)=l.take i++[x]:=by
 rw[List.take_succ,h];rfl
theorem rj{w:Type}{f:w->Nat}{l:List w}{i:Nat}{x:w}(h:l[i]?=My x):pr ((l.take (i+1)).map f)=pr ((l.take i).map f)*f x:=by
 rw[G6 h,NH,AG];simp[pr]
theorem nY:∀n,0<dt n
 |0=>by decide
 |n+1=>Nat.mul_pos (nY n) (by lia)
theorem Fq:∀{n m:Nat},n<=m->dt n<=dt m:=by
 intro n m h
 induction h with
 |refl=>exact MW _
 |step h w=>exact Ng w (Vd _ (by lia))
theorem Mq:dt 40<=2^160:=by decide +kernel
theorem vM{n:Nat}(h:n<=40):dt n<=2^160:=Ng (Fq h) Mq
theorem AF{l:a0a}(h:∀x∈l,0<x):0<pr l:=by
 induction l with
 |nil=>decide
 |cons x l w=>exact Nat.mul_pos (h x MP) (w λy a=>h y (MJ _ a))
theorem nB{l:a0a}{x:Nat}(h:x∈l):x<=l.sum:=by
 induction l with
 |nil=>cases h
 |cons y l w=>
  rw[Nn];rcases M4.mp h with rfl|h
  .lia
  .have:=w h;lia
theorem fq{t m:Nat}(h:t<=2^m)(w:m<=999):t<2^1000:=ON (Ng h (Rf (by decide) w)) (V1 (by decide) (by decide))
theorem rp{t n:Nat}(a:t<2^1000)(b:n<2^1000):EW (.int (t:Int)) (.int (n:Int))=My (.int ((t*n:Nat):Int)):=by
 have c:ic (t:Int)=MH:=M3 (by rw[QL];exact a);have d:ic (n:Int)=MH:=M3 (by rw[QL];exact b);show(if(ic (t:Int)&&ic (n:Int))=MH then _ else _)=_;simp only[c,d,Q6,NN];rfl
theorem GK{t g:Nat}(d:0<g)(a:g<2^1000):GL (.int (t:Int)) (.int (g:Int))=My (.int ((t/g:Nat):Int)):=by
 have b:decide ((0:Int)<(g:Int))=MH:=M3 (by lia);have c:decide (((g:Int)).natAbs.log2<9000)=MH:=M3 (by
  rw[QL];have:=(Uf (n:=g) (k:=1000) (by lia)).mpr a;lia)
 show(if(decide ((0:Int)<(g:Int))&&decide (((g:Int)).natAbs.log2<9000))=MH then _ else _)=_;simp only[b,c,Q6,NN];rfl
theorem ij(l:a0a):(nI l).sum=((l.sum:Nat):Int):=by
 induction l with
 |nil=>rfl
 |cons x l w=>
  show(x:Int)+(nI l).sum=_;rw[w,Nn,SG]
theorem yp{l:a0a}{i:Nat}{d:D}(h:((nI l).map D.int)[i]?=My d):∃n,l[i]?=My n/\d= .int (n:Int):=by
 obtain⟨x,a,rfl⟩:=bP h;obtain⟨n,w,rfl⟩:=bP a;exact⟨n,w,rfl⟩
theorem BE(l:a0a):((nI l).map D.int).length=l.length:=by rw[MD,MD]
def Sq(l:a0a)(d:D):Prop:=d=nL l\/d= .tup ((nI l).map D.int)
theorem Sq.seq{l:a0a}{d:D}(h:Sq l d):ge d=My ((nI l).map D.int):=by rcases h with rfl|rfl<;>rfl
theorem Yr{i j:Int}(a:0<=i)(b:i<=10^9)(c:0<=j)(d:j<=10^9):oX [.int i,.int j]=My (aZ i (j-i).toNat):=by
 have q:(decide (-(2^62)<=i)&&decide (i<2^62)&&decide (-(2^62)<=j)&&decide (j<2^62))=MH:=by
  simp only[No,Nv];lia
 show(if(decide (-(2^62)<=i)&&decide (i<2^62)&&decide (-(2^62)<=j)&&decide (j<2^62))=MH then My (aZ i (j-i).toNat)else ME)=_;rw[MU q]
theorem rg2{n:Nat}(h:n<=1000):oX [.int 2,.int ((n:Int)+1)]=My (aZ 2 (n-1)):=by
 rw[Yr (by decide) (by decide) (by lia) (by lia),show((n:Int)+1-2).toNat=n-1 by lia]
end L2.Pu
namespace L2.Pu
open L2.Hs
def k9(k:a0c):LI->LI
 |[]=>[k]
 |x::l=>if c7 k x=MH then k::x::l else if k=x then x::l else x::k9 k l
theorem lv{k y:a0c}:∀{l:LI},y∈k9 k l↔y=k\/y∈l
 |[]=>by simp[k9]
 |x::l=>by
  unfold k9;split
  .simp
  .split
   .rename_i h
    subst h;simp
   .rw[M4,lv,M4]
    exact or_left_comm
theorem xb{k:a0c}:∀{l:LI},Up l->Up (k9 k l)
 |[],_=>by unfold k9;exact Sg _ _
 |x::l,h=>by
  obtain⟨a,b⟩:=QJ.mp h;unfold k9;split
  .rename_i q
   refine QJ.mpr ⟨λy hy=>?_,h⟩;rcases M4.mp hy with rfl|hy
   .exact q
   .exact qy q (a y hy)
  .split
   .exact h
   .rename_i q1 q2
    refine QJ.mpr ⟨λy hy=>?_,xb b⟩;rcases lv.mp hy with rfl|hy
    .cases q:c7 x y with
     |true=>rfl
     |false=>exact Nh (nz (by simpa using q1) q) q2
    .exact a y hy
def l4(w:LI):LI:=w.foldr k9 []
theorem m7:∀w,Up (l4 w)
 |[]=> .nil
 |k::w=>xb (m7 w)
theorem e9{y:a0c}:∀{w:LI},y∈l4 w↔y∈w
 |[]=>by simp[l4]
 |k::w=>by
  show y∈k9 k (l4 w)↔_;rw[lv,e9,M4]
theorem F9{l:LI}(h:Up l):l.Nodup:=h.imp λ{a b} q e=>by
 subst e;rw[i8]at q;cases q
theorem IT{w:LI}(b:∀k∈w,1<=k.length){m:LI}(D:m.length<63)(c:∀k∈w,k∈m):kQ (w.map i_)=My (.lst ((l4 w).map i_)):=by
 refine Eu ⟨m7 w,ON (mv (F9 (m7 w)) λx e=>c x (e9.mp e)) D,λk a=>⟨b k (e9.mp a),M8.mpr ⟨k,e9.mp a,rfl⟩⟩,λd E=>?_⟩;obtain⟨k,a,rfl⟩:=M8.mp E;exact⟨k,e9.mpr a,rfl⟩
end L2.Pu
namespace L2.Nt
noncomputable def sm{w:Type}(l:List w)(f:w->Nat):Nat:=(l.map f).sum
section
variable{d β:Type}
theorem zQ{f:d->Nat}:sm [] f=0:=rfl
theorem bu{a:d}{l:List d}{f:d->Nat}:sm (a::l) f=f a+sm l f:=by unfold sm;rw[MZ,Nn]
theorem uH{l m:List d}{f:d->Nat}:sm (l++m) f=sm l f+sm m f:=by unfold sm;rw[NH,Ud]
theorem dQ{f g:d->Nat}:∀{l:List d},(∀a∈l,f a=g a)->sm l f=sm l g
 |[],_=>rfl
 |a::l,h=>by rw[bu,bu,h a MP,dQ λb c=>h b (MJ a c)]
theorem uF{g:β->d}{f:d->Nat}{l:List β}:sm (l.map g) f=sm l λb=>f (g b):=by unfold sm;rw[MV];rfl
theorem q8{g:β->List d}{f:d->Nat}:∀{l:List β},sm (l.flatMap g) f=sm l λb=>sm (g b) f
 |[]=>rfl
 |b::l=>by rw[OA,uH,bu,q8]
theorem wC:∀{l:List d},(sm l λ_=>0)=0
 |[]=>rfl
 |a::l=>by rw[bu,wC]
theorem zR{f g:d->Nat}:∀{l:List d},(sm l λa=>f a+g a)=sm l f+sm l g
 |[]=>rfl
 |a::l=>by rw[bu,bu,bu,zR];lia
theorem l6{c:Nat}{f:d->Nat}:∀{l:List d},(sm l λa=>c*f a)=c*sm l f
 |[]=>rfl
 |a::l=>by rw[bu,bu,l6,Nat.mul_add]
theorem Gi{f:a0T}{m:Nat}:∀{n:Nat},m<=n->sm (MX (m+1)) f=sm (MX (n+1)) λa=>if a<=m then f a else 0
 |0,h=>by
  obtain rfl:m=0:=by lia
  exact dQ λa d=>by
   have:=Ni.mp d;rw[MU (by lia)]
 |n+1,h=>by
  rcases SA m (n+1)with q|q
  .rw[Qa (n:=n+1),uH,<-Gi (by lia:m<=n),bu,zQ,MS (by lia)]
   lia
  .obtain rfl:m=n+1:=by lia
   exact dQ λa d=>by
    have:=Ni.mp d;rw[MU (by lia)]
noncomputable def cM:a0a->Nat->a0p
 |[],0=>[[]]
 |[],_+1=>[]
 |x::r,c=>(MX (Rx x c+1)).flatMap λa=>(cM r (c-a)).map (a::·)
noncomputable def less(r v:a0a):a0a:=Ru (·-·) r v
theorem zw{x c:Nat}{r:a0a}{f:a0a->Nat}:sm (cM (x::r) c) f=sm (MX (Rx x c+1)) λa=>sm (cM r (c-a)) λv=>f (a::v):=by
 show sm ((MX (Rx x c+1)).flatMap λa=>(cM r (c-a)).map (a::·)) f=_;rw[q8];exact dQ λa _=>uF
end
end L2.Nt
namespace L2.Nt
open L2.Pu
noncomputable def ch:Nat->Nat->Nat
 |_,0=>1
 |0,_+1=>0
 |n+1,k+1=>ch n k+ch n (k+1)
theorem qP:∀{n k:Nat},n<k->ch n k=0
 |0,k+1,_=>by simp[ch]
 |n+1,k+1,h=>by
  show ch n k+ch n (k+1)=0;rw[qP (by lia),qP (by lia)]
theorem rQ(n:Nat):ch n 0=1:=by cases n<;>rfl
theorem xw:∀n,ch n n=1
 |0=>rfl
 |n+1=>by
  show ch n n+ch n (n+1)=1;rw[xw n,qP (by lia)]
theorem yU(n:Nat):dt (n+1)=(n+1)*dt n:=P6 (dt n) (n+1)
theorem mM:∀n a b:Nat,a+b=n->ch (a+b) a*(dt a*dt b)=dt (a+b)
 |n,0,b,_=>by rw[rQ];simp[dt]
 |n,a+1,0,_=>by rw[Nat.add_zero,xw];simp[dt]
 |0,a+1,b+1,h=>by lia
 |n+1,a+1,b+1,h=>by
  have c:=mM n a (b+1) (by lia);have d:=mM n (a+1) b (by lia);have e:a+1+(b+1)=(a+b+1)+1:=by lia
  have f:a+(b+1)=a+b+1:=by lia
  have g:a+1+b=a+b+1:=by lia
  rw[f]at c;rw[g]at d;rw[e];show(ch (a+b+1) a+ch (a+b+1) (a+1))*(dt (a+1)*dt (b+1))=dt (a+b+1+1);rw[yU (a+b+1),VY];have i:ch (a+b+1) a*(dt (a+1)*dt (b+1))=(a+1)*dt (a+b+1):=by
   rw[<-c,yU a];simp only[Rc,QW,P6]
  have j:ch (a+b+1) (a+1)*(dt (a+1)*dt (b+1))=(b+1)*dt (a+b+1):=by
   rw[<-d,yU b];simp only[Rc,QW,P6]
  rw[i,j,<-VY,show a+1+(b+1)=a+b+1+1 by lia]
theorem m8{f:a0T}{n:Nat}:sm (MX (n+1)) f=f 0+sm (MX n) λa=>f (a+1):=by
 rw[Vc,bu,uF]
theorem DX:∀(x y c:Nat),(sm (MX (c+1)) λa=>ch x a*ch y (c-a))=ch (x+y) c
 |0,y,c=>by
  rw[m8,rQ,Nat.one_mul,Nat.sub_zero,Oo];have:(sm (MX c) λa=>ch 0 (a+1)*ch y (c-(a+1)))=0:=(dQ λa _=>by rw[qP (by lia),Vk]).trans wC;rw[this];rfl
 |x+1,y,0=>by rw[m8];simp[rQ,zQ]
 |x+1,y,c+1=>by
  have b:=DX x y (c+1);have d:=DX x y c;rw[m8]at b;rw[m8];have e:(sm (MX (c+1)) λa=>ch (x+1) (a+1)*ch y (c+1-(a+1)))=(sm (MX (c+1)) λa=>ch x a*ch y (c-a))+sm (MX (c+1)) λa=>ch x (a+1)*ch y (c+1-(a+1)):=by
   rw[<-zR];refine dQ λa _=>?_;show(ch x a+ch x (a+1))*_=_;rw[VY,Nat.add_sub_add_right]
  rw[e,d];have f:x+1+y=x+y+1:=by lia
  rw[f];show _=ch (x+y) c+ch (x+y) (c+1);rw[<-b,rQ,rQ];lia
theorem vdm(x y c:Nat):(sm (MX (Rx x c+1)) λa=>ch x a*ch y (c-a))=ch (x+y) c:=by
 rw[Gi (Nat.min_le_right x c),<-DX];refine dQ λa w=>?_;have:=Ni.mp w;by_cases q:a<=x
 .rw[MU (by lia)]
 .rw[MS (by lia),qP (by lia),Vk]
def pc:a0a->a0a->Nat
 |x::r,a::v=>ch x a*pc r v
 |_,_=>1
theorem AM:∀(r:a0a) (c:Nat),sm (cM r c) (pc r)=ch r.sum c
 |[],0=>rfl
 |[],c+1=>rfl
 |x::r,c=>by
  rw[zw,Nn,<-vdm];exact dQ λa _=>by rw[<-AM r (c-a),<-l6];rfl
theorem jg:∀{r:a0a} {c:Nat} {v:a0a},v∈cM r c->v.sum=c/\(less r v).sum+c=r.sum/\v.length=r.length/\pr (r.map dt)=pc r v*(pr (v.map dt)*pr ((less r v).map dt))
 |[],0,v,h=>by cases Nq.mp h;exact⟨rfl,rfl,rfl,rfl⟩
 |[],c+1,v,h=>by cases h
 |x::r,c,v,h=>by
  have w:v∈(MX (Rx x c+1)).flatMap λa=>(cM r (c-a)).map (a::·):=h;obtain⟨a,D,d⟩:=Pf.mp w;obtain⟨u,e,rfl⟩:=M8.mp d;have f:=Ni.mp D;obtain⟨g,i,j,k⟩:=jg e;refine⟨by rw[Nn,g];lia,?_,by rw[M5,j,M5],?_⟩
  .show((x-a)::less r u).sum+c=_
   rw[Nn,Nn,<-i];lia
  .show dt x*pr (r.map dt)=(ch x a*pc r u)*((dt a*pr (u.map dt))*(dt (x-a)*pr ((less r u).map dt)))
   have b:=mM x a (x-a) (by lia);rw[show a+(x-a)=x by lia]at b;rw[k,<-b];simp only[Rc,QW,P6]
def mu:a0a->Nat
 |[]=>1
 |x::r=>ch (x+r.sum) x*mu r
theorem kB:∀r:a0a,mu r*pr (r.map dt)=dt r.sum
 |[]=>rfl
 |x::r=>by
  show(ch (x+r.sum) x*mu r)*(dt x*pr (r.map dt))=dt (x::r).sum;rw[Nn,<-mM _ x r.sum rfl,<-kB r];simp only[Rc,QW,P6]
theorem wR(r:a0a):0<pr (r.map dt):=AF λx a=>by
 obtain⟨n,_,rfl⟩:=M8.mp a;exact nY n
theorem JX(r:a0a):dt r.sum/pr (r.map dt)=mu r:=by rw[<-kB,Nat.mul_div_cancel _ (wR r)]
def Xp:a0a->a0a->Nat
 |_,[]=>1
 |r,c::cs=>sm (cM r c) λv=>mu v*Xp (less r v) cs
theorem FT:∀{r:a0a},r.sum=0->mu r=1
 |[],_=>rfl
 |x::r,h=>by
  rw[Nn]at h;obtain rfl:x=0:=by lia
  show ch _ 0*mu r=1;rw[rQ,FT (by lia)]
theorem vP:∀(w r:a0a),r.sum=w.sum->Xp r w=mu r
 |[],r,h=>(FT h).symm
 |c::w,r,h=>by
  rw[Nn]at h;refine Nat.eq_of_mul_eq_mul_right (wR r) ?_;rw[kB];show sm (cM r c) (λv=>mu v*Xp (less r v) w)*_=_;rw[P6,<-l6];have e:(sm (cM r c) λv=>pr (r.map dt)*(mu v*Xp (less r v) w))=sm (cM r c) λv=>(dt c*dt (r.sum-c))*pc r v:=by
   refine dQ λv a=>?_;obtain⟨b,f,g,d⟩:=jg a;rw[vP w (less r v) (by lia),d];have D:=kB v;have E:=kB (less r v);rw[b]at D;rw[show(less r v).sum=r.sum-c by lia]at E;rw[<-D,<-E];simp only[Rc,QW,P6]
  rw[e,l6,AM,P6];have:=mM r.sum c (r.sum-c) (by lia);rw[show c+(r.sum-c)=r.sum by lia]at this;exact this
def lg:a0a->a0a->Prop
 |[],[]=>True
 |a::v,x::r=>a<=x/\lg v r
 |_,_=>False
theorem lg.refl:∀r,lg r r
 |[]=>trivial
 |_::r=>⟨MW _,lg.refl r⟩
theorem lg.tr:∀{u v r:a0a},lg u v->lg v r->lg u r
 |[],[],[],_,_=>trivial
 |_::_,_::_,_::_,h,q=>⟨Ng h.1 q.1,h.2.tr q.2⟩
 |[],_::_,_,h,_=>h.elim
 |_::_,[],_,h,_=>h.elim
 |[],[],_::_,_,q=>q.elim
 |_::_,_::_,[],_,q=>q.elim
theorem lg.len:∀{v r:a0a},lg v r->v.length=r.length
 |[],[],_=>rfl
 |_::_,_::_,h=>N6 (·+1) h.2.len
 |[],_::_,h=>h.elim
 |_::_,[],h=>h.elim
theorem lg.less:∀{v r:a0a},lg v r->lg (less r v) r
 |[],[],_=>trivial
 |a::v,x::r,h=>⟨Nat.sub_le x a,h.2.less⟩
 |[],_::_,h=>h.elim
 |_::_,[],h=>h.elim
theorem lg.pr:∀{v r:a0a},lg v r->L2.Pu.pr (v.map (·+1))<=L2.Pu.pr (r.map (·+1))
 |[],[],_=>MW _
 |_::_,_::_,h=>Nat.mul_le_mul (Nat.succ_le_succ h.1) h.2.pr
 |[],_::_,h=>h.elim
 |_::_,[],h=>h.elim
theorem lg.sum:∀{v r:a0a},lg v r->v.sum<=r.sum
 |[],[],_=>MW _
 |_::_,_::_,h=>by rw[Nn,Nn];exact UG h.1 h.2.sum
 |[],_::_,h=>h.elim
 |_::_,[],h=>h.elim
theorem cS:∀{r:a0a} {c:Nat} {v:a0a},v∈cM r c->lg v r
 |[],0,v,h=>by cases Nq.mp h;exact trivial
 |[],c+1,v,h=>by cases h
 |x::r,c,v,h=>by
  have w:v∈(MX (Rx x c+1)).flatMap λa=>(cM r (c-a)).map (a::·):=h;obtain⟨a,D,b⟩:=Pf.mp w;obtain⟨u,d,rfl⟩:=M8.mp b;have e:=Ni.mp D;exact⟨by lia,cS d⟩
theorem k6:∀{r v:a0a},lg v r->v∈cM r v.sum
 |[],[],_=>Nq.mpr rfl
 |x::r,a::v,h=>by
  refine Pf.mpr ⟨a,Ni.mpr (by rw[Nn];have:=h.1;lia),M8.mpr ⟨v,?_,rfl⟩⟩;rw[Nn,Sk];exact k6 h.2
 |[],_::_,h=>h.elim
 |_::_,[],h=>h.elim
theorem nX{w a:Type}{f:w->List a}{n:Nat}:∀{l:List w},(∀x∈l,(f x).length<=n)->(l.flatMap f).length<=l.length*n
 |[],_=>by simp
 |x::l,h=>by
  rw[OA,Nb,M5,Nat.succ_mul,Nat.add_comm];exact UG (nX λy b=>h y (MJ _ b)) (h x MP)
theorem kN:∀(r:a0a) (c:Nat),(cM r c).length<=pr (r.dropLast.map (·+1))
 |[],0=>MW _
 |[],_+1=>N2 _
 |[x],c=>by
  have h:cM [x] c=(MX (Rx x c+1)).flatMap λa=>(cM [] (c-a)).map (a::·):=rfl;rw[h,Qa,Rl,Nb];have e:((MX (Rx x c)).flatMap λa=>(cM [] (c-a)).map (a::·))=[]:=by
   refine QN.mpr λa w=>?_;have:=Ni.mp w;obtain⟨n,D⟩:∃n,c-a=n+1:=⟨c-a-1,by lia⟩;rw[D];rfl
  rw[e];cases q:c-Rx x c<;>simp[cM,q,pr]
 |x::y::r,c=>by
  have h:=nX (l:=MX (Rx x c+1)) (f:=λa=>(cM (y::r) (c-a)).map (a::·)) (n:=pr ((y::r).dropLast.map (·+1))) λa _=>by rw[MD];exact kN (y::r) (c-a)
  rw[Nr]at h;refine Ng h ?_;show _<=(x+1)*pr ((y::r).dropLast.map (·+1));exact V0 _ (by lia)
theorem yT{w D a:Type}{f:w->List D}{g:D->List a}(l:List w):(l.flatMap f).flatMap g=l.flatMap λx=>(f x).flatMap g:=List.flatMap_assoc
theorem yg(r:a0a)(k:Nat):pr ((r.take k).map (·+1))<=pr (r.map (·+1)):=by
 conv=>rhs;rw[<-Qd k r,NH,AG]
 exact Vd _ (AF λx a=>by
  obtain⟨n,_,rfl⟩:=M8.mp a;lia)
theorem tX(l:a0a):(nI l).map Int.toNat=l:=by
 rw[MV];exact(Nu λx _=>rfl).trans (T1 l)
theorem jm{l m:a0a}(h:nI l=nI m):l=m:=by rw[<-tX l,h,tX]
theorem BB{w a:Type}{f:w->a}{l:List w}(h:(l.map f).Nodup):l.Nodup:=(RW.mp h).imp λq e=>q (N6 f e)
theorem BC{D c:Type}{f:D->c}(w:∀a b,f a=f b->a=b){l:List D}(h:l.Nodup):(l.map f).Nodup:=RW.mpr (h.imp λq e=>q (w _ _ e))
theorem jX{w:a0a}{k:Nat}(h:k<w.length):w.drop k=w.getD k 0::w.drop (k+1):=by
 rw[NR h,MN,MI h];rfl
noncomputable def zv:a0l->a0a->Bool
 |p::ps,a::v=>decide (p.1<=a)&&decide (a<=p.2)&&zv ps v
 |_,_=>MH
def vB(w:a0l)(r:a0a)(c:Nat):a0p:=(cM r c).filter (zv w)
theorem IB{w:a0l}{r v:a0a}{c:Nat}(h:v∈vB w r c):v∈cM r c:=(Of.mp h).1
theorem wv{p:Nat×Nat}{w:a0l}{x:Nat}{r:a0a}{c:Nat}:vB (p::w) (x::r) c=(MX (Rx x c+1)).flatMap λa=>if p.1<=a/\a<=p.2 then(vB w r (c-a)).map (a::·)else[]:=by
 show((MX (Rx x c+1)).flatMap λa=>(cM r (c-a)).map (a::·)).filter (zv (p::w))=_;rw[List.filter_flatMap];refine N6 (List.flatMap · _) (funext λa=>?_);rw[List.filter_map];by_cases q:p.1<=a/\a<=p.2
 .rw[MU q]
  refine N6 (NZ (a::·)) (List.filter_congr λv _=>?_);show(decide (p.1<=a)&&decide (a<=p.2)&&zv w v)=zv w v;rw[M3 q.1,M3 q.2];rfl
 .rw[MS q,List.filter_eq_nil_iff.mpr,Pb]
  intro v _ h;have h:(decide (p.1<=a)&&decide (a<=p.2)&&zv w v)=MH:=h;simp only[No,Nv]at h;exact q h.1
noncomputable def lk:a0l->a0a->a0a
 |p::ps,x::r=>Rx x p.2::lk ps r
 |_,_=>[]
noncomputable def la(w:a0l):a0a:=w.map (·.1)
theorem F8:∀{w:a0l} {r:a0a} {c:Nat} {v:a0a},w.length=r.length->v∈vB w r c->(la w).sum<=c/\c<=(lk w r).sum
 |[],[],c,v,_,h=>by
  have:=jg (IB h);simp at this;simp[la,lk];lia
 |p::w,x::r,c,v,e,h=>by
  rw[wv]at h;obtain⟨a,D,h⟩:=Pf.mp h;by_cases q:p.1<=a/\a<=p.2
  .rw[MU q]at h
   obtain⟨u,b,rfl⟩:=M8.mp h;have i:=F8 (by simpa using e) b;have:=Ni.mp D;simp only[la,lk,MZ,Nn]at i⊢;lia
  .rw[MS q]at h;cases h
noncomputable def Xl(x:Nat)(p:Nat×Nat)(few a:Nat)(b:a0a×Nat):List (a0a×Nat):=(MX (Rx (Rx x p.2+few) b.2+1-few-VO p.1 (b.2-a))).map λi=>(b.1++[VO p.1 (b.2-a)+i],b.2-(VO p.1 (b.2-a)+i))
def mm(w:a0l)(r:a0a)(c:Nat):Nat->List (a0a×Nat)
 |0=>[([],c)]
 |k+1=>(mm w r c k).flatMap (Xl (r.getD k 0) (w.getD k (0,0)) ((la w).drop (k+1)).sum ((lk w r).drop (k+1)).sum)
theorem CL{b:Type}{f:Nat->List b}{lo n N:Nat}(h:∀a<N,f a≠[]->lo<=a/\a<n)(D:n<=N):(MX N).flatMap f=(MX (n-lo)).flatMap λi=>f (lo+i):=by
 have e:∀{a},a<N->¬(lo<=a/\a<n)->f a=[]:=λ{a} w q=>OD λz=>q (h a w z);obtain⟨d,rfl⟩:∃d,N=n+d:=⟨N-n,by lia⟩;have z:(MX d).flatMap (λa=>f (n+a))=[]:=QN.mpr λa w=>e (by have:=Ni.mp w;lia) (by lia);rw[List.range_add,Rl,TU,z,NJ];rcases Nat.le_total lo n with q|q
 .obtain⟨m,rfl⟩:∃m,n=lo+m:=⟨n-lo,by lia⟩
  rw[List.range_add,Rl,QN.mpr λa w=>e (by have:=Ni.mp w;lia) (by have:=Ni.mp w;lia),Pp,TU,Sk]
 .rw[show n-lo=0 by lia,QN.mpr λa w=>e (by have:=Ni.mp w;lia) (by have:=Ni.mp w;lia)];rfl
theorem uy:∀{w:a0l} {r:a0a} (k:Nat),lk (w.drop k) (r.drop k)=(lk w r).drop k
 |_,_,0=>rfl
 |[],r,k+1=>by simp[lk]
 |p::w,[],k+1=>by cases h:(w.drop k)<;>simp[lk,h]
 |p::w,x::r,k+1=>uy k
theorem iI{w:Type}{l:List w}{k:Nat}{d:w}(h:k<l.length):l.getD k d=l[k]:=by rw[MN,MI h];rfl
theorem qL{w a:Type}{f g:w->List a}:∀{l:List w},(∀x∈l,f x=g x)->l.flatMap f=l.flatMap g
 |[],_=>rfl
 |x::l,h=>by rw[OA,OA,h x MP,qL λy b=>h y (MJ _ b)]
theorem wA{D:a0l}{r:a0a}(j:D.length=r.length)(c:Nat):∀k,k<=r.length->((mm D r c k).flatMap λb=>(vB (D.drop k) (r.drop k) b.2).map (b.1++·))=vB D r c
 |0,_=>by simp[mm]
 |k+1,h=>by
  rw[<-wA j c k (by lia)];show((mm D r c k).flatMap _).flatMap _=_;rw[yT];refine N6 (List.flatMap · (mm D r c k)) (funext λb=>?_);have o:k<r.length:=by lia
  have p:k<D.length:=by lia
  rw[NR o,NR p,iI o,iI p,wv,PQ];rw[CL (f:=λa=>(if D[k].1<=a/\a<=D[k].2 then(vB (D.drop (k+1)) (r.drop (k+1)) (b.2-a)).map (a::·)else[]).map (b.1++·)) (N:=Rx r[k] b.2+1) (lo:=VO D[k].1 (b.2-((lk D r).drop (k+1)).sum)) (n:=Rx (Rx r[k] b.2+1) (Rx (Rx r[k] D[k].2+((la D).drop (k+1)).sum) b.2+1-((la D).drop (k+1)).sum)) (λa d E=>?_) (Rm _ _)]
  .unfold Xl
   rw[TU,show Rx (Rx r[k] b.2+1) (Rx (Rx r[k] D[k].2+((la D).drop (k+1)).sum) b.2+1-((la D).drop (k+1)).sum)=Rx (Rx r[k] D[k].2+((la D).drop (k+1)).sum) b.2+1-((la D).drop (k+1)).sum from Nat.min_eq_right (by have:=Rm r[k] D[k].2;generalize Rx r[k] D[k].2=m at*;lia)];refine qL λi t=>?_;have:=Ni.mp t;have g:=Ng (Rm (Rx r[k] D[k].2+((la D).drop (k+1)).sum) b.2) (SU (Nat.min_le_right _ _) _);rw[MU ⟨Ng (Nat.le_max_left _ _) (PU _ _),by generalize Rx (_+_) b.2=x at*;generalize VO D[k].1 _=y at*;lia⟩,MV];exact Nu λv _=>by simp
  .by_cases q:D[k].1<=a/\a<=D[k].2
   .rw[MU q]at E
    obtain⟨w,e⟩:=List.exists_mem_of_ne_nil _ E;obtain⟨w,e,_⟩:=M8.mp e;obtain⟨v,u,_⟩:=M8.mp e;have:=F8 (by simp[j]) u;rw[uy]at this;unfold la at this⊢;rw[Q8]at this;have l:=WI.mp (TL d);have m:=WI.mpr ⟨l.1,q.2⟩;have l:=l.2;refine⟨Nat.max_le.mpr ⟨q.1,?_⟩,Nat.lt_min.mpr ⟨d,Nat.lt_sub_of_add_lt (Nat.lt_succ_of_le (WI.mpr ⟨SU m _,?_⟩))⟩⟩<;>clear d m<;>lia
   .rw[MS q]at E;exact Nh rfl E
theorem IA(c:Nat):vB [] [] c=if(c:Int)=0 then[[]]else[]:=by
 cases c with
 |zero=>rfl
 |succ n=>rw[MS (by lia)];rfl
theorem Ha{w:a0l}{r:a0a}(a:w.length=r.length)(c:Nat):((mm w r c r.length).filter λb=>decide ((b.2:Int)=0)).map (·.1)=vB w r c:=by
 rw[<-wA a c r.length (MW _),Q3,<-a,Q3,a];generalize mm w r c r.length=l
 induction l with
 |nil=>rfl
 |cons b l D=>
  rw[OA,Q4,<-D,IA];by_cases q:(b.2:Int)=0
  .rw[MU q,MU (M3 q)];simp
  .rw[MS q,MS (by simp;lia)];rfl
theorem wz{w:a0l}{r:a0a}(c:Nat):∀k,k<=r.length->(mm w r c k).length<=pr ((r.take k).map (·+1))
 |0,_=>MW _
 |k+1,h=>by
  have e:r[k]?=My r[k]:=MI (by lia);rw[rj e];refine Ng (nX (n:=r[k]+1) λb _=>?_) (V0 _ (wz c k (by lia)));unfold Xl;rw[MD,Nr,iI (show k<r.length by lia)];refine Ng (Nat.sub_le _ _) (Nat.sub_le_of_le_add ?_);rw[Nat.add_right_comm];exact Nat.succ_le_succ (Ng (Rm _ _) (SU (Rm _ _) _))
theorem zO(w:a0l)(r:a0a)(c:Nat):∀k,∀b∈mm w r c k,b.2<=c/\b.1.length=k
 |0,b,h=>by cases Nq.mp h;exact⟨MW _,rfl⟩
 |k+1,b,h=>by
  obtain⟨d,D,a⟩:=Pf.mp (show b∈(mm w r c k).flatMap _ from h);obtain⟨i,_,rfl⟩:=M8.mp a;obtain⟨G,E⟩:=zO w r c k d D;exact⟨by show d.2-_<=c;lia,by rw[Nb,E];rfl⟩
theorem zA:∀{ps:a0l} {r:a0a},(lk ps r).sum<=r.sum
 |[],r=>N2 _
 |_::_,[]=>MW _
 |p::ps,x::r=>by
  have:=zA (ps:=ps) (r:=r);simp only[lk,Nn];lia
abbrev Wy:=Nat->a0a->a0p
def W2(w:a0a)(W:Wy):Prop:=∀k r,(W k r).Sublist (cM r (w.getD k 0))
def WZ(W:Wy)(L:a0p)(k:Nat):LI:=L.flatMap λr=>(W k r).map λv=>nI (less r v)
def W7(W:Wy)(L:a0p)(k:Nat):a0p:=(l4 (WZ W L k)).map λk=>k.map Int.toNat
section
variable{W:Wy}{cs rs:a0a}
theorem kA{L:a0p}{k:Nat}{y:a0c}:y∈WZ W L k↔∃r∈L,∃v∈W k r,y=nI (less r v):=by
 unfold WZ;constructor
 .intro h
  obtain⟨r,a,h⟩:=Pf.mp h;obtain⟨v,b,rfl⟩:=M8.mp h;exact⟨r,a,v,b,rfl⟩
 .rintro⟨r,a,v,b,rfl⟩
  exact Pf.mpr ⟨r,a,M8.mpr ⟨v,b,rfl⟩⟩
theorem ym(L:a0p)(k:Nat):(W7 W L k).map nI=l4 (WZ W L k):=by
 unfold W7;rw[MV];refine(Nu λy a=>?_).trans (T1 _);obtain⟨r,_,v,_,rfl⟩:=kA.mp (e9.mp a);show nI ((nI _).map Int.toNat)=_;rw[tX];rfl
theorem nu{L:a0p}{k:Nat}{u:a0a}:u∈W7 W L k↔∃r∈L,∃v∈W k r,u=less r v:=by
 constructor
 .intro h
  have:nI u∈l4 (WZ W L k):=by rw[<-ym];exact M8.mpr ⟨u,h,rfl⟩
  obtain⟨r,a,v,b,e⟩:=kA.mp (e9.mp this);exact⟨r,a,v,b,jm e⟩
 .rintro⟨r,a,v,b,rfl⟩
  exact M8.mpr ⟨nI (less r v),e9.mpr (kA.mpr ⟨r,a,v,b,rfl⟩),tX _⟩
def hO(W:Wy)(rs:a0a):Nat->a0p
 |0=>[rs]
 |k+1=>W7 W (hO W rs k) k
theorem vj:∀k,(hO W rs k).Nodup
 |0=>Sg _ _
 |k+1=>BB (f:=nI) (by show(NZ nI (W7 _ _ _)).Nodup;rw[ym];exact F9 (m7 _))
theorem jw(b:W2 cs W)(w:rs.sum=cs.sum):∀k,k<=cs.length->∀r∈hO W rs k,lg r rs/\r.sum=(cs.drop k).sum
 |0,_,r,h=>by cases Nq.mp h;exact⟨lg.refl _,w⟩
 |k+1,hk,u,h=>by
  obtain⟨r,c,v,a,rfl⟩:=nu.mp (show u∈W7 W (hO W rs k) k from h);have a:=(b k r).subset a;obtain⟨D,E⟩:=jw b w k (by lia) r c;have G:=(jg a).2.1;rw[E,jX (by lia),Nn]at G;exact⟨(cS a).less.tr D,by lia⟩
theorem HL(a:W2 cs W)(w:rs.sum=cs.sum){k:Nat}(b:k<=cs.length):(hO W rs k).length<=pr (rs.dropLast.map (·+1)):=
 Ng (mv (vj k) (m:=cM rs (cs.drop k).sum) λr c=>by
  obtain⟨d,e⟩:=jw a w k b r c;rw[<-e];exact k6 d) (kN _ _)
theorem HH(a:W2 cs W)(w:rs.sum=cs.sum)(e:1<=rs.length)(f:pr (rs.dropLast.map (·+1))<63){k:Nat}(g:k<cs.length):kQ ((WZ W (hO W rs k) k).map i_)=My (.lst ((hO W rs (k+1)).map λr=>i_ (nI r))):=by
 refine(IT (m:=(cM rs (cs.drop (k+1)).sum).map nI) ?_ (by rw[MD];exact ON (kN _ _) f) ?_).trans ?_
 .intro x b
  obtain⟨r,c,v,d,rfl⟩:=kA.mp b;rw[MD,((cS ((a k r).subset d)).less.tr (jw a w k (by lia) r c).1).len];exact e
 .intro x b
  obtain⟨r,c,v,d,rfl⟩:=kA.mp b;obtain⟨D,E⟩:=jw a w (k+1) g (less r v) (nu.mpr ⟨r,c,v,d,rfl⟩);exact M8.mpr ⟨less r v,by rw[<-E];exact k6 D,rfl⟩
 .rw[<-ym,MV];rfl
def W8(W:Wy)(rs:a0a)(n:Nat):List (Int×a0c):=(MX n).flatMap λk=>(hO W rs k).map λr=>((k:Int),nI r)
theorem BS:∀n,(W8 W rs n).Nodup
 |0=>List.nodup_nil
 |n+1=>by
  unfold W8;rw[Qa,Rl,OA,List.flatMap_nil,NJ];refine TF.mpr ⟨BS n,BC (λr s e=>jm (Rv.mp e).2) (vj n),λx a y b e=>?_⟩;subst e;obtain⟨k,c,h⟩:=Pf.mp a;obtain⟨r,_,rfl⟩:=M8.mp h;obtain⟨s,_,e⟩:=M8.mp b;have:=(Rv.mp e).1;have d:=Ni.mp c;simp only at this;lia
def j1(W:Wy):Nat->Nat->a0a->Nat
 |0,_,_=>1
 |j+1,k,r=>sm (W k r) λv=>j1 W j (k+1) (less r v)
def js(W:Wy):Nat->Nat->a0a->Nat
 |0,_,_=>1
 |j+1,k,r=>sm (W k r) λv=>mu v*js W j (k+1) (less r v)
theorem uD{D:Type}{f g:D->Nat}{l m:List D}(h:l.Sublist m)(q:∀a∈m,f a<=g a):sm l f<=sm m g:=by
 induction h with
 |slnil=>exact MW _
 |cons a _ w=>rw[bu];exact Ng (w λx b=>q x (MJ _ b)) (Nat.le_add_left _ _)
 |cons_cons a _ w=>rw[bu,bu];exact UG (q a MP) (w λx b=>q x (MJ _ b))
theorem vQ(a:W2 cs W):∀(j k:Nat) (r:a0a),k+j=cs.length->js W j k r<=Xp r (cs.drop k)
 |0,k,r,h=>by rw[show k=cs.length by lia,Q3];exact MW _
 |j+1,k,r,h=>by
  rw[jX (by lia)];exact uD (a k r) λv _=>Nat.mul_le_mul_left _ (vQ a j (k+1) (less r v) (by lia))
theorem BF(r:a0a):0<mu r:=Nat.pos_of_ne_zero λz=>by
 have:=kB r;rw[z,Vk]at this;have:=nY r.sum;lia
end
end L2.Nt
namespace L2.Pu
theorem DP{n:Nat}{f g:a0M}(h:∀i<n,f i<=g i):S n f<=S n g:=by
 induction n with
 |zero=>exact VW _
 |succ n w=>
  rw[gH,gH];have a:=w λi b=>h i (by lia);have c:=h n (by lia);lia
theorem GP(n:Nat)(f g:a0M):S n (λi=>f i-g i)=S n f-S n g:=by
 induction n with
 |zero=>rfl
 |succ n w=>rw[gH,gH,gH,w];lia
noncomputable def fl(x y:Bool)(l h:Int):Int:=(if x=MH/\y=ML then h else 0)-(if x=ML/\y=MH then l else 0)
def XG(w D:a0M)(E a:Nat->Nat->Int)(r c:Nat)(X Y:Nat->Bool):Int:=
 S c (λj=>if Y j=MH then D j else 0)-S r (λi=>if X i=MH then w i else 0)+S r λi=>S c λj=>fl (X i) (Y j) (E i j) (a i j)
section
variable{m o:a0M}{p l:Nat->Nat->Int}{r c:Nat}
theorem Hc{g:Nat->Nat->Int}(h:∀i<r,∀j<c,p i j<=g i j/\g i j<=l i j)(d:∀i<r,m i=S c (g i))(e:∀j<c,o j=S r λi=>g i j)(X Y:Nat->Bool):0<=XG m o p l r c X Y:=by
 have f:S c (λj=>if Y j=MH then o j else 0)=S r λi=>S c λj=>if Y j=MH then g i j else 0:=by
  rw[DO];refine eC λj a=>?_;cases q:Y j with
  |true=>simp only[MU];exact e j a
  |false=>simp only[Na,N1];exact(mU r).symm
 have k:S r (λi=>if X i=MH then m i else 0)=S r λi=>S c λj=>if X i=MH then g i j else 0:=by
  refine eC λi l=>?_;cases q:X i with
  |true=>simp only[MU];exact d i l
  |false=>simp only[Na,N1];exact(mU c).symm
 unfold XG;rw[f,k,<-GP,<-uq];refine Int.le_trans (Int.le_of_eq (mU r).symm) (DP λi b=>?_);rw[<-GP,<-uq];refine Int.le_trans (Int.le_of_eq (mU c).symm) (DP λj a=>?_);have:=h i b j a;unfold fl;cases X i<;>cases Y j<;>simp<;>lia
noncomputable def s9:Nat->a0p
 |0=>[[]]
 |n+1=>s9 n++(s9 n).map (·++[n])
theorem je:∀(n:Nat) (l:a0a),l∈s9 n->l.Sublist (MX n)
 |0,l,h=>by rw[Nq.mp h];exact .slnil
 |n+1,l,h=>by
  rw[Qa];rcases NP.mp h with h|h
  .exact(je n l h).trans (List.sublist_append_left _ _)
  .obtain⟨a,h',rfl⟩:=M8.mp h
   exact(je n a h').append (UE _)
theorem xx:∀n:Nat,(s9 n).length=2^n
 |0=>rfl
 |n+1=>by
  rw[s9,Nb,MD,xx n,Nat.pow_succ];lia
end
section
variable{o m:a0c}{b:LP}{r c:Nat}
abbrev XH(o m:a0c)(b:LP)(r c:Nat)(X Y:Nat->Bool):Int:=XG (λi=>o.getD i 0) (λj=>m.getD j 0) (λi j=>(bI b i j).1) (λi j=>(bI b i j).2) r c X Y
theorem IW{a d:a0a}(e:a.Sublist (MX r))(f:d.Sublist (MX c)):tT m b r c a d-qt o a=XH o m b r c (λi=>decide (i∈a)) (λj=>decide (j∈d)):=by
 rw[Hk e f];unfold qt XH XG;rw[m6 f,m6 e];have h:∀(n:Nat) (l:a0a) (g:a0M),S n (λj=>if decide (j∈l)=MH then g j else 0)=S n (λj=>if j∈l then g j else 0):=λn l g=>eC λj _=>by simp
 rw[h,h];have k:(S r λi=>S c λj=>hF b a d i j)=S r λi=>S c λj=>fl (decide (i∈a)) (decide (j∈d)) (bI b i j).1 (bI b i j).2:=by
  refine eC λi _=>eC λj _=>?_;unfold hF fl;simp
 simp only[k];lia
def vb(m:a0c)(b:LP)(r c:Nat)(a:a0a):a0a:=(MX c).filter λj=>decide (fP m b r a j<gs b a j)
end
end L2.Pu
namespace L2.Nt
open L2.Pu
def B_(W:Wy)(j k:Nat)(r:a0a):a0p:=(W k r).filter λv=>decide ((0:Int)<((j1 W j (k+1) (less r v):Nat):Int))
def k_(f:a0a->Nat):a0p->Nat->a0a×Nat
 |[],n=>([],n)
 |v::l,n=>if n<f v then(v,n)else k_ f l (n-f v)
theorem mF{f:a0a->Nat}:∀{l:a0p} {n:Nat},n<sm l f->(k_ f l n).1∈l/\(k_ f l n).2<f (k_ f l n).1
 |[],n,h=>by cases h
 |v::l,n,h=>by
  unfold k_;rw[bu]at h;by_cases q:n<f v
  .rw[MU q];exact⟨MP,q⟩
  .rw[MS q]
   obtain⟨a,b⟩:=mF (f:=f) (l:=l) (n:=n-f v) (by lia);exact⟨MJ _ a,b⟩
def T_(W:Wy):Nat->Nat->a0a->Nat->a0p
 |0,_,_,_=>[]
 |j+1,k,r,n=>(k_ (λv=>j1 W j (k+1) (less r v)) (B_ W j k r) n).1::T_ W j (k+1) (less r (k_ (λv=>j1 W j (k+1) (less r v)) (B_ W j k r) n).1) (k_ (λv=>j1 W j (k+1) (less r v)) (B_ W j k r) n).2
def Wk(W:Wy):Nat->a0a->a0p->Prop
 |_,_,[]=>True
 |k,r,v::vs=>v∈W k r/\Wk W (k+1) (less r v) vs
section
variable{W:Wy}{cs:a0a}
theorem uG{w:Type}{f:w->Nat}:∀{l:List w},sm (l.filter λv=>decide ((0:Int)<((f v:Nat):Int))) f=sm l f
 |[]=>rfl
 |v::l=>by
  rw[Q4];by_cases q:(0:Int)<((f v:Nat):Int)
  .rw[MU (M3 q),bu,bu,uG]
  .rw[MS (λz=>q (O5 z)),bu,uG];lia
theorem zM(j k:Nat)(r:a0a):(sm (B_ W j k r) λv=>j1 W j (k+1) (less r v))=j1 W (j+1) k r:=uG
theorem BT:∀{j k n:Nat} {r:a0a},(T_ W j k r n).length=j
 |0,_,_,_=>rfl
 |j+1,k,n,r=>by unfold T_;rw[M5,BT]
theorem GC:∀{j k n:Nat} {r:a0a},n<j1 W j k r->Wk W k r (T_ W j k r n)
 |0,_,_,_,_=>trivial
 |j+1,k,n,r,h=>by
  rw[<-zM]at h;obtain⟨a,b⟩:=mF h;exact⟨(Of.mp a).1,GC b⟩
theorem Gz{w:Type}{f:w->Nat}{a:w}:∀{l:List w},a∈l->f a<=sm l f
 |b::l,h=>by
  rw[bu];rcases M4.mp h with rfl|h
  .lia
  .have:=Gz (f:=f) h;lia
theorem zq:∀{j k:Nat} {r:a0a} {w:a0p},Wk W k r w->w.length=j->0<j1 W j k r
 |_,_,_,[],_,rfl=>Nat.one_pos
 |_,k,r,v::w,h,rfl=>Nm (zq h.2 rfl) (Gz (f:=λv=>j1 W w.length (k+1) (less r v)) h.1)
theorem K4{j k:Nat}{r v:a0a}{w:a0p}(h:Wk W k r (v::w))(e:w.length=j):v∈B_ W j k r:=Of.mpr ⟨h.1,M3 (by have:=zq h.2 e;lia)⟩
def jE(u v:a0a):a0a:=Ru (·+·) u v
def vl(n:Nat):a0p->a0a
 |[]=>Nd n 0
 |v::vs=>jE v (vl n vs)
theorem vm:∀{v r:a0a},v.length=r.length->less (jE v r) v=r/\lg v (jE v r)
 |[],[],_=>⟨rfl,trivial⟩
 |x::v,y::r,h=>by
  obtain⟨a,b⟩:=vm (v:=v) (r:=r) (by simpa using h);refine⟨?_,PU _ _,b⟩;show(x+y-x)::less (jE v r) v=_;rw[a,Sk]
theorem wb:∀{v r:a0a},lg v r->jE v (less r v)=r
 |[],[],_=>rfl
 |x::v,y::r,h=>by
  show(x+(y-x))::jE v (less r v)=_;rw[wb h.2,Nat.add_sub_cancel' h.1]
 |[],_::_,h=>h.elim
 |_::_,[],h=>h.elim
theorem nc{n:Nat}:∀{w:a0p},(∀v∈w,v.length=n)->(vl n w).length=n
 |[],_=>Oz
 |v::w,h=>by
  show(Ru _ _ _).length=n;rw[S5,h v MP,nc λu a=>h u (MJ _ a),Vj]
theorem IS:∀{r:a0a},r.sum=0->r=Nd r.length 0
 |[],_=>rfl
 |x::r,h=>by
  rw[Nn]at h;obtain rfl:x=0:=by lia
  rw[M5,Ox,<-IS (r:=r) (by lia)]
theorem mX(a:W2 cs W):∀{w:a0p} {k:Nat} {r:a0a},Wk W k r w->k+w.length=cs.length->r.sum=(cs.drop k).sum->w.map N0=cs.drop k/\r=vl r.length w/\∀v∈w,v.length=r.length
 |[],k,r,_,e,s=>by
  have f:cs.drop k=[]:=OT (by simpa using e▸MW _);rw[f]at s⊢;exact⟨rfl,IS s,λ_ h=>by cases h⟩
 |v::w,k,r,h,e,s=>by
  rw[M5]at e;have b:=(a k r).subset h.1;obtain⟨E,K,G,_⟩:=jg b;have D:=cS b;rw[jX (by lia),Nn]at s;obtain⟨g,c,d⟩:=mX a h.2 (by lia) (by lia);have i:=D.less.len;rw[i]at c d;refine⟨by rw[jX (by lia),MZ,g,E],?_,λu hu=>?_⟩
  .show r=jE v (vl r.length w)
   rw[<-c,wb D]
  .rcases M4.mp hu with rfl|hu
   .exact G
   .exact d u hu
theorem FY{n:Nat}:∀{w:a0p} {k:Nat},(∀v∈w,v.length=n)->(∀i r v,w[i]?=My v->lg v r->v∈W (k+i) r)->Wk W k (vl n w) w
 |[],_,_,_=>trivial
 |v::w,k,h,hw=>by
  have b:∀u∈w,u.length=n:=λu a=>h u (MJ _ a);obtain⟨c,d⟩:=vm (v:=v) (r:=vl n w) (by rw[h v MP,nc b]);refine⟨hw 0 _ v rfl d,?_⟩;show Wk W (k+1) (less (jE v (vl n w)) v) w;rw[c];exact FY b λi r u a D=>by
   have:=hw (i+1) r u a D;rwa[show k+(i+1)=k+1+i by lia]at this
theorem kh:∀{l:a0a} {i x y:Nat},l[i]?=My x->(l.set i y).sum+x=l.sum+y
 |a::l,0,x,y,h=>by
  cases h;show(y::l).sum+a=(a::l).sum+y;rw[Nn,Nn];lia
 |a::l,i+1,x,y,h=>by
  have:=kh (l:=l) (i:=i) (x:=x) (y:=y) h;show(a::l.set i y).sum+x=(a::l).sum+y;rw[Nn,Nn];lia
theorem KR{u v:a0a}{i x y:Nat}(a:u[i]?=My x)(b:v[i]?=My y):(jE u v)[i]?=My (x+y):=by
 unfold jE;rw[Vg,a,b]
theorem z5{n i:Nat}:∀{D:a0p},(∀v∈D,v.length=n)->i<n->(vl n D).getD i 0=(D.map λv=>v.getD i 0).sum
 |[],_,hi=>by
  show(Nd n 0).getD i 0=0;rw[MN,O7,MU hi];rfl
 |v::D,h,hi=>by
  have a:∀w∈D,w.length=n:=λw b=>h w (MJ _ b);have c:=h v MP;have d:=nc a;rw[MZ,Nn,<-z5 a hi];show(jE v (vl n D)).getD i 0=_;rw[MN,KR (MI (by lia)) (MI (by lia)),iI (by lia),iI (by lia)];rfl
def Yy(W:Wy):Nat->Nat->a0a->List a0p
 |0,_,_=>[[]]
 |j+1,k,r=>(W k r).flatMap λv=>(Yy W j (k+1) (less r v)).map (v::·)
def wt(w:a0p):Nat:=pr (w.map mu)
variable{a:a0a}
theorem wO:∀(j k:Nat) (r:a0a),(Yy W j k r).length=j1 W j k r
 |0,_,_=>rfl
 |j+1,k,r=>by
  show((W k r).flatMap _).length=_;rw[List.length_flatMap];show _=((W k r).map _).sum;congr 1;exact Nu λv _=>by rw[MD,wO]
theorem wN:∀(j k:Nat) (r:a0a),sm (Yy W j k r) wt=js W j k r
 |0,_,_=>rfl
 |j+1,k,r=>by
  show sm ((W k r).flatMap _) wt=_;rw[q8];refine dQ λv _=>?_;rw[uF,<-wN j (k+1) (less r v),<-l6];rfl
def U_(W:Wy):Nat->Nat->a0a->Nat->a0p
 |0,_,_,_=>[]
 |j+1,k,r,n=>(k_ (λv=>mu v*js W j (k+1) (less r v)) (B_ W j k r) n).1::U_ W j (k+1) (less r (k_ (λv=>mu v*js W j (k+1) (less r v)) (B_ W j k r) n).1) ((k_ (λv=>mu v*js W j (k+1) (less r v)) (B_ W j k r) n).2/mu (k_ (λv=>mu v*js W j (k+1) (less r v)) (B_ W j k r) n).1)
theorem q9{a:Type}{f:a->Nat}{p:a->Bool}:∀{l:List a},(∀v,p v=ML->f v=0)->sm (l.filter p) f=sm l f
 |[],_=>rfl
 |v::l,h=>by
  rw[Q4];cases q:p v with
  |true=>rw[MU rfl,bu,bu,q9 h]
  |false=>rw[MS MT,bu,q9 h,h v q,Oo]
theorem Ge{W:Wy}(j k:Nat)(r:a0a):(sm (B_ W j k r) λv=>mu v*js W j (k+1) (less r v))=js W (j+1) k r:=q9 λv q=>by
 have:j1 W j (k+1) (less r v)=0:=by
  have:=Vz q;lia
 rw[<-wO]at this;rw[<-wN,QO.mp this];rfl
theorem BU{W:Wy}:∀{j k n:Nat} {r:a0a},(U_ W j k r n).length=j
 |0,_,_,_=>rfl
 |j+1,k,n,r=>by unfold U_;rw[M5,BU]
theorem GD{W:Wy}:∀{j k n:Nat} {r:a0a},n<js W j k r->Wk W k r (U_ W j k r n)
 |0,_,_,_,_=>trivial
 |j+1,k,n,r,h=>by
  rw[<-Ge]at h;obtain⟨a,b⟩:=mF h;exact⟨(Of.mp a).1,GD (VZ b)⟩
end
end L2.Nt
namespace Law
open L2 L2.Pu L2.Nt
section
variable{K:M9}{a:Ad}{β:Bg}
abbrev tN(l:a0a):D:=i_ (nI l)
abbrev eN(b:a0a×Nat):D:= .tup [tN b.1,.int (b.2:Int)]
abbrev pN(p:Nat×Nat):D:=pD ((p.1:Int),(p.2:Int))
def O_(r:a0a):Prop:=1<=r.length/\r.length<=4/\r.sum<=40/\pr (r.map (·+1))<=500
theorem zn{f g:FD}{δ:Dn}{x y:D}{ds a:a0d}(b:f δ β=My (.ok x,β))(c:g δ β=My (.ok y,β))(d:ge x=My ds)(e:ge y=My a):yo (ae f (ae g az)) δ β=My (.ok (eV ds a),β):=bE (aa b (aa c rfl)) (by
 unfold DT;simp only[d,e,PD,OI])
theorem Yq{a:Nat}{h:Int}(b:-1000<=h)(c:h<=1000)(d:a<=1000):oX [.int (a:Int),.int h]=My ((MX (h-a).toNat).map λi=>D.int ((a+i:Nat):Int)):=by
 have e:oX [.int (a:Int),.int h]=My (aZ a (h-a).toNat):=by
  simp only[oX];rw[MU (by simp only[No,Nv];lia)]
 rw[e];exact N6 My (Nu λi _=>by congr 1)
theorem ZG{l:a0a}{c:Nat}(h:l.length<=100):j9 (tN l) (.tup [.int (c:Int)])=My (tN (l++[c])):=by
 cases l with
 |nil=>rfl
 |cons x l=>
  show(if _ then _ else _)=_;rw[MU (bh (by simp at h⊢;lia))];simp[i_]
theorem zK(l:a0a)(k:Nat):iS [.lst (((nI l).map D.int).drop k)]=My (.int (((l.drop k).sum:Nat):Int)):=by
 rw[<-Q8,<-Q8];exact(fJ _).trans (by rw[<-ij])
theorem zD:∀{r:a0a} {ps:a0l},(r.zip ps).map (λq=>D.int (Rx (q.1:Int) (q.2.2:Int)))=(nI (lk ps r)).map D.int
 |[],_=>by cases ‹a0l›<;>rfl
 |_::_,[]=>rfl
 |x::r,p::ps=>by
  have e:=zD (r:=r) (ps:=ps);show _::_=D.int ((Rx x p.2:Nat):Int)::(nI (lk ps r)).map D.int;rw[<-e];show D.int (Rx (x:Int) (p.2:Int))::_=_;rw[show Rx (x:Int) (p.2:Int)=((Rx x p.2:Nat):Int) by lia];rfl
theorem zB:∀{a:a0l} {r:a0a} {k:Nat} (b:k<a.length) (c:k<r.length),(lk a r)[k]?=My (Rx r[k] a[k].2)
 |p::a,x::r,0,_,_=>rfl
 |p::a,x::r,k+1,b,c=>zB (k:=k) (by simpa using b) (by simpa using c)
abbrev vK(a:a0l)(r:a0a)(c:Nat)(w:D)(b d e:a0O):Ds:=[My (.sh (tN r)),My (.sh (.int (c:Int))),My (.sh (.lst (a.map pN))),My (.sh (.lst ((nI (la a)).map .int))),My (.sh (.lst ((nI (lk a r)).map .int))),My (.sh w),b,d,e]
theorem Kz{w:a0l}{r:a0a}{c:Nat}(H:O_ r)(v:w.length=r.length)(A:∀p∈w,p.1<=40/\p.2<=40)(R:c<=40):(kS K a).1 [tN r,.int (c:Int),.lst (w.map pN)] β=My (.ok (.lst ((vB w r c).map tN)),β):=by
 obtain⟨_,T,G,U⟩:=H;have I:r.length<=M1:=bh (by lia);have o:∀k,k<=r.length->(mm w r c k).length<=M1:=λk m=>bh (Ng (wz c k m) (Ng (yg r k) (by lia)));unfold kS
 dsimp only
 refine aK ?_;refine aC (d:= .lst ((nI (la w)).map .int)) (β1:=β) ?_ ?_
 .have:=bo (nv:=2) (cx:=[]) (it:=ef (ag 2)) (tg:=WW (gN (h8 0) (gN (h8 1) lV))) (f:=ag 0) (δ:=vw (vK w r c .non ME ME ME)) (β:=β) w pN (λp=> .int (p.1:Int)) rfl (λx _=>⟨[My (.int (x.1:Int)),My (.int (x.2:Int))],rfl,rfl⟩) (by rw[v];exact I)
  refine Eq.trans this ?_;unfold la;rw[MV,MV];rfl
 refine aC (d:= .lst ((nI (lk w r)).map .int)) (β1:=β) ?_ ?_
 .rw[<-zD]
  exact bo (nv:=3) (cx:=[]) (it:=yo (ae (ag 0) (ae (ag 2) (az)))) (tg:=WW (gN (h8 0) (gN (WW (gN (h8 1) (gN (h8 2) lV))) lV))) (f:=br vh (ae (ag 0) (ae (ag 2) (az)))) (δ:=vw (vK w r c .non ME ME ME)) (β:=β) (r.zip w) (λq=>D.tup [.int (q.1:Int),pN q.2]) _ (by
   rw[<-kM (λx:Nat=>D.int (x:Int)) pN];refine zn (x:=tN r) (y:= .lst (w.map pN)) rfl rfl ?_ rfl;show My _=My _;rw[MV];rfl) (λq _=>⟨[My (.int (q.1:Int)),My (.int (q.2.1:Int)),My (.int (q.2.2:Int))],rfl,ai rfl EX⟩) (bh (by rw[Rh];lia))
 refine aC (d:= .lst ((mm w r c 0).map eN)) (β1:=β) (ai (aa (ai (aa (ai rfl rfl) (aa rfl rfl)) fU) rfl) yy) ?_;refine bT (ds:=aZ 0 r.length) (β1:=β) (bE (aa (ai (z:= .int (r.length:Int)) rfl (by show My (D.int _)=_;rw[MD,MD])) rfl) (w_ (by lia) (by lia))) (λk δ C=>β=C/\∃B t u,δ=vK w r c (.lst ((mm w r c k).map eN)) B t u) ⟨rfl,ME,ME,ME,rfl⟩ ?_ ?_
 .rintro k d δ _ hd ⟨rfl,B,t,u,rfl⟩
  obtain⟨m,rfl⟩:=tW hd;have j:k<w.length:=by lia
  have J:w[k]?=My w[k]:=MI j;have b40:=A _ (NB j);have W:(la w).sum<=160:=by
   have g:∀l:a0l,(∀p∈l,p.1<=40/\p.2<=40)->(la l).sum<=40*l.length:=λl=>by
    induction l with
    |nil=>intro _;exact MW _
    |cons p l E=>
     intro h;have:=E λq v=>h q (MJ _ v);have:=(h p MP).1;simp only[la,MZ,Nn,M5]at*;lia
   have:=g w A;lia
  have F:∀(l:a0a) (n:Nat),(l.drop n).sum<=l.sum:=λl n=>by
   conv=>rhs;rw[<-Qd n l,Ud]
   lia
  have L:=F (la w) (k+1);have N:=Ng (F (lk w r) (k+1)) zA;refine⟨vK w r c (.lst ((mm w r c k).map eN)) (My (.sh (.int (k:Int)))) t u,rfl,?_⟩;refine aC (d:= .int ((((la w).drop (k+1)).sum:Nat):Int)) (β1:=β) (ai (aa (rV rfl (dq rfl rfl rfl)) rfl) ((N6 (λl=>iS [.lst l]) (vV (k:=k+1))).trans (zK _ _))) ?_;refine aC (d:= .int ((((lk w r).drop (k+1)).sum:Nat):Int)) (β1:=β) (ai (aa (rV rfl (dq rfl rfl rfl)) rfl) ((N6 (λl=>iS [.lst l]) (vV (k:=k+1))).trans (zK _ _))) ?_;refine am (aC (d:= .lst ((mm w r c (k+1)).map eN)) (β1:=β) ?_ (bp ⟨rfl,_,_,_,rfl⟩));have e:(mm w r c (k+1)).map eN=(mm w r c k).flatMap λb=>(Xl r[k] w[k] ((la w).drop (k+1)).sum ((lk w r).drop (k+1)).sum b).map eN:=by
   show((mm w r c k).flatMap _).map eN=_;rw[PQ,iI m,iI j]
  rw[e];refine Io (mm w r c k) eN _ rfl (λb A=>⟨[My (tN b.1),My (.int (b.2:Int)),ME,My (.lst ((nI (la w)).map .int)),My (.int (k:Int)),My (.int ((((lk w r).drop (k+1)).sum:Nat):Int)),My (.lst ((nI (lk w r)).map .int)),My (.int ((((la w).drop (k+1)).sum:Nat):Int))],rfl,?_⟩) (by
   rw[<-e,MD];exact o (k+1) m)
  obtain⟨X,M⟩:=zO w r c k b A;have Y:=nB (NB m);unfold Xl;generalize ((la w).drop (k+1)).sum=few at*;generalize ((lk w r).drop (k+1)).sum=most at*;refine(AW (MX (Rx (Rx r[k] w[k].2+few) b.2+1-few-VO w[k].1 (b.2-most))) (λi=>D.int ((VO w[k].1 (b.2-most)+i:Nat):Int)) (λi=>eN (b.1++[VO w[k].1 (b.2-most)+i],b.2-(VO w[k].1 (b.2-most)+i))) ?_ ?_).trans (by rw[MV];rfl)
  .refine bE (as:=[.int ((VO w[k].1 (b.2-most):Nat):Int),.int (Rx ((Rx r[k] w[k].2:Nat):Int) ((b.2:Int)-few)+1)]) (aa (ai (aa (dq rfl rfl (cw (d:= .int (w[k].1:Int)) ?_)) (aa (dq rfl rfl rfl) rfl)) (JZ.trans ?_)) (aa (dq (ai (aa (dq rfl rfl (cw (d:= .int ((Rx r[k] w[k].2:Nat):Int)) ?_)) (aa (dq rfl rfl rfl) rfl)) EX) rfl rfl) rfl)) ((Yq (by lia) (by lia) (by lia)).trans ?_)
   .unfold la
    rw[MM,MM,MM,J];rfl
   .rw[show VO (w[k].1:Int) ((b.2:Int)-(most:Int))=((VO w[k].1 (b.2-most):Nat):Int) by lia]
   .rw[MM,MM,zB j m];rfl
   .rw[show(Rx ((Rx r[k] w[k].2:Nat):Int) ((b.2:Int)-few)+1-((VO w[k].1 (b.2-most):Nat):Int)).toNat=Rx (Rx r[k] w[k].2+few) b.2+1-few-VO w[k].1 (b.2-most) by generalize Rx r[k] w[k].2=x;generalize VO w[k].1 (b.2-most)=y;lia]
  .refine λi O=>⟨[My (tN b.1),My (.int (b.2:Int)),My (.int ((VO w[k].1 (b.2-most)+i:Nat):Int)),My (.lst ((nI (la w)).map .int)),My (.int (k:Int)),My (.int (most:Int)),My (.lst ((nI (lk w r)).map .int)),My (.int (few:Int))],rfl,ai (aa (dq rfl (ai rfl rfl) (ZG (l:=b.1) (c:=VO w[k].1 (b.2-most)+i) (by lia))) (aa (dq rfl rfl rfl) rfl)) (fU.trans ?_)⟩
   have Q:=Ni.mp O;show My (D.tup [_,.int _])=My (D.tup [_,.int _]);rw[show(b.2:Int)-((VO w[k].1 (b.2-most)+i:Nat):Int)=((b.2-(VO w[k].1 (b.2-most)+i):Nat):Int) by lia]
 .rintro δ _ ⟨rfl,B,t,u,rfl⟩
  rw[mj];have h:=lC (nv:=2) (cx:=[]) (it:=ef (ag 5)) (tg:=WW (gN (h8 0) (gN (h8 1) lV))) (tt:=fB (f2 (gE) (ag 1) (fC (.int 0)))) (f:=ag 0) (δ:=fc (vK w r c (.lst ((mm w r c r.length).map eN)) B t u)) (β:=β) (mm w r c r.length) eN (λb=>tN b.1) (λb=>decide ((b.2:Int)=0)) rfl (λb _=>⟨[My (tN b.1),My (.int (b.2:Int))],rfl,hE (dq rfl rfl eq_int),λ_=>rfl⟩) (o _ (MW _));refine am (aJ h ⟨rfl,?_⟩);rw[<-Ha v,MV];rfl
theorem v7{E:Type}{G:lI}{b:FL}{K:Dn}{β:Bg}(u:E->D)(o:E->a0d):∀(w:List E),(∀x∈w,∃a,G (u x) K=My a/\b a β=My (.ok (o x),β))->m_ G (λ_=>M.ret MH) b (w.map u) K β=My (.ok (w.flatMap o),β)
 |[],_=>rfl
 |x::w,h=>by
  obtain⟨a,c,d⟩:=h x MP;have e:=v7 u o w λy f=>h y (MJ _ f);rw[MZ,m_];simp only[c,M.bind,M.ret,reduceIte,d,e,OA]
theorem lD{E:Type}{K:Nat}{P:a0a}{S:FL}{V:lI}{b:FL}{c:a0d->a0k}{G:Dn}{β:Bg}{d:D}(w:List E)(u:E->D)(o:E->a0d)(e:S G β=My (.ok (w.map u),β))
  (f:∀x∈w,∃a,V (u x) (lb K P G)=My a/\b a β=My (.ok (o x),β)) (g:c (w.flatMap o)=My d):im K P S V (λ_=>M.ret MH) b c G β=My (.ok d,β):=by
 unfold im;rw[e];simp only[v7 u o w f,g,OI]
theorem LA{E:Type}{K:FL}{P:lI}{b:FL}{G:Dn}{β:Bg}(w:List E)(u:E->D)(o:E->a0d)(c:K G β=My (.ok (w.map u),β))(d:∀x∈w,∃a,P (u x) G=My a/\b a β=My (.ok (o x),β)):Xd K P (λ_=>M.ret MH) b G β=My (.ok (w.flatMap o),β):=by
 unfold Xd M.bind;rw[c];exact v7 u o w d
noncomputable abbrev gl(B:a0g):LP:=B.map λa=>a.map λp=>((p.1:Int),(p.2:Int))
abbrev ni(B:a0g):D:=c8 (gl B)
noncomputable def pf(B:a0g)(k:Nat):a0l:=B.map λa=>a.getD k (0,0)
def Iv(r c:Nat)(B:a0g):Prop:=e_ r c B/\∀a∈B,∀p∈a,p.1<=p.2/\p.2<=40
def wB(B:a0g)(cs:a0a):Wy:=λk r=>vB (pf B k) r (cs.getD k 0)
theorem F5(B:a0g)(a:a0a):W2 a (wB B a):=λk r=>Rk
theorem Iv.col{r c k:Nat}{B:a0g}(h:Iv r c B)(e:k<c):(pf B k).length=r/\∀p∈pf B k,p.1<=40/\p.2<=40:=by
 refine⟨by unfold pf;rw[MD,h.1.1],λp d=>?_⟩;obtain⟨a,b,rfl⟩:=M8.mp d;have l:=h.1.2 a b;rw[iI (by lia)];have:=h.2 a b _ (NB (show k<a.length by lia));lia
theorem Ip{r E:a0a}{B:a0g}{k:Nat}(c:O_ r)(hB:Iv r.length E.length B)(i:E.sum<=40)(e:k<E.length):(cu K a).1 [tN r,nL E,ni B,.int (k:Int)] β=My (.ok (.lst ((wB B E k r).map tN)),β):=by
 have g:E[k]?=My (E.getD k 0):=by rw[MN,MI e];rfl
 obtain⟨l,q⟩:=hB.col e;unfold cu
 dsimp only
 refine aK (am (aJ (ak (aa rfl (aa (dq rfl rfl (cw (d:= .int (E.getD k 0:Int)) (by rw[MM,MM,g];rfl))) (aa ?_ rfl))) (Kz c l q (Ng (nB (M2 g)) i))) ⟨rfl,rfl⟩));have h:=bo (nv:=1) (cx:=[3]) (it:=ef (ag 2)) (tg:=h8 0) (f:=f2 j0 (ag 0) (ag 1)) (δ:=[My (tN r),My (nL E),My (ni B),My (.int (k:Int))]) (β:=β) B (λw=>D.lst (w.map pN)) (λw=>pN (w.getD k (0,0))) (cL rfl (by
  show My _=My _;rw[MV,MV];exact N6 My (Nu λw _=>N6 D.lst (by show NZ pD (NZ _ w)=_;rw[MV];rfl)))) (λw b=>⟨[My (D.lst (w.map pN)),My (.int (k:Int))],rfl,dq rfl rfl (cw (by
   have l:=hB.1.2 w b;rw[MM,iI (by lia),MI (by lia)];rfl))⟩) (bh (by rw[hB.1.1];have:=c.2.1;lia))
 refine h.trans ?_;unfold pf;rw[MV];rfl
theorem BR:∀{r v:a0a},lg v r->(r.zip v).map (λp=>D.int ((p.1:Int)-(p.2:Int)))=(nI (less r v)).map D.int
 |[],[],_=>rfl
 |x::r,y::v,h=>by
  have e:=BR h.2;have b:=h.1;show _::_=D.int ((x-y:Nat):Int)::(nI (less r v)).map D.int;rw[<-e];show D.int ((x:Int)-(y:Int))::_=_;rw[show(x:Int)-(y:Int)=((x-y:Nat):Int) by lia];rfl
 |[],_::_,h=>h.elim
 |_::_,[],h=>h.elim
theorem jP{r v:a0a}(h:lg v r)(b:r.length<=4):(bF K a).1 [tN r,tN v] β=My (.ok (tN (less r v)),β):=by
 unfold bF
 dsimp only
 refine aK (am (aJ (ai (aa (x:= .lst ((nI (less r v)).map D.int)) ?_ rfl) rfl) ⟨rfl,rfl⟩));rw[<-BR h];refine bo (r.zip v) (λp=>D.tup [.int (p.1:Int),.int (p.2:Int)]) _ ?_ (λp _=>⟨[My (.int (p.1:Int)),My (.int (p.2:Int))],rfl,rfl⟩) (bh (by rw[Rh];lia));rw[<-kM (λx:Nat=>D.int (x:Int)) (λx:Nat=>D.int (x:Int))];refine zn (x:=tN r) (y:=tN v) rfl rfl ?_ ?_
 .show My _=My _
  rw[MV];rfl
 .show My _=My _
  rw[MV];rfl
structure Nt0 (rs cs:a0a):Prop where
 nr:O_ rs
 wd:pr (rs.dropLast.map (·+1))<63
 sm:rs.sum=cs.sum
 c1:1<=cs.length
 c6:cs.length<=6
structure lj (K:M9) (a:Ad) (rs cs:a0a) (W:Wy) (bd:D):Prop extends Nt0 rs cs where
 ok:W2 cs W
 fl:∀{β:Bg} {k:Nat} {r:a0a},k<cs.length->O_ r->r.length=rs.length->(cu K a).1 [tN r,nL cs,bd,.int (k:Int)] β=My (.ok (.lst ((W k r).map tN)),β)
theorem lj.at{rs cs r:a0a}{k:Nat}{W:Wy}{b:D}(h:lj K a rs cs W b)(c:k<=cs.length)(d:r∈hO W rs k):O_ r/\r.length=rs.length/\r.sum<=40:=by
 have q:=(jw h.ok h.sm k c r d).1;obtain⟨e,f,g,i⟩:=h.nr;have w:=q.len;have E:=q.sum;have G:=q.pr;exact⟨⟨by lia,by lia,by lia,by lia⟩,w,by lia⟩
abbrev z_(W:Wy)(a:a0a)(k:Nat):D:= .lst ((hO W a k).map tN)
theorem ET{w cs:a0a}{W:Wy}{b:D}(h:lj K a w cs W b):(gn K a).1 [nL w,nL cs,b] β=My (.ok (.lst ((MX (cs.length+1)).map (z_ W w))),β):=by
 have G:=h.c6;unfold gn
 dsimp only
 refine aK ?_;refine aC (d:=z_ W w 0) (β1:=β) (ai (aa (ai rfl rfl) rfl) yy) ?_;refine pE (ds:=[z_ W w 0]) (β1:=β) rfl (show 1<=M1 by decide) ?_;refine bT (ds:=aZ 0 cs.length) (β1:=β) (bE (aa (ai rfl (bG (r:=cs.length) (by rw[MD,MD]))) rfl) (w_ (by lia) (by lia))) (λk E c=>β=c/\∃e f,E=[My (.sh (nL w)),My (.sh (nL cs)),My (.sh (b)),My (.sh (z_ W w k)),My (.own ((MX (k+1)).map (z_ W w))),e,f]) ⟨rfl,ME,ME,rfl⟩ ?_ ?_
 .rintro k d E _ hd ⟨rfl,e,f,rfl⟩
  obtain⟨g,rfl⟩:=tW hd;refine⟨_,rfl,aC (d:=z_ W w (k+1)) (β1:=β) ?_ (pI (cs:=(MX (k+1)).map (z_ W w)) (d:=z_ W w (k+1)) rfl rfl (Nm (show _<1000 by rw[MD,Nr];lia) (by decide)) (am (aC (d:=z_ W w (k+1)) (β1:=β) rfl (bp ⟨rfl,My (.sh (.int (k:Int))),My (.sh (z_ W w (k+1))),?_⟩))))⟩
  .refine lD (hO W w k) tN (λr=>(W k r).map λv=>tN (less r v)) rfl (λr j=>⟨[My (tN r),ME,My (nL cs),My (b),My (.int (k:Int))],rfl,?_⟩) ?_
   .obtain⟨i,l,_⟩:=h.at (by lia) j
    exact AW _ tN _ (cL (ak rfl (h.fl g i l)) rfl) (λv m=>⟨[My (tN r),My (tN v),My (nL cs),My (b),My (.int (k:Int))],rfl,ak rfl (jP (cS ((h.ok k r).subset m)) i.2.1)⟩)
   .rw[<-HH h.ok h.sm h.nr.1 h.wd g]
    unfold WZ;rw[PQ];simp only[MV];rfl
  .rw[Qa (n:=k+1),NH];rfl
 .rintro E _ ⟨rfl,e,f,rfl⟩
  rw[mj];exact am (aJ rfl ⟨rfl,rfl⟩)
theorem fG{i:Nat}{w:a0H}{f:FD}{c d z:D}{h:G}{a:Ds}{β β1:Bg}{Q:a0v}(b:(vw a).getD i ME=My c)(e:f (vw a) β=My (.ok d,β1))(g:w c d=My z)(k:Gw h (a.set i (My (.sh z))) β1 Q):Gw (ay (rG i w f) h) a β Q:=eW (by unfold rG;simp only[b,e,g,OI]) k
theorem Jh{m i:Nat}{d:D}(h:(aZ 2 m)[i]?=My d):i<m/\d= .int ((i+2:Nat):Int):=by
 obtain⟨x,b,rfl⟩:=bP (f:=λ(i:Nat)=>D.int (2+(i:Int))) (xs:=MX m) h;have c:=(MR.mp b).1;rw[Nr]at c;rw[On c]at b;cases b;exact⟨c,by congr 1;lia⟩
theorem Jf(a:Int)(m:Nat):(aZ a m).length=m:=by unfold aZ;rw[MD,Nr]
theorem Yp{n:Nat}(h:n<=2^11):n<2^1000:=fq h (by decide)
theorem Ih(n:Nat):dt (n-1+1)=dt n:=by cases n<;>rfl
theorem xm{n:Nat}(h:n<=40):(hG K a).1 [.int (n:Int)] β=My (.ok (.int ((dt n:Nat):Int)),β):=by
 unfold hG
 dsimp only
 refine aK ?_;refine aC (d:= .int 1) (β1:=β) rfl ?_;refine bT (ds:=aZ 2 (n-1)) (β1:=β) (bE (aa rfl (aa (dq rfl rfl rfl) rfl)) (rg2 (by lia))) (λi w b=>β=b/\∃c,w=[My (.sh (.int (n:Int))),My (.sh (.int ((dt (i+1):Nat):Int))),c]) ⟨rfl,ME,rfl⟩ ?_ ?_
 .rintro i d w _ hd ⟨rfl,c,rfl⟩
  obtain⟨e,rfl⟩:=Jh hd;exact⟨_,rfl,am (fG rfl rfl (rp (fq (vM (by lia)) (by decide)) (Yp (by lia))) (bp ⟨rfl,_,rfl⟩))⟩
 .rintro w _ ⟨rfl,c,rfl⟩
  rw[Jf,Ih];exact am (aJ rfl ⟨rfl,rfl⟩)
def WU(l:a0a):Nat:=dt l.sum/pr (l.map dt)
theorem KS{l:a0a}{d:D}(h:Sq l d):pP [d]=My (.int ((l.sum:Nat):Int)):=by
 rw[<-ij];rcases h with rfl|rfl
 .exact IR _
 .exact IQ _
theorem vd(l:a0a):iS [nL l]=My (.int ((l.sum:Nat):Int)):=by rw[<-ij];exact fJ _
theorem GO{l:a0a}{i n:Nat}(h:l.sum<=40)(a:l[i]?=My n):n<=40:=Ng (nB (M2 a)) h
theorem mY{l:a0a}{E:D}(M:Sq l E)(h:l.sum<=40):(kz K a).1 [E] β=My (.ok (.int ((WU l:Nat):Int)),β):=by
 unfold kz
 dsimp only
 refine aK ?_;refine bT (ds:=(nI l).map D.int) (β1:=β) (cL rfl M.seq) (λi w c=>β=c/\∃b,w=[My (.sh E),b,ME]) ⟨rfl,ME,rfl⟩ ?_ ?_
 .rintro i d w _ hd ⟨rfl,b,rfl⟩
  obtain⟨n,G,rfl⟩:=yp hd;exact⟨_,rfl,am (gZ (β1:=β) (hE (dq rfl rfl (by show My (D.bl (decide ((n:Int)<0)))=_;rw[Nw (by lia)]))) (bD (bp ⟨rfl,_,rfl⟩)))⟩
 rintro w _ ⟨rfl,b,rfl⟩;refine aC (d:= .int ((dt l.sum:Nat):Int)) (β1:=β) (ak (aa (ai rfl (KS M)) rfl) (xm h)) ?_;refine bT (ds:=(nI l).map D.int) (β1:=β) (cL rfl M.seq) (λi w c=>β=c/\∃b,w=[My (.sh E),b,My (.sh (.int ((dt l.sum/pr ((l.take i).map dt):Nat):Int)))]) ⟨rfl,b,by rw[List.take_zero,Pb,Js,Nat.div_one];rfl⟩ ?_ ?_
 .rintro i d w _ hd ⟨rfl,b,rfl⟩
  obtain⟨n,G,rfl⟩:=yp hd;refine⟨_,rfl,am (fG rfl (ak rfl (xm (GO h G))) (GK (nY n) (fq (vM (GO h G)) (by decide))) (bp ⟨rfl,My (.sh (.int (n:Int))),?_⟩))⟩;rw[rj G,Vh];rfl
 .rintro w _ ⟨rfl,b,rfl⟩
  rw[BE,PR];exact am (aJ rfl ⟨rfl,rfl⟩)
theorem lS{l:a0a}(h:l.sum<=40):WU l<=2^160:=Ng (Uj _ _) (vM h)
theorem pB(l:a0a):WU l=mu l:=JX l
theorem yq{l:a0a}(h:l.sum<=40):mu l<=2^160:=by rw[<-pB];exact lS h
theorem Gg{a:Type}{l:List a}{i:Nat}{x:a}(f:a->Nat)(h:l[i]?=My x):L2.Nt.sm (l.take (i+1)) f=L2.Nt.sm (l.take i) f+f x:=by
 rw[QV,h,uH];rfl
abbrev cv(W:Wy)(m k:Nat)(r:a0a):D:= .tup [.int ((j1 W (m-k) k r:Nat):Int),.int ((js W (m-k) k r:Nat):Int)]
abbrev p0(W:Wy)(a:a0a)(m k:Nat):D:= .dct ML ((hO W a k).map λr=>((0:Int),nI r)) ((hO W a k).map (cv W m k))
theorem BL{f:a0a->D}{u:a0a}:∀{L:a0p},u∈L->lp (L.map λr=>((0:Int),nI r)) (L.map f) (0,nI u)=My (f u)
 |r::L,h=>by
  unfold lp;rw[MZ,MZ,OZ,P8];by_cases q:r=u
  .rw[q,M3 rfl];rfl
  .rw[Nw λe=>q (jm (Rv.mp e).2)]
   exact BL ((M4.mp h).resolve_left λe=>q e.symm)
theorem KF{W:Wy}{a u:a0a}{m k:Nat}(h:u∈hO W a k):FC (p0 W a m k) (tN u)=My (cv W m k u):=by
 show(iH ML (dK ML (0,nI u))).bind _=_;rw[rB λ_=>rfl];exact BL h
theorem yn{w cs r:a0a}{W:Wy}{q:D}{k:Nat}(h:lj K a w cs W q)(o:k<cs.length)(p:r∈hO W w k):(iF K a).1 [tN r,.lst ((W k r).map tN),p0 W w cs.length (k+1)] β=My (.ok (cv W cs.length k r),β):=by
 obtain⟨t,y,u⟩:=h.at (by lia) p;unfold iF
 dsimp only
 refine aK ?_;refine aC (d:= .int 0) (β1:=β) rfl (aC (d:= .int 0) (β1:=β) rfl ?_);refine bT (ds:=(W k r).map tN) (β1:=β) rfl (λi E e=>β=e/\∃f g j,E=[My (.sh (tN r)),My (.sh (.lst ((W k r).map tN))),My (.sh (p0 W w cs.length (k+1))),My (.sh (.int ((L2.Nt.sm ((W k r).take i) λv=>j1 W (cs.length-(k+1)) (k+1) (less r v):Nat):Int))),My (.sh (.int ((L2.Nt.sm ((W k r).take i) λv=>mu v*js W (cs.length-(k+1)) (k+1) (less r v):Nat):Int))),f,g,j]) ⟨rfl,ME,ME,ME,rfl⟩ ?_ ?_
 .rintro i d E _ hd ⟨rfl,f,g,j,rfl⟩
  obtain⟨v,l,rfl⟩:=bP hd;have G:=M2 l;have m:less r v∈hO W w (k+1):=nu.mpr ⟨r,p,v,G,rfl⟩;have b:=(h.ok k r).subset G;have M:=(jw h.ok h.sm (k+1) o _ m).2;have c:v.sum<=40:=Ng (cS b).sum u;have n:=(h.at o m).2.2;refine⟨_,rfl,pG (d:=cv W cs.length (k+1) (less r v)) (β1:=β) (dq rfl (ak rfl (jP (cS b) t.2.1)) (KF m)) rfl (fG rfl rfl rfl (am (fG rfl (dq (ak rfl (mY (.inr rfl) c)) rfl (rp (fq (lS c) (by decide)) (fq (Ng (vQ h.ok _ _ _ (by lia)) (by rw[vP _ _ M];exact yq n)) (by decide)))) rfl (bp ⟨rfl,My (.sh (tN v)),My (.sh (.int ((j1 W (cs.length-(k+1)) (k+1) (less r v):Nat):Int))),My (.sh (.int ((js W (cs.length-(k+1)) (k+1) (less r v):Nat):Int))),?_⟩))))⟩;rw[Gg _ l,Gg _ l,pB,SG,SG];rfl
 .rintro E _ ⟨rfl,f,g,j,rfl⟩
  rw[MD,PR];refine am (aJ (ai rfl fU) ⟨rfl,?_⟩);show Oq (D.tup [.int ((j1 W (cs.length-k) k r:Nat):Int),.int ((js W (cs.length-k) k r:Nat):Int)])=_;rw[show cs.length-k=cs.length-(k+1)+1 by lia];rfl
theorem xF{f g:FD}{a:Dn}{k v:D}(b:f a β=My (.ok k,β))(c:g a β=My (.ok v,β)):FH f g a β=My (.ok [.tup [k,v]],β):=by
 unfold FH M.bind;rw[b];simp only[c,M.ret]
theorem vI{a b:Type}(f:a->b)(l:List a):(l.flatMap λx=>[f x])=l.map f:=by
 induction l with
 |nil=>rfl
 |cons x l w=>rw[OA,w];rfl
theorem BH{rs w:a0a}{W:Wy}{b:D}(h:lj K a rs w W b){k:Nat}(c:k<=w.length):(hO W rs k).length<=62:=by
 have:=HL h.ok h.sm c;have:=h.wd;lia
theorem dk0{w cs:a0a}{W:Wy}{b:D}(h:lj K a w cs W b){k:Nat}(c:k<=cs.length){E:a0d}(e:E=(hO W w k).map λr=> .tup [tN r,cv W cs.length k r]):lA ML E=My (p0 W w cs.length k):=by
 refine(xv (kvs:=(hO W w k).map λr=>(((0:Int),nI r),cv W cs.length k r)) ⟨?_,?_,?_,?_⟩).trans ?_
 .rw[e,MV];rfl
 .rw[MV];exact BC (λx y q=>jm (Rv.mp q).2) (vj k)
 .rw[MD];exact bh (by have:=BH h c;lia)
 .rintro p d _
  obtain⟨r,_,rfl⟩:=M8.mp d;rfl
 .rw[MV,MV];rfl
theorem Lm{n:Nat}(h:n<=1000):tR [.int (n:Int)]=My (iW n):=by
 simp only[tR];rw[MU (by simp only[No,Nv];lia),Oh]
theorem Ln{n i:Nat}{d:D}(h:(iW n)[i]?=My d):i<n/\d= .int ((n-1-i:Nat):Int):=by
 obtain⟨x,b,rfl⟩:=bP (f:=λ(i:Nat)=>D.int ((n:Int)-1-i)) (xs:=MX n) h;have c:=(MR.mp b).1;rw[Nr]at c;rw[On c]at b;cases b;exact⟨c,by congr 1;lia⟩
theorem z9{f:Nat->D}{n k:Nat}(h:k<n):((MX n).map f)[k]?=My (f k):=by rw[MM,On h];rfl
theorem CU{f:Nat->D}:∀n j,cU j ((List.range' j n).map f)=(List.range' j n).map λk=> .tup [.int (k:Int),f k]
 |0,_=>rfl
 |n+1,j=>by
  rw[List.range'_succ,MZ,MZ,<-CU n (j+1)];rfl
theorem Hl{f:Nat->D}(m:Nat):((MX (m+1)).map λj=>f (m-j)).reverse=(MX (m+1)).map f:=OX (by simp) λi b c=>by
 simp only[VX,MD,Nr]at b;simp only[VJ,PN,P0,MD,Nr];congr 1;lia
abbrev KO(W:Wy)(a:a0a)(m:Nat):a0d:=(MX (m+1)).flatMap λk=>(hO W a k).map (cv W m k)
abbrev rO(W:Wy)(rs:a0a)(m:Nat):D:= .dct MH (W8 W rs (m+1)) (KO W rs m)
theorem dk1{rs cs:a0a}{W:Wy}{b:D}(h:lj K a rs cs W b){w:a0d}(e:w=(MX (cs.length+1)).flatMap λ(k:Nat)=>(hO W rs k).map λr=> .tup [.tup [.int (k:Int),tN r],cv W cs.length k r]):lA MH w=My (rO W rs cs.length):=by
 refine(xv (kvs:=(MX (cs.length+1)).flatMap λ(k:Nat)=>(hO W rs k).map λr=>(((k:Int),nI r),cv W cs.length k r)) ⟨?_,?_,?_,?_⟩).trans ?_
 .rw[e,PQ];simp only[MV];rfl
 .have:=BS (W:=W) (rs:=rs) (cs.length+1)
  unfold W8 at this;rw[PQ];simp only[MV];exact this
 .refine bh (Ng (nX (n:=62) λk c=>?_) (by have:=h.c6;rw[Nr];lia))
  have:=Ni.mp c;rw[MD];exact BH h (by lia)
 .rintro p _ q
  cases q
 .unfold rO W8
  rw[PQ,PQ];simp only[MV];rfl
theorem yZ{w cs:a0a}{W:Wy}{b:D}(h:lj K a w cs W b):(eY K a).1 [nL w,nL cs,b] β=My (.ok (rO W w cs.length),β):=by
 have G:=h.c6;unfold eY
 dsimp only
 refine aK ?_;refine aC (d:= .lst ((MX (cs.length+1)).map (z_ W w))) (β1:=β) (ak rfl (ET h)) ?_;refine aC (d:= .int (cs.length:Int)) (β1:=β) (ai rfl (bG (by rw[MD,MD]))) ?_;refine aC (d:=p0 W w cs.length cs.length) (β1:=β) (lD (hO W w cs.length) tN (λr=>[.tup [tN r,.tup [.int 1,.int 1]]]) (cL (dq rfl rfl (cw (z9 (by lia)))) rfl) (λr _=>⟨[My (tN r)],rfl,xF rfl (ai rfl fU)⟩) (dk0 h (MW _) (by rw[vI];simp only[cv,Rz];rfl))) ?_;refine pE (ds:=[p0 W w cs.length cs.length]) (β1:=β) rfl (show 1<=M1 by decide) ?_;refine bT (ds:=iW cs.length) (β1:=β) (bE rfl (Lm (by lia))) (λi E c=>β=c/\∃e f,E=[My (.sh (nL w)),My (.sh (nL cs)),My (.sh (b)),My (.sh (.lst ((MX (cs.length+1)).map (z_ W w)))),My (.sh (.int (cs.length:Int))),My (.sh (p0 W w cs.length (cs.length-i))),My (.own ((MX (i+1)).map λj=>p0 W w cs.length (cs.length-j))),e,f]) ⟨rfl,ME,ME,rfl⟩ ?_ ?_
 .rintro i d E _ hd ⟨rfl,e,f,rfl⟩
  obtain⟨p,rfl⟩:=Ln hd;have l:cs.length-1-i<cs.length:=by lia
  have o:cs.length-i=(cs.length-1-i)+1:=by lia
  have m:cs.length-(i+1)=cs.length-1-i:=by lia
  rw[o];refine⟨_,rfl,aC (d:=p0 W w cs.length (cs.length-1-i+1)) (β1:=β) rfl (aC (d:=p0 W w cs.length (cs.length-1-i)) (β1:=β) (lD (hO W w (cs.length-1-i)) tN (λr=>[.tup [tN r,cv W cs.length (cs.length-1-i) r]]) (cL (dq rfl rfl (cw (z9 (by lia)))) rfl) (λr g=>⟨[My (tN r),My (nL cs),My (b),My (.int ((cs.length-1-i:Nat):Int)),My (p0 W w cs.length (cs.length-1-i+1))],rfl,xF rfl (ak (aa rfl (aa (ak rfl (h.fl l (h.at (by lia) g).1 (h.at (by lia) g).2.1)) rfl)) (yn h l g))⟩) (dk0 h (by lia) (vI _ _))) (am (pI (cs:=(MX (i+1)).map λj=>p0 W w cs.length (cs.length-j)) (d:=p0 W w cs.length (cs.length-1-i)) rfl rfl (Nm (show _<1000 by rw[MD,Nr];lia) (by decide)) (bp ⟨rfl,My (.sh (.int ((cs.length-1-i:Nat):Int))),My (.sh (p0 W w cs.length (cs.length-1-i+1))),?_⟩))))⟩;rw[Qa (n:=i+1),NH,m];show _=[_,_,_,_,_,_,My (Sl.own (_++[p0 W w cs.length (cs.length-(i+1))])),_,_];rw[m];rfl
 .rintro E _ ⟨rfl,e,f,rfl⟩
  rw[show(iW cs.length).length=cs.length by unfold iW;rw[MD,Nr]];refine am (aJ (lD (MX (cs.length+1)) (λk=> .tup [.int (k:Int),p0 W w cs.length k]) (λ(k:Nat)=>(hO W w k).map λr=> .tup [.tup [.int (k:Int),tN r],cv W cs.length k r]) (bE (aa (dq (y:= .int (-1)) rfl rfl rfl) rfl) ?_) (λk _=>⟨[My (.int (k:Int)),My (p0 W w cs.length k),ME,ME],rfl,?_⟩) (dk1 h rfl)) ⟨rfl,rfl⟩)
  .show My (cU 0 _)=_
   rw[Hl,List.range_eq_range',CU]
  .refine(LA (hO W w k) (λr=> .tup [tN r,cv W cs.length k r]) (λr=>[.tup [.tup [.int (k:Int),tN r],cv W cs.length k r]]) ?_ (λr _=>⟨[My (.int (k:Int)),My (p0 W w cs.length k),My (tN r),My (cv W cs.length k r)],rfl,xF (ai rfl fU) rfl⟩)).trans (by rw[vI])
   show My (Oq (Ru _ _ _),β)=_;rw[List.zipWith_map_left,List.zipWith_map_right,List.zipWith_self];rfl
theorem jB{r c:Nat}{a_:LI}(h:e_ r c a_):(gI a_).length=r:=by rw[MD,h.1]
theorem IG{r c:Nat}{w:LI}(E:e_ r c w)(K:1<=r)(P:r<=30)(S:c<=30){δ:Dn}(h:δ.getD 0 ME=My (aG w)):eK 1 [0] (cK gm (ae (br eJ (ae (f2 j0 (ag 0) (fC (.int 0))) (az))) (az))) (h8 0) (λ_=>M.ret MH) (lB (eK 1 [0] (ef (ag 1)) (h8 0) (λ_=>M.ret MH) (lB (f2 j0 (ag 0) (ag 1))))) δ β=My (.ok (aG (tp c w)),β):=by
 obtain⟨b,d,g⟩:=E.at (i:=0) (by lia);have k:(gI w)[0]?=My (b.map D.int):=by rw[MM,d];rfl
 have o:br eJ (ae (f2 j0 (ag 0) (fC (.int 0))) (az)) δ β=My (.ok (.int (c:Int)),β):=ai (aa (x:= .lst (b.map D.int)) (dq (x:=aG w) (pA h) rfl (nG k)) rfl) (bG (by rw[MD,g]));have e:=bo (nv:=1) (cx:=[0]) (it:=cK gm (ae (br eJ (ae (f2 j0 (ag 0) (fC (.int 0))) (az))) (az))) (tg:=h8 0) (f:=eK 1 [0] (ef (ag 1)) (h8 0) (λ_=>M.ret MH) (lB (f2 j0 (ag 0) (ag 1)))) (δ:=δ) (β:=β) (MX c) (λi=>D.int (0+(i:Int))) (λj=>D.lst (w.map λa=>D.int (a.getD j 0))) (bE (ds:=aZ 0 c) (aa o rfl) (w_ (by lia) (by lia))) ?_ (bh (by rw[Nr];lia))
 .rw[e]
  unfold tp ra;show _=My (Oq (D.lst (NZ D.lst (NZ _ (NZ _ _)))),β);rw[MV,MV];congr 4;refine Nu λj _=>?_;show _=D.lst ((w.map λa=>a.getD j 0).map D.int);rw[MV];rfl
 .intro j p
  have q:=Ni.mp p;have m:lb 1 [0] δ=[ME,My (aG w)]:=by
   unfold lb;simp only[MZ,Pb,h];rfl
  refine⟨[My (.int (0+(j:Int))),My (aG w)],by rw[m];rfl,?_⟩;have G:(gI w).map D.lst=w.map λa=>D.lst (a.map D.int):=by rw[MV];rfl
  refine bo (nv:=1) (cx:=[0]) w (λa=>D.lst (a.map D.int)) _ (by show My (Oq ((gI w).map D.lst),β)=_;rw[G]) (λa t=>⟨_,rfl,dq (x:= .lst (a.map D.int)) (y:= .int (0+(j:Int))) rfl rfl ?_⟩) (bh (by rw[E.1];lia));have u:=E.2 a t;obtain⟨x,n⟩:=zf (l:=a) (i:=j) (by lia);rw[Qu];refine cw ?_;rw[MM,n,MN,n];rfl
theorem yx{r c:Nat}{w:LI}(D:e_ r c w)(E:1<=r)(G:r<=30)(M:c<=30):(qg K a).1 [aG w] β=My (.ok (aG (tp c w)),β):=
 aK (am (aJ (IG D E G M rfl) ⟨rfl,rfl⟩))
noncomputable abbrev iL(xs:a0c):D:= .lst (xs.map D.int)
theorem zJ{w:LI}(h:w.length<=1000){f:FD}{δ:Dn}(e:f δ β=My (.ok (aG w),β)):eK 1 [] (ef f) (h8 0) (λ_=>M.ret MH) (lB (br iS (ae (ag 0) (az)))) δ β=My (.ok (iL (w.map N0)),β):=by
 have E:(gI w).map D.lst=w.map λa=>D.lst (a.map D.int):=by rw[MV];rfl
 have:=bo (nv:=1) (cx:=[]) (it:=ef f) (tg:=h8 0) (f:=br iS (ae (ag 0) (az))) (δ:=δ) (β:=β) w (λa=>D.lst (a.map D.int)) (λa=>D.int a.sum) (by rw[<-E];exact cL e rfl) (λa _=>⟨_,rfl,ai rfl (fJ a)⟩) (bh h);rw[this];show _=My (Oq (D.lst ((w.map N0).map D.int)),β);rw[MV];rfl
theorem kR{a_:LI}(h:a_.length<=1000):(eS K a).1 [aG a_] β=My (.ok (iL (a_.map N0)),β):=
 aK (am (aJ (zJ h rfl) ⟨rfl,rfl⟩))
theorem iJ{r c:Nat}{a_:LI}(w:e_ r c a_)(D:1<=r)(E:r<=30)(G:c<=30):(d6 K a).1 [aG a_] β=My (.ok (iL ((tp c a_).map N0)),β):=
 aK (am (aJ (zJ (by rw[(i7 (d:=(0:Int)) (c:=c) w.1).1];lia) (ak rfl (yx w D E G))) ⟨rfl,rfl⟩))
noncomputable def gp(G:LI)(i j:Nat):Int:=(G.getD i []).getD j 0
theorem Mo{G:LI}{i j:Nat}{a:a0c}{x:Int}(b:G[i]?=My a)(c:a[j]?=My x):gp G i j=x:=by
 unfold gp;simp only[MN,b,c,Wn]
theorem CH{G:LI}{i j:Nat}{a:a0c}(b:G[i]?=My a):a.getD j 0=gp G i j:=by
 unfold gp;rw[MN (l:=G),b];rfl
theorem DQ:∀(a:a0c),S a.length (λj=>a.getD j 0)=a.sum:=λa=>by
 unfold S;congr 1;refine OX (by simp) λi c b=>?_;rw[PN,P0,MN,MI b];rfl
theorem KV{r c i:Nat}{A:LI}(d:e_ r c A)(e:i<r):S c (gp A i)=(A.map N0).getD i 0:=by
 obtain⟨f,b,g⟩:=d.at e;rw[MN,MM,b];show _=f.sum;rw[<-DQ,g];exact eC λj _=>(CH b).symm
theorem KW{r c j:Nat}{A:LI}(b:e_ r c A)(f:j<c):S r (λp=>gp A p j)=((tp c A).map N0).getD j 0:=by
 have e:(tp c A)[j]?=My (A.map λa=>a.getD j 0):=by
  show((MX c).map λj=>A.map λa=>a.getD j 0)[j]?=_;rw[MM,On f];rfl
 rw[MN,MM,e];show _=(A.map λa=>a.getD j 0).sum;rw[<-DQ,MD,b.1];refine eC λp g=>?_;obtain⟨h,d,i⟩:=b.at g;rw[MN (l:=A.map _),MM,d];exact(CH d).symm
theorem BA{w:a0c}{b:a0a}(c:∀i∈b,i<w.length)(d:b.length<=1000):(mn K a).1 [iL w,nL b] β=My (.ok (.int (qt w b)),β):=by
 unfold mn
 dsimp only
 refine aK (am (aJ (ai (aa (x:=iL (b.map λi=>w.getD i 0)) ?_ rfl) (fJ _)) ⟨rfl,rfl⟩));have:=bo (nv:=1) (cx:=[0]) (it:=ef (ag 1)) (tg:=h8 0) (f:=f2 j0 (ag 1) (ag 0)) (δ:=[My (iL w),My (nL b)]) (β:=β) b (λi=>D.int (i:Int)) (λi=>D.int (w.getD i 0)) (by show My (Oq ((nI b).map D.int),β)=_;rw[MV];rfl) (λi e=>⟨_,rfl,dq rfl rfl (GE (c i e))⟩) (bh d);refine this.trans ?_;show _=My (Oq (D.lst ((b.map λi=>w.getD i 0).map D.int)),β);rw[MV];rfl
theorem sN{r c j:Nat}{w:a0c}{b:LP}{g:a0a}(E:e_ r c b)(n:w.length=c)(k:r<=1000)(l:j<c):(dE K a).1 [iL w,c8 b,nL g,.int (j:Int)] β=My (.ok (.int (fP w b r g j)),β):=by
 unfold dE
 dsimp only
 refine aK ?_;refine aC (d:=iL (((MX r).filter λi=>!decide (i∈g)).map λi=>(bI b i j).1)) (β1:=β) ?_ ?_
 .have m:((gP b).map D.lst).length=r:=by rw[MD,MD,E.1]
  have:=lC (nv:=2) (cx:=[2,3]) (it:=Gx (ae (ag 1) az)) (tg:=WW (gN (h8 0) (gN (h8 1) lV))) (tt:=fB (f2 (W9 MH) (ag 0) (ag 2))) (f:=f2 j0 (f2 j0 (ag 1) (ag 3)) (fC (.int 0))) (δ:=[My (iL w),My (c8 b),My (nL g),My (.int (j:Int)),ME]) (β:=β) (MX r) (λi=>D.tup [.int (i:Int),.lst ((b.getD i []).map pD)]) (λi=>D.int (bI b i j).1) (λi=>!decide (i∈g)) ?_ (λi h=>⟨_,rfl,hE (dq rfl rfl vE),λ_=>dq (dq rfl rfl (vx E (Ni.mp h) l).2) rfl rC⟩) (bh (by rw[Nr];exact k))
  .refine this.trans ?_
   show _=My (Oq (D.lst ((((MX r).filter λi=>!decide (i∈g)).map λi=>(bI b i j).1).map D.int)),β);rw[MV];rfl
  .show My (Oq (cU 0 ((gP b).map D.lst)),β)=_
   rw[oI,m];congr 3;refine Nu λi h=>?_;rw[Oo];congr 3;obtain⟨e,_⟩:=E.getD (Ni.mp h);rw[MN,MM,MM,e];rfl
 refine am (aJ (dq (x:= .int (w.getD j 0)) (dq rfl rfl (GE (by lia))) (ai rfl (fJ _)) rfl) ⟨rfl,?_⟩);have e:(MX r).map (λi=>if i∈g then(0:Int)else(bI b i j).1)=(MX r).map (λx=>if(!decide (x∈g))=MH then(bI b x j).1 else 0):=Nu λi _=>by by_cases q:i∈g<;>simp[q]
 unfold fP S;rw[xl,e]
theorem tz{r c j:Nat}{b:LP}{d:a0a}(w:e_ r c b)(e:∀i∈d,i<r)(k:d.length<=1000)(g:j<c):(dF K a).1 [c8 b,nL d,.int (j:Int)] β=My (.ok (.int (gs b d j)),β):=by
 unfold dF
 dsimp only
 refine aK (am (aJ (ai (aa (x:=iL (d.map λi=>(bI b i j).2)) ?_ rfl) (fJ _)) ⟨rfl,rfl⟩));have:=bo (nv:=1) (cx:=[0,2]) (it:=ef (ag 1)) (tg:=h8 0) (f:=f2 j0 (f2 j0 (f2 j0 (ag 1) (ag 0)) (ag 2)) (fC (.int 1))) (δ:=[My (c8 b),My (nL d),My (.int (j:Int))]) (β:=β) d (λi=>D.int (i:Int)) (λi=>D.int (bI b i j).2) (by show My (Oq ((nI d).map D.int),β)=_;rw[MV];rfl) (λi h=>⟨_,rfl,dq (dq (dq rfl rfl (vx w (e i h) g).1) rfl (vx w (e i h) g).2) rfl o7⟩) (bh k);refine this.trans ?_;show _=My (Oq (D.lst ((d.map λi=>(bI b i j).2).map D.int)),β);rw[MV];rfl
theorem z6{r c:Nat}{w:a0c}{b:LP}{d e:a0a}(E:e_ r c b)(k:w.length=c)(l:r<=1000)(h:c<=1000)(m:∀i∈d,i<r)(n:d.length<=1000):(ml K a).1 [iL w,c8 b,nL d,nL e] β=My (.ok (.int (tT w b r c d e)),β):=by
 unfold ml
 dsimp only
 refine aK (am (aJ (ai (aa (x:=iL ((MX c).map λj=>if j∈e then fP w b r d j else gs b d j)) ?_ rfl) (fJ _)) ⟨rfl,rfl⟩));have:=bo (nv:=1) (cx:=[3,0,1,2]) (it:=cK gm (ae (br eJ (ae (ag 0) (az))) (az))) (tg:=h8 0) (f:=Xc (fB (f2 (W9 ML) (ag 0) (ag 1))) (bw (dE K a).1 (ae (ag 2) (ae (ag 3) (ae (ag 4) (ae (ag 0) (az)))))) (bw (dF K a).1 (ae (ag 3) (ae (ag 4) (ae (ag 0) (az)))))) (δ:=[My (iL w),My (c8 b),My (nL d),My (nL e)]) (β:=β) (MX c) (λj=>D.int (0+(j:Int))) (λj=>D.int (if j∈e then fP w b r d j else gs b d j)) (bE (ds:=aZ 0 c) (aa (ai rfl (bG (by rw[MD,k]))) rfl) (w_ (by lia) (by lia))) (λj o=>⟨[My (.int (j:Int)),My (nL e),My (iL w),My (c8 b),My (nL d)],by rw[Qu];rfl,?_⟩) (bh (by rw[Nr];exact h))
 .refine this.trans ?_
  show _=My (Oq (D.lst (((MX c).map λj=>if j∈e then fP w b r d j else gs b d j).map D.int)),β);rw[MV];rfl
 .have g:=Ni.mp o
  by_cases q:j∈e
  .rw[MU q]
   exact K1 (hE (dq rfl rfl (by rw[vE];simp[q]))) (ak rfl (sN E k l g))
  .rw[MS q]
   exact K2 (hE (dq rfl rfl (by rw[vE];simp[q]))) (ak rfl (tz E m n g))
theorem BD{r c:Nat}{w:a0c}{b:LP}{d:a0a}(E:e_ r c b)(g:w.length=c)(l:r<=1000)(e:c<=1000)(m:∀i∈d,i<r)(n:d.length<=1000):(j5 K a).1 [iL w,c8 b,nL d] β=My (.ok (nL (vb w b r c d)),β):=by
 unfold j5
 dsimp only
 refine aK ?_;have h:=lC (nv:=1) (cx:=[0,1,2]) (it:=cK gm (ae (br eJ (ae (ag 0) (az))) (az))) (tg:=h8 0) (tt:=fB (f2 (SF) (bw (dE K a).1 (ae (ag 1) (ae (ag 2) (ae (ag 3) (ae (ag 0) (az)))))) (bw (dF K a).1 (ae (ag 2) (ae (ag 3) (ae (ag 0) (az))))))) (f:=ag 0) (δ:=[My (iL w),My (c8 b),My (nL d)]) (β:=β) (MX c) (λj=>D.int (0+(j:Int))) (λj=>D.int (j:Int)) (λj=>decide (fP w b r d j<gs b d j))
  (bE (ds:=aZ 0 c) (aa (ai rfl (bG (by rw[MD,g]))) rfl) (w_ (by lia) (by lia)))
  (λj k=>⟨[My (.int (j:Int)),My (iL w),My (c8 b),My (nL d)],by rw[Qu];rfl,hE (dq (ak rfl (sN E g l (Ni.mp k))) (ak rfl (tz E m n (Ni.mp k))) rfl),λ_=>rfl⟩) (bh (by rw[Nr];exact e))
 refine am (aJ h ⟨rfl,?_⟩);show Oq (D.lst ((nI (vb w b r c d)).map D.int))=_;rw[MV];rfl
theorem Je{n i:Nat}{d:D}(h:(aZ 0 n)[i]?=My d):i<n/\d= .int (i:Int):=by
 obtain⟨x,b,rfl⟩:=bP (f:=λ(i:Nat)=>D.int (0+(i:Int))) (xs:=MX n) h;have c:=(MR.mp b).1;rw[Nr]at c;rw[On c]at b;cases b;exact⟨c,by rw[Qu]⟩
theorem y9{n:Nat}(w:n<=6):(mo K a).1 [.int (n:Int)] β=My (.ok (.lst ((s9 n).map nL)),β):=by
 unfold mo
 dsimp only
 refine aK ?_;refine aC (d:= .lst [.lst []]) (β1:=β) (ai (aa (ai rfl YE) rfl) yy) ?_;refine bT (ds:=aZ 0 n) (β1:=β) (bE rfl (w_ (by lia) (by lia))) (λi δ b=>β=b/\∃c,δ=[My (.sh (.int (n:Int))),My (.sh (.lst ((s9 i).map nL))),c]) ⟨rfl,ME,rfl⟩ ?_ ?_
 .rintro i d δ _ hd ⟨rfl,c,rfl⟩
  obtain⟨g,rfl⟩:=Je hd;have j:(s9 i).length<=64:=by rw[xx];exact Ng (Rf (by decide) (show i<=6 by lia)) (by decide)
  refine⟨[My (.sh (.int (n:Int))),My (.sh (.lst ((s9 i).map nL))),My (.sh (.int (i:Int)))],rfl,am (aC (d:= .lst ((s9 (i+1)).map nL)) (β1:=β) ?_ (bp ⟨rfl,_,rfl⟩))⟩;have h:=bo (nv:=1) (cx:=[2]) (it:=ef (ag 1)) (tg:=h8 0) (f:=f2 j9 (ag 0) (br gB (ae (ag 1) (az)))) (δ:=vw [My (.sh (.int (n:Int))),My (.sh (.lst ((s9 i).map nL))),My (.sh (.int (i:Int)))]) (β:=β) (s9 i) nL (λl=>nL (l++[i])) rfl (λl e=>⟨[My (nL l),My (.int (i:Int))],rfl,by
   have k:l.length<=i:=by have:=(je i l e).length_le;rwa[Nr]at this
   refine dq rfl (ai rfl yy) ((rR ?_).trans ?_)
   .rw[MD,MD,N7];lia
   .simp only[nL,nI,NH,MZ,Pb]⟩) (bh (by lia))
  refine dq rfl h ((rR ?_).trans ?_)
  .rw[MD,MD];lia
  .rw[s9,NH,MV];rfl
 .rintro δ _ ⟨rfl,c,rfl⟩
  rw[show(aZ 0 n).length=n by unfold aZ;rw[MD,Nr]];exact am (aJ rfl ⟨rfl,rfl⟩)
theorem KK{r:Nat}{b:a0a}(h:b∈s9 r):(∀i∈b,i<r)/\b.length<=r:=⟨λi c=>Ni.mp ((je r b h).subset c),by have:=(je r b h).length_le;rwa[Nr]at this⟩
theorem Ky{r c:Nat}{E w:a0c}{b:LP}(P:e_ r c b)(l:E.length=r)(m:w.length=c)(n:r<=6)(p:c<=6)(V:∀X Y,0<=XH E w b r c X Y):(f7 K a).1 [iL E,iL w,c8 b] β=My (.ok .non,β):=by
 unfold f7
 dsimp only
 refine aK (am (bT (ds:=(s9 r).map nL) (β1:=β) (cL (ak (aa (ai rfl (bG (r:=r) (by rw[MD,l]))) rfl) (y9 n)) rfl) (λi G f=>β=f/\∃g h,G=[My (.sh (iL E)),My (.sh (iL w)),My (.sh (c8 b)),g,h]) ⟨rfl,ME,ME,rfl⟩ ?_ ?_))
 .rintro i d G _ hd ⟨rfl,g,h,rfl⟩
  obtain⟨e,q,rfl⟩:=bP hd;have S:=M2 q;obtain⟨k,t⟩:=KK S;refine⟨_,rfl,aC (d:=nL (vb w b r c e)) (β1:=β) (ak rfl (BD P m (by lia) (by lia) k (by lia))) ?_⟩;refine am (gZ (hE (dq (ak rfl (BA (by rw[l];exact k) (by lia))) (ak rfl (z6 P m (by lia) (by lia) k (by lia))) ?_)) (bD (bp ⟨rfl,_,_,rfl⟩)));have o:=V (λi=>decide (i∈e)) (λj=>decide (j∈vb w b r c e));have M:(vb w b r c e).Sublist (MX c):=Rk;rw[<-IW (je r e S) M]at o;show My (D.bl (decide _))=_;rw[Nw (by lia)]
 .rintro G _ ⟨rfl,g,h,rfl⟩
  exact bp ⟨rfl,rfl⟩
theorem G7{r c:Nat}{a:LI}{b:LP}(w:e_ r c a)(m:e_ r c b)(G:Kp a b)(X Y:Nat->Bool):0<=XH (a.map N0) ((tp c a).map N0) b r c X Y:=by
 refine Hc (g:=gp a) (λi f j h=>?_) (λi f=>(KV w f).symm) (λj h=>(KW w h).symm) X Y;obtain⟨D,k,n⟩:=w.at f;have E:=oh (l:=D) (i:=j) (d:=0) (by lia);obtain⟨e,l⟩:=m.getD f;have K:=oh (l:=b.getD i []) (i:=j) (d:=((0,0):Int×Int)) (by lia);rw[Mo k E];exact G i j _ _ (iz k E) (iz e K)
variable{rs cs:a0a}
theorem GI{g:G}{a:Ds}{o:lK}(h:Gw g a β (λc b=>c=o/\b=β)):g a β=My (o,β):=by
 obtain⟨c,b,e,rfl,rfl⟩:=h;exact e
theorem g0{t:a0q}{d b h:G}{δ:Ds}{β1:Bg}{c:Bool}{Q:a0v}(e:t (fc δ) β=My (.ok c,β1))(f:c=ML)(k:Gw (ay b h) δ β1 Q):Gw (ay (xi t d b) h) δ β Q:=by
 subst f;exact gZ e k
theorem Ls{p:Int×Int}(h:pj p):(ju K a).1 [pD p] β=My (.ok .non,β):=by
 obtain⟨b,c,e⟩:=h;unfold ju
 dsimp only
 refine aK ?_;exact pG (d:=pD p) (β1:=β) rfl rfl (am (g0 (gY (hE (DV rfl rfl rfl rfl))) (by simp;lia) (bD (bp ⟨rfl,rfl⟩))))
theorem He{r c:Nat}{b:LP}(g:u_ r c b)(n:r<=1000):(dj K a).1 [c8 b,.int (r:Int),.int (c:Int)] β=My (.ok (c8 b),β):=by
 unfold dj
 dsimp only
 refine aK ?_;refine gZ (β1:=β) (hE (dq rfl rfl rfl)) (bD ?_);have o:eK 1 [2] (ef (ag 0)) (h8 0) (λ_=>M.ret MH) (lB (f2 (fW) (br eJ (ae (ag 0) (az))) (ag 1))) [My (c8 b),My (.int (r:Int)),My (.int (c:Int)),ME,ME] β=My (.ok (.lst (b.map λ_=>D.bl ML)),β):=
  bo (nv:=1) (cx:=[2]) b (λw=>D.lst (w.map pD)) _ (by show My _=_;rw[MV];rfl) (λw h=>⟨_,rfl,dq (ai rfl (bG (r:=c) (by rw[MD];exact g.shp.2 w h))) rfl (ne_int.trans (by rw[M3 rfl];rfl))⟩) (bh (by rw[g.shp.1];exact n))
 refine g0 (fF (hE (dq (ai rfl (my (r:=r) (by rw[MD];exact g.shp.1))) rfl (ne_int.trans (by rw[M3 rfl];rfl)))) (gX (ai (aa o rfl) (any_map b λ_=>ML)) rfl)) (by simp) (bD ?_);refine bT (ds:=(gP b).map D.lst) (β1:=β) rfl (λi E e=>β=e/\∃l f,E=[My (.sh (c8 b)),My (.sh (.int (r:Int))),My (.sh (.int (c:Int))),l,f]) ⟨rfl,ME,ME,rfl⟩ ?_ ?_
 .rintro i d E _ hd ⟨rfl,l,f,rfl⟩
  obtain⟨y,q,rfl⟩:=bP hd;obtain⟨w,k,rfl⟩:=bP q;refine⟨_,rfl,am (bT (ds:=w.map pD) (β1:=β) rfl (λj E e=>β=e/\∃f,E=[My (.sh (c8 b)),My (.sh (.int (r:Int))),My (.sh (.int (c:Int))),My (.sh (.lst (w.map pD))),f]) ⟨rfl,_,rfl⟩ ?_ ?_)⟩
  .rintro j d E _ hd ⟨rfl,f,rfl⟩
   obtain⟨p,m,rfl⟩:=bP hd;exact⟨_,rfl,am (jf (ak rfl (Ls (g.ok w (M2 k) p (M2 m)))) (bp ⟨rfl,_,rfl⟩))⟩
  .rintro E _ ⟨rfl,f,rfl⟩
   exact bp ⟨rfl,_,_,rfl⟩
 .rintro E _ ⟨rfl,l,f,rfl⟩
  exact am (aJ (bo (nv:=1) (cx:=[]) (gP b) D.lst D.lst rfl (λx _=>⟨_,rfl,rfl⟩) (bh (by rw[MD,g.shp.1];exact n))) ⟨rfl,rfl⟩)
theorem AX(l:a0a){n:Nat}{δ:Dn}(b:l.length<=1000)(e:δ.getD n ME=My (nL l)):yV (br zg (ae (eK 1 [] (ef (ag n)) (h8 0) (λ_=>M.ret MH) (lB (f2 (SF) (ag 0) (fC (.int 0))))) (az))) δ β=My (.ok ML,β):=by
 have c:=bo (nv:=1) (cx:=[]) (it:=ef (ag n)) (tg:=h8 0) (f:=f2 (SF) (ag 0) (fC (.int 0))) (δ:=δ) (β:=β) (nI l) D.int (λx=>D.bl (decide (x<0))) (cL (pA e) rfl) (λx _=>⟨_,rfl,rfl⟩) (bh (by rw[MD];exact b));refine gX (ai (aa c rfl) (any_map _ _)) (N6 My (TD.mpr λx d=>?_));obtain⟨n,_,rfl⟩:=M8.mp d;simp
theorem jx(l:a0a):eJ [nL l]=My (.int (l.length:Int)):=bG (by rw[MD,MD])
theorem Il(h:Nt0 rs cs):(jt K a).1 [nL rs,nL cs] β=My (.ok .non,β):=by
 obtain⟨b,c,d,e⟩:=h.nr;have w:=h.c1;have D:=h.c6;unfold jt
 dsimp only
 refine aK ?_;refine g0 (gY (hE (wo rfl (ai rfl (jx rs)) rfl))) (by simp;lia) (bD ?_);refine g0 (gY (hE (wo rfl (ai rfl (jx cs)) rfl))) (by simp;lia) (bD ?_);refine gZ (fF (AX rs (by lia) rfl) (AX cs (by lia) rfl)) (bD ?_);refine g0 (hE (dq (ai rfl (vd rs)) (ai rfl (vd cs)) ne_int)) (by rw[h.sm];simp) (bD ?_);exact am (g0 (hE (dq (ai rfl (vd rs)) rfl gt_int)) (by simp;lia) (bD (bp ⟨rfl,rfl⟩)))
theorem GU(h:O_ rs):(jr K a).1 [nL rs] β=My (.ok .non,β):=by
 obtain⟨g,j,k,e⟩:=h;unfold jr
 dsimp only
 refine aK ?_;refine aC (d:= .int 1) (β1:=β) rfl ?_;refine bT (ds:=(nI rs).map D.int) (β1:=β) rfl (λi w b=>β=b/\∃c,w=[My (.sh (nL rs)),My (.sh (.int ((pr ((rs.take i).map (·+1)):Nat):Int))),c]) ⟨rfl,ME,rfl⟩ ?_ ?_
 .rintro i d w _ hd ⟨rfl,c,rfl⟩
  obtain⟨n,E,rfl⟩:=yp hd;have f:=nB (M2 E);have l:=Ng (yg rs i) e;refine⟨_,rfl,am (fG rfl (dq (z:= .int ((n+1:Nat):Int)) rfl rfl rfl) (rp (Yp (by lia)) (Yp (by lia))) (bp ⟨rfl,My (.sh (.int (n:Int))),?_⟩))⟩;rw[rj E];rfl
 .rintro w _ ⟨rfl,c,rfl⟩
  rw[BE,PR];exact am (g0 (hE (dq rfl rfl gt_int)) (by simp;lia) (bD (bp ⟨rfl,rfl⟩)))
structure O2 (a_:LI) (B:a0g) (rs cs:a0a):Prop extends Nt0 rs cs where
 shp:e_ rs.length cs.length a_
 rw1:a_.map N0=nI rs
 cl1:(tp cs.length a_).map N0=nI cs
 bok:Iv rs.length cs.length B
 kp:Kp a_ (gl B)
theorem iw{r c:Nat}{B:a0g}(h:e_ r c B):e_ r c (gl B):=h.map
theorem Iv.bnd{r c:Nat}{B:a0g}(h:Iv r c B):u_ r c (gl B):=⟨iw h.1,λa e p f=>by
 obtain⟨b,g,rfl⟩:=M8.mp e;obtain⟨d,i,rfl⟩:=M8.mp f;have:=h.2 b g d i;exact⟨by show(0:Int)<=(d.1:Int);lia,by show(d.1:Int)<=(d.2:Int);lia,by show(d.2:Int)<=40;lia⟩⟩
theorem O2.nt{a_:LI}{B:a0g}(h:O2 a_ B rs cs):lj K a rs cs (wB B cs) (ni B):=⟨h.toNt0,F5 B cs,λ{β k r} b c e=>Ip c (by rw[e];exact h.bok) (by rw[<-h.sm];exact h.nr.2.2.1) b⟩
theorem O2.fit{w:LI}{B:a0g}(h:O2 w B rs cs):(f7 K a).1 [nL rs,nL cs,ni B] β=My (.ok .non,β):=by
 have b:=h.nr.2.1;have D:=h.c6;refine Ky (iw h.bok.1) (MD _) (MD _) (by lia) (by lia) λX Y=>?_;rw[<-h.rw1,<-h.cl1];exact G7 h.shp (iw h.bok.1) h.kp X Y
theorem Hf{w:LI}{B:a0g}(h:O2 w B rs cs):(dj K a).1 [ni B,.int (rs.length:Int),.int (cs.length:Int)] β=My (.ok (ni B),β):=He h.bok.bnd (by have:=h.nr.2.1;lia)
abbrev YD(B:a0g)(rs cs:a0a):a0d:=[nL rs,nL cs,ni B,rO (wB B cs) rs cs.length]
abbrev JW(a:Ad)(B:a0g)(rs cs:a0a):D:= .obj a.Ak ["row_list","column_list","pairs","counted"] (YD B rs cs)
theorem LC{w:LI}{B:a0g}{d:D}(h:O2 w B rs cs)(E:∀{β:Bg},(dj K a).1 [d,.int (rs.length:Int),.int (cs.length:Int)] β=My (.ok (ni B),β)):qu K a [nL rs,nL cs,d] β=My (.ok (YD B rs cs),β):=Fi λx=>by
 have G:(dW K a).1 [nL rs,nL cs,d] β=My (.ok (ni B),β):=by
  unfold dW
  dsimp only
  refine aK ?_;exact jf (ak rfl (Il h.toNt0)) (aC (ak (aa rfl (aa (ai rfl (jx rs)) (aa (ai rfl (jx cs)) rfl))) E) (jf (ak rfl (GU h.nr)) (am (aJ rfl ⟨rfl,rfl⟩))))
 unfold vD;refine CA (g:=cD 4 _) (δ1:=[My (.sh (.adr x)),My (.sh (nL rs)),My (.sh (nL cs)),My (.sh d),My (.sh (ni B))]) (β1:=β) (GI (am (aC (ak rfl G) (bp ⟨rfl,rfl⟩)))) rfl rfl ?_;refine CA (δ1:=[My (.sh (.adr x)),My (.sh (nL rs)),My (.sh (nL cs)),My (.sh d),My (.sh (ni B))]) (β1:=β) (GI (am (jf (ak rfl h.fit) (bp ⟨rfl,rfl⟩)))) rfl rfl ?_;exact qC (ai rfl rfl) (qC (ai rfl rfl) (qC rfl (qC (ak rfl (yZ h.nt)) rfl)))
theorem JV{a_:LI}{B:a0g}(h:O2 a_ B rs cs):qu K a [nL rs,nL cs,ni B] β=My (.ok (YD B rs cs),β):=LC h (Hf h)
theorem K3{f:FD}{g:FL}{a:Dn}{b:Bool}{w:List f_}{E:a0d}{k z d:D}{y:f_}(c:f a β=My (.ok (.dct b w E),β))(e:g a β=My (.ok [k,z],β))(h:iH b k=My y)(i:lp w E y=My d):Ft f g a β=My (.ok d,β):=by
 unfold Ft;rw[M.bind_ok c];simp only;rw[M.bind_ok e];simp only[h,i,OI,Wn,M.ofO]
variable{W:Wy}{L:D}
abbrev sT(W:Wy)(cs:a0a)(k:Nat)(r:a0a):a0p:=B_ W (cs.length-(k+1)) k r
abbrev tB(W:Wy)(cs:a0a)(k:Nat)(r v:a0a):Nat:=j1 W (cs.length-(k+1)) (k+1) (less r v)
abbrev mB(W:Wy)(cs:a0a)(k:Nat)(r v:a0a):Nat:=mu v*js W (cs.length-(k+1)) (k+1) (less r v)
abbrev bC(a:Ad)(W:Wy)(L:D)(rs cs:a0a):D:= .obj a.Ak ["row_list","column_list","pairs","counted"] [nL rs,nL cs,L,rO W rs cs.length]
theorem HQ{a w:List f_}{b c:a0d}{y:f_}(h:a.length=b.length):lp (a++w) (b++c) y=(lp a b y).or (lp w c y):=by
 unfold lp;rw[List.zip_append h,List.find?_append];cases(a.zip b).find? λp=>decide (p.1=y)<;>rfl
theorem Gy{f:a0a->D}{u:a0a}{k:Int}:∀{L:a0p},u∈L->lp (L.map λr=>(k,nI r)) (L.map f) (k,nI u)=My (f u)
 |r::L,h=>by
  unfold lp;rw[MZ,MZ,OZ,P8];by_cases q:r=u
  .rw[q,M3 rfl];rfl
  .rw[Nw λe=>q (jm (Rv.mp e).2)]
   exact Gy ((M4.mp h).resolve_left λe=>q e.symm)
theorem BK{f:a0a->D}{y:f_}{k:Int}(h:k≠y.1):∀{L:a0p},lp (L.map λr=>(k,nI r)) (L.map f) y=ME
 |[]=>rfl
 |r::L=>by
  have a:=BK (f:=f) h (L:=L);unfold lp at a⊢;rw[MZ,MZ,OZ,P8,Nw λe=>h (Rv.mp e).1];exact a
theorem BM{m k:Nat}{u:a0a}(b:u∈hO W rs k):∀{L:a0a},k∈L->lp (L.flatMap λk=>(hO W rs k).map λr=>((k:Int),nI r)) (L.flatMap λk=>(hO W rs k).map (cv W m k)) ((k:Int),nI u)=My (cv W m k u)
 |j::L,h=>by
  rw[OA,OA,HQ (by rw[MD,MD])];by_cases q:j=k
  .subst q
   rw[Gy b];rfl
  .rw[BK (by show(j:Int)≠(k:Int);lia),Option.none_or]
   exact BM b ((M4.mp h).resolve_left λe=>q e.symm)
theorem C_{k:Nat}{u:a0a}(c:k<=cs.length)(b:u∈hO W rs k):lp (W8 W rs (cs.length+1)) (KO W rs cs.length) ((k:Int),nI u)=My (cv W cs.length k u):=BM b (Ni.mpr (by lia))
theorem cat_ok{k:Nat}{u:a0a}(c:k<=cs.length)(d:u∈hO W rs k):(dL K a).1 [bC a W L rs cs,.int (k:Int),tN u] β=My (.ok (cv W cs.length k u),β):=
 aK (am (aJ (K3 (iO rfl rfl) (aa (ai rfl fU) (aa (ai rfl fU) rfl)) (rB (b:=MH) (k:=((k:Int),nI u)) λe=>(by cases e)) (C_ c d)) ⟨rfl,rfl⟩))
theorem JU{k:Nat}{u:a0a}(b:k<=cs.length)(c:u∈hO W rs k):EU (.tup [.int (k:Int),tN u]) (rO W rs cs.length)=My (.bl ML):=by
 show(iH MH (dK MH ((k:Int),nI u))).map _=_;rw[rB λe=>(by cases e),OI,C_ b c];rfl
theorem lj.nx{k:Nat}{r v:a0a}(h:lj K a rs cs W L)(b:r∈hO W rs k)(c:v∈W k r):less r v∈hO W rs (k+1):=nu.mpr ⟨r,b,v,c,rfl⟩
theorem FX{k:Nat}{r:a0a}(h:lj K a rs cs W L)(b:O_ r):(W k r).length<=500:=by
 have:=(h.ok k r).length_le;have:=kN r (cs.getD k 0);have:=yg r (r.length-1);rw[<-List.dropLast_eq_take]at this;have:=b.2.2.2;lia
theorem xW{k:Nat}{r:a0a}(h:lj K a rs cs W L)(b:O_ r):(sT W cs k r).length<=500:=Ng Rk.length_le (FX h b)
theorem Et{k:Nat}{r:a0a}(h:lj K a rs cs W L)(d:k<cs.length)(b:r∈hO W rs k):(j6 K a).1 [bC a W L rs cs,.int (k:Int),tN r] β=My (.ok (.lst ((sT W cs k r).map tN)),β):=by
 obtain⟨c,f,g⟩:=h.at (by lia) b;unfold j6
 dsimp only
 refine aK ?_;refine g0 (fF (hE (dq (ai rfl fU) (iO rfl rfl) (JU (by lia) b))) (hE (dq rfl (ai (aa (iO rfl rfl) rfl) (jx cs)) eq_int))) (by simp;lia) (bD ?_);refine am (aJ (lC (W k r) tN tN (λv=>decide ((0:Int)<((tB W cs k r v:Nat):Int))) (cL (ak (aa rfl (aa (iO rfl rfl) (aa (iO rfl rfl) (aa rfl rfl)))) (h.fl d c f)) rfl) (λv e=>⟨[My (tN v),My (bC a W L rs cs),My (.int (k:Int)),My (tN r)],rfl,?_,λ_=>rfl⟩) (bh ?_)) ⟨rfl,rfl⟩)
 .exact hE (dq (dq (bA rfl (aa (x:= .int ((k+1:Nat):Int)) (dq rfl rfl rfl) (aa (ak rfl (jP (cS ((h.ok k r).subset e)) c.2.1)) rfl)) (cat_ok d (h.nx b e))) rfl rC) rfl gt_int)
 .have:=FX (k:=k) h c
  lia
abbrev WX(W:Wy)(j k:Nat)(r v:a0a):D:= .tup [tN v,.int ((j1 W j (k+1) (less r v):Nat):Int),.int ((mu v*js W j (k+1) (less r v):Nat):Int)]
theorem X_{x y z:D}:hZ [x,y,z]=My (.tup [x,y,z]):=by
 unfold hZ;rw[MU (bh (by show 3<=1000;decide))]
theorem yY{k:Nat}{r:a0a}(h:lj K a rs cs W L)(b:k<=cs.length)(c:r∈hO W rs k):js W (cs.length-k) k r<=2^160:=by
 refine Ng (vQ h.ok _ _ _ (by lia)) ?_;rw[vP _ _ (jw h.ok h.sm k b r c).2];exact yq (h.at b c).2.2
theorem uB{k:Nat}{r:a0a}(h:lj K a rs cs W L)(c:k<cs.length)(e:r∈hO W rs k):(dI K a).1 [bC a W L rs cs,.int (k:Int),tN r] β=My (.ok (.lst ((sT W cs k r).map (WX W (cs.length-(k+1)) k r))),β):=by
 obtain⟨m,p,o⟩:=h.at (by lia) e;have q:=xW (k:=k) h m;unfold dI
 dsimp only
 refine aK ?_;refine pE (ds:=[]) (β1:=β) rfl (N2 _) ?_;refine bT (ds:=(sT W cs k r).map tN) (β1:=β) (cL (bA rfl rfl (Et h c e)) rfl) (λi w f=>β=f/\∃g j l,w=[My (.sh (bC a W L rs cs)),My (.sh (.int (k:Int))),My (.sh (tN r)),My (.own (((sT W cs k r).take i).map (WX W (cs.length-(k+1)) k r))),g,j,l]) ⟨rfl,ME,ME,ME,rfl⟩ ?_ ?_
 .rintro i d w _ hd ⟨rfl,g,j,l,rfl⟩
  obtain⟨v,n,rfl⟩:=bP hd;have D:=(Of.mp (M2 n)).1;have E:=h.nx e D;have b:v.sum<=40:=Ng (cS ((h.ok k r).subset D)).sum o;refine⟨_,rfl,pG (d:=cv W cs.length (k+1) (less r v)) (β1:=β) (bA rfl (aa (x:= .int ((k+1:Nat):Int)) (dq rfl rfl rfl) (aa (ak rfl (jP (cS ((h.ok k r).subset D)) m.2.1)) rfl)) (cat_ok c E)) rfl (am (pI (cs:=((sT W cs k r).take i).map (WX W (cs.length-(k+1)) k r)) (d:=WX W (cs.length-(k+1)) k r v) rfl (aa (ai (aa rfl (aa rfl (aa (dq (ak rfl (mY (.inr rfl) b)) rfl (rp (fq (lS b) (by decide)) (fq (yY h c E) (by decide)))) rfl))) (X_.trans (by rw[pB]))) rfl) (Nm (show _<1000 by rw[MD,PP];lia) (by decide)) (bp ⟨rfl,My (.sh (tN v)),My (.sh (.int ((tB W cs k r v:Nat):Int))),My (.sh (.int ((js W (cs.length-(k+1)) (k+1) (less r v):Nat):Int))),?_⟩)))⟩;rw[QV,n,NH];rfl
 .rintro w _ ⟨rfl,g,j,l,rfl⟩
  rw[MD,PR];exact am (aJ rfl ⟨rfl,rfl⟩)
theorem vL(f:a0a->Nat)(l:a0p){n:Nat}(G:n<L2.Nt.sm l f):(iX K a).1 [.lst (l.map λv=> .tup [tN v,.int ((f v:Nat):Int)]),.int (n:Int)] β=My (.ok (.tup [tN (k_ f l n).1,.int (((k_ f l n).2:Nat):Int)]),β):=by
 unfold iX
 dsimp only
 refine aK ?_;refine aC (d:= .int 0) (β1:=β) rfl ?_;refine GV (λq E g=>β=g/\∃i b:Nat,E=[My (.sh (.lst (l.map λv=> .tup [tN v,.int ((f v:Nat):Int)]))),My (.sh (.int (b:Int))),My (.sh (.int (i:Int)))]/\q=l.length-i/\k_ f (l.drop i) b=k_ f l n/\b<L2.Nt.sm (l.drop i) f) ?_ l.length _ β ⟨rfl,0,n,rfl,rfl,rfl,G⟩;rintro q E _ ⟨rfl,i,b,rfl,rfl,e,w⟩;have h:i<l.length:=by
  rcases SA i l.length with z|z
  .exact z
  .rw[OT z]at w;cases w
 have c:(l.map λv=>D.tup [tN v,.int ((f v:Nat):Int)])[i]?=My (.tup [tN l[i],.int ((f l[i]:Nat):Int)]):=by rw[MM,MI h];rfl
 rw[NR h]at e w;rw[bu]at w;have j:∀v l n,k_ f (v::l) n=if n<f v then(v,n)else k_ f l (n-f v):=λ_ _ _=>rfl;rw[j]at e;by_cases z:b<f l[i]
 .rw[MU z]at e
  refine .inl ⟨β,?_,?_⟩
  .exact(hE (dq rfl (dq (dq rfl rfl (cw c)) rfl o7) ge_int)).trans (by rw[Nw (by lia)])
  .rw[<-e]
   exact am (aJ (ai (aa (dq (dq rfl rfl (cw c)) rfl rC) (aa rfl rfl)) fU) ⟨rfl,rfl⟩)
 .rw[MS z]at e
  refine .inr ⟨β,?_,?_⟩
  .exact(hE (dq rfl (dq (dq rfl rfl (cw c)) rfl o7) ge_int)).trans (by rw[M3 (by lia)])
  .refine fG (z:= .int ((b-f l[i]:Nat):Int)) rfl (dq (dq rfl rfl (cw c)) rfl o7) (by show My (D.int _)=_;rw[Int.ofNat_sub (by lia)]) (am (fG (z:= .int ((i+1:Nat):Int)) rfl rfl rfl (bp ⟨_,rfl,l.length-(i+1),by lia,rfl,i+1,b-f l[i],rfl,rfl,e,by lia⟩)))
theorem z0{n:Nat}{w:a0p}(g:1<=w.length)(l:w.length<=30)(G:n<=30)(b:∀v∈w,v.length=n):(dD K a).1 [.lst (w.map tN)] β=My (.ok (aG (tp n (w.map nI))),β):=by
 have c:(w.map tN)[0]?=My (tN w[0]):=by rw[MM,MI (by lia)];rfl
 unfold dD
 dsimp only
 refine aK (am (aJ (d:= .lst ((MX n).map λj=>D.lst (w.map λv=> .int ((v.getD j 0:Nat):Int)))) (β1:=β) ?_ ⟨rfl,?_⟩))
 .refine bo (MX n) (λi=>D.int (0+(i:Int))) _ (bE (ds:=aZ 0 n) (aa (ai (z:= .int (n:Int)) (aa (dq rfl rfl (cw (k:=0) c)) rfl) ?_) rfl) (w_ (by lia) (by lia))) (λj e=>⟨[My (.int (0+(j:Int))),My (.lst (w.map tN))],rfl,?_⟩) (bh (by rw[Nr];lia))
  .show My (D.int _)=_
   rw[MD,MD,b _ (NB _)]
  .have f:=Ni.mp e
   refine bo (nv:=1) (cx:=[0]) w tN _ rfl (λv h=>⟨[My (tN v),My (.int (0+(j:Int)))],rfl,dq rfl rfl ?_⟩) (bh (by lia));rw[Qu];have m:=b v h;refine cw (xs:=(nI v).map D.int) ?_;rw[MM,MM,iI (by lia),MI (by lia)];rfl
 .unfold tp ra
  show Oq (D.lst (NZ D.lst (NZ _ (NZ _ _))))=_;rw[MV,MV];congr 2;refine Nu λj _=>?_;show D.lst (((w.map nI).map λE=>E.getD j 0).map D.int)=_;rw[MV,MV];congr 1;refine Nu λv _=>?_;show D.int ((nI v).getD j 0)=_;rw[MN,MN,MM];cases v[j]?<;>rfl
theorem eqI(i j:Int):Q0 (.int i) (.int j)=decide (i=j):=by unfold Q0;exact Bool.beq_eq_decide_eq i j
theorem mG{D:Type} [DecidableEq D]{f:D->Vl}(b:∀x y,Q0 (f x) (f y)=decide (x=y)):∀a w:List D,RQ (a.map f) (w.map f)=decide (a=w)
 |[],[]=>by simp[RQ]
 |[],y::w=>by simp[RQ]
 |x::a,[]=>by simp[RQ]
 |x::a,y::w=>by
  rw[MZ,MZ,RQ,b,mG b a w];by_cases h:x=y<;>by_cases q:a=w<;>simp[h,q]
theorem oK{a:Type}{f:a->D}{g:a->Vl}(h:∀x,n_ (f x)=My (g x)):∀l:List a,toPs (l.map f)=My (l.map g)
 |[]=>by simp[toPs]
 |x::l=>by
  rw[MZ,toPs,h x,oK h l];rfl
theorem sS{x y:D}{p q:Vl}(f:Xo x y=ME)(d:n_ x=My p)(e:n_ y=My q)(b:lE x=MH)(c:lE y=MH):gE x y=My (.bl (Q0 p q)):=by
 unfold gE lF;unfold lE at b c;rw[d]at b;rw[e]at c;simp only[f,d,e,b,c,Q6,NN,OI]
theorem Mr(a w:a0c):gE (i_ a) (i_ w)=My (.bl (decide (a=w))):=by
 have t:∀l:a0c,n_ (i_ l)=My (.tuple (l.map .int)):=λl=>by
  unfold i_ n_;rw[oK (g:=VL) λx=>rfl];rfl
 have c:∀l:a0c,lE (i_ l)=MH:=λl=>vY 1 (λx b=>by
  obtain⟨i,_,rfl⟩:=M8.mp b;trivial) (by decide)
 rw[sS rfl (t a) (t w) (c a) (c w),Q0,mG eqI]
theorem gr:(cB K a).1 [bC a W L rs cs] β=My (.ok (nL rs),β):=aK (am (aJ (ai (aa (iO rfl rfl) rfl) rfl) ⟨rfl,rfl⟩))
theorem ny:(eF K a).1 [bC a W L rs cs] β=My (.ok (nL cs),β):=aK (am (aJ (ai (aa (iO rfl rfl) rfl) rfl) ⟨rfl,rfl⟩))
theorem DA{n m:Nat}(h:n<m):(d7 K a).1 [.int (n:Int),.int (m:Int)] β=My (.ok .non,β):=
 aK (am (g0 (gY (hE (rW rfl rfl rfl))) (by simp;lia) (bD (bp ⟨rfl,rfl⟩))))
theorem kd(l:a0a):ux [nL l]=My (tN l):=rfl
theorem x9{r c:Nat}{w:LI}(D:e_ r c w)(E:1<=r)(G:r<=30)(L:c<=30):(dD K a).1 [aG w] β=My (.ok (aG (tp c w)),β):=
 aK (am (aJ (IG D E G L rfl) ⟨rfl,rfl⟩))
theorem v9{E:LI}(h:Nt0 rs cs)(M:e_ rs.length cs.length E):(cT K a).1 [bC a W L rs cs,aG E] β=My (.ok (.lst ((tp cs.length E).map i_)),β):=by
 obtain⟨b,j,_,_⟩:=h.nr;have P:=h.c1;have S:=h.c6;unfold cT
 dsimp only
 refine aK ?_;refine aC (d:= .int (cs.length:Int)) (β1:=β) (ai (aa (bA rfl rfl ny) rfl) (jx cs)) ?_;have e:f2 fW (br eJ (ae (ag 1) az)) (br eJ (ae (gj a.Ak "rowsums" (cB K a).1 (ag 0) az []) az)) (fc [My (.sh (bC a W L rs cs)),My (.sh (aG E)),My (.sh (.int (cs.length:Int)))]) β=My (.ok (.bl ML),β):=dq (ai rfl (bG (r:=rs.length) (by rw[MD,MD];exact M.1))) (ai (aa (bA rfl rfl gr) rfl) (jx rs)) (ne_int.trans (by rw[M3 rfl];rfl));have g:=bo (nv:=1) (cx:=[2]) (it:=ef (ag 1)) (tg:=h8 0) (f:=f2 fW (br eJ (ae (ag 0) az)) (ag 1)) (δ:=fc [My (.sh (bC a W L rs cs)),My (.sh (aG E)),My (.sh (.int (cs.length:Int)))]) (β:=β) E (λw=>D.lst (w.map D.int)) (λ_=>D.bl ML) (cL rfl (by show My _=My _;rw[MV];rfl)) (λw i=>⟨[My (D.lst (w.map D.int)),My (.int (cs.length:Int))],rfl,dq (ai rfl (bG (r:=cs.length) (by rw[MD];exact M.2 w i))) rfl (ne_int.trans (by rw[M3 rfl];rfl))⟩) (bh (by rw[M.1];lia));refine g0 (fF (hE e) (gX (ai (aa g rfl) (any_map E λ_=>ML)) rfl)) (by simp) (bD ?_);refine am (aJ (bo (tp cs.length E) (λG=>D.lst (G.map D.int)) i_ (cL (ak rfl (x9 M b (by lia) (by lia))) (by show My _=My _;rw[MV];rfl)) (λG _=>⟨[My (D.lst (G.map D.int))],rfl,rfl⟩) (bh (by rw[(i7 (d:=(0:Int)) (c:=cs.length) M.1).1];lia))) ⟨rfl,rfl⟩)
theorem kg:(cP K a).1 [bC a W L rs cs] β=My (.ok (.int ((j1 W cs.length 0 rs:Nat):Int)),β):=
 aK (am (aJ (dq (bA rfl (aa rfl (aa (ai (aa (iO rfl rfl) rfl) rfl) rfl)) (cat_ok (k:=0) (N2 _) (Nq.mpr rfl))) rfl rC) ⟨rfl,rfl⟩))
theorem J8{b:Nat}(h:lj K a rs cs W L)(D:b<j1 W cs.length 0 rs):(dT K a).1 [bC a W L rs cs,.int (b:Int)] β=My (.ok (aG (tp rs.length ((T_ W cs.length 0 rs b).map nI))),β):=by
 have M:=h.c1;have P:=h.c6;have C:=h.nr.2.1;unfold dT
 dsimp only
 refine aK ?_;refine jf (ak (aa rfl (aa (bA rfl rfl kg) rfl)) (DA D)) ?_;refine aC (d:=tN rs) (β1:=β) (ai (aa (bA rfl rfl gr) rfl) (kd rs)) ?_;refine pE (ds:=[]) (β1:=β) rfl (N2 _) ?_;refine bT (ds:=aZ 0 cs.length) (β1:=β) (bE (aa (ai (aa (bA rfl rfl ny) rfl) (jx cs)) rfl) (w_ (by lia) (by lia))) (λi E g=>β=g/\∃w r,∃n:Nat,∃j l m,E=[My (.sh (bC a W L rs cs)),My (.sh (.int (n:Int))),My (.sh (tN r)),My (.own (w.map tN)),j,l,m]/\w.length=i/\r∈hO W rs i/\n<j1 W (cs.length-i) i r/\w++T_ W (cs.length-i) i r n=T_ W cs.length 0 rs b) ⟨rfl,[],rs,b,ME,ME,ME,rfl,rfl,Nq.mpr rfl,D,rfl⟩ ?_ ?_
 .rintro i d E _ hd ⟨rfl,w,r,n,j,l,m,rfl,o,f,D,c⟩
  obtain⟨y,rfl⟩:=tW hd;have p:cs.length-i=(cs.length-(i+1))+1:=by lia
  rw[p,<-zM]at D;rw[p]at c;obtain⟨A,B⟩:=mF D;have q:=(Of.mp A).1;have G:=cS ((h.ok i r).subset q);have t:=(h.at (by lia) f).1;have F:=xW (k:=i) h t;refine⟨_,rfl,aC (d:= .lst ((sT W cs i r).map λv=> .tup [tN v,.int ((tB W cs i r v:Nat):Int)])) (β1:=β) (bo (sT W cs i r) (WX W (cs.length-(i+1)) i r) _ (cL (ak rfl (uB h y f)) rfl) (λv _=>⟨[My (tN v),My (.int ((tB W cs i r v:Nat):Int)),My (.int ((mB W cs i r v:Nat):Int))],rfl,ai rfl fU⟩) (bh (by lia))) ?_⟩;refine pG (ak rfl (vL (tB W cs i r) (sT W cs i r) D)) rfl ?_;refine pI (cs:=w.map tN) rfl rfl (Nm (show _<1000 by rw[MD];lia) (by decide)) (am (aC (ak rfl (jP G t.2.1)) (bp ⟨rfl,w++[(k_ (tB W cs i r) (sT W cs i r) n).1],less r (k_ (tB W cs i r) (sT W cs i r) n).1,(k_ (tB W cs i r) (sT W cs i r) n).2,_,_,_,by rw[NH];rfl,by rw[Nb,o];rfl,h.nx f q,B,by rw[N4];exact c⟩)))
 .rintro E _ ⟨rfl,w,r,n,j,l,m,rfl,o,f,_,c⟩
  rw[mj]at o c;rw[Rz]at c;have e:w=T_ W cs.length 0 rs b:=by rw[<-c];exact(NJ w).symm
  rw[<-e];have u:=(mX h.ok (GC D) (by rw[BT,Oo]) h.sm).2.2;rw[<-e]at u;exact am (aJ (ak rfl (z0 (by lia) (by lia) (by lia) u)) ⟨rfl,rfl⟩)
theorem lz{W:Wy}{L:D}{rs cs:a0a}:(de K a).1 [bC a W L rs cs] β=My (.ok (.int ((js W cs.length 0 rs:Nat):Int)),β):=
 aK (am (aJ (dq (bA rfl (aa rfl (aa (ai (aa (iO rfl rfl) rfl) rfl) rfl)) (cat_ok (k:=0) (N2 _) (Nq.mpr rfl))) rfl o7) ⟨rfl,rfl⟩))
theorem J9{b:Nat}(h:lj K a rs cs W L)(D:b<js W cs.length 0 rs):(cX K a).1 [bC a W L rs cs,.int (b:Int)] β=My (.ok (aG (tp rs.length ((U_ W cs.length 0 rs b).map nI))),β):=by
 have M:=h.c1;have P:=h.c6;have H:=h.nr.2.1;unfold cX
 dsimp only
 refine aK ?_;refine jf (ak (aa rfl (aa (bA rfl rfl lz) rfl)) (DA D)) ?_;refine aC (d:=tN rs) (β1:=β) (ai (aa (bA rfl rfl gr) rfl) (kd rs)) ?_;refine pE (ds:=[]) (β1:=β) rfl (N2 _) ?_;refine bT (ds:=aZ 0 cs.length) (β1:=β) (bE (aa (ai (aa (bA rfl rfl ny) rfl) (jx cs)) rfl) (w_ (by lia) (by lia))) (λi E j=>β=j/\∃w r,∃n:Nat,∃l m o,E=[My (.sh (bC a W L rs cs)),My (.sh (.int (n:Int))),My (.sh (tN r)),My (.own (w.map tN)),l,m,o]/\w.length=i/\r∈hO W rs i/\n<js W (cs.length-i) i r/\w++U_ W (cs.length-i) i r n=U_ W cs.length 0 rs b) ⟨rfl,[],rs,b,ME,ME,ME,rfl,rfl,Nq.mpr rfl,D,rfl⟩ ?_ ?_
 .rintro i d E _ hd ⟨rfl,w,r,n,l,m,o,rfl,p,g,D,c⟩
  obtain⟨A,rfl⟩:=tW hd;have q:cs.length-i=(cs.length-(i+1))+1:=by lia
  rw[q,<-Ge]at D;rw[q]at c;obtain⟨B,C⟩:=mF D;have t:=(Of.mp B).1;have G:=cS ((h.ok i r).subset t);obtain⟨u,_,F⟩:=h.at (by lia) g;have f:=Ng G.sum F;have I:=xW (k:=i) h u;refine⟨_,rfl,aC (d:= .lst ((sT W cs i r).map λv=> .tup [tN v,.int ((mB W cs i r v:Nat):Int)])) (β1:=β) (bo (sT W cs i r) (WX W (cs.length-(i+1)) i r) _ (cL (ak rfl (uB h A g)) rfl) (λv _=>⟨[My (tN v),My (.int ((tB W cs i r v:Nat):Int)),My (.int ((mB W cs i r v:Nat):Int))],rfl,ai rfl fU⟩) (bh (by lia))) ?_⟩;refine pG (ak rfl (vL (mB W cs i r) (sT W cs i r) D)) rfl ?_;refine fG (z:= .int (((k_ (mB W cs i r) (sT W cs i r) n).2/mu (k_ (mB W cs i r) (sT W cs i r) n).1:Nat):Int)) rfl (ak rfl (mY (.inr rfl) f)) (by rw[pB];exact GK (BF _) (fq (yq f) (by decide))) ?_;refine pI (cs:=w.map tN) rfl rfl (Nm (show _<1000 by rw[MD];lia) (by decide)) (am (aC (ak rfl (jP G u.2.1)) (bp ⟨rfl,w++[(k_ (mB W cs i r) (sT W cs i r) n).1],less r (k_ (mB W cs i r) (sT W cs i r) n).1,(k_ (mB W cs i r) (sT W cs i r) n).2/mu (k_ (mB W cs i r) (sT W cs i r) n).1,_,_,_,by rw[NH];rfl,by rw[Nb,p];rfl,h.nx g t,VZ C,by rw[N4];exact c⟩)))
 .rintro E _ ⟨rfl,w,r,n,l,m,o,rfl,p,g,_,c⟩
  rw[mj]at p c;rw[Rz]at c;have e:w=U_ W cs.length 0 rs b:=by rw[<-c];exact(NJ w).symm
  rw[<-e];have y:=(mX h.ok (GD D) (by rw[BU,Oo]) h.sm).2.2;rw[<-e]at y;exact am (aJ (ak rfl (z0 (by lia) (by lia) (by lia) y)) ⟨rfl,rfl⟩)
theorem zu{i:Nat}{w:a0H}{f:FD}{h:G}{a:Ds}{β1:Bg}{Q:a0v}{C:MK}{c:D}(b:(vw a).getD i ME=My c)(e:f (vw a) β=My (.error C,β1))(q:Q (.ex C a) β1):Gw (ay (rG i w f) h) a β Q:=pC (by unfold rG;simp only[b,e]) q
theorem zt{w:Ds->M a0d}{D:F_}{g h:G}{a:Ds}{β1:Bg}{Q:a0v}{C:MK}(e:w a β=My (.error C,β1))(q:Q (.ex C a) β1):Gw (ay (lw w D g) h) a β Q:=pC (by unfold lw;simp only[e]) q
theorem Ix{w:a0H}{b c:FD}{a:Dn}{β1:Bg}{C:MK}(e:b a β=My (.error C,β1)):f2 w b c a β=My (.error C,β1):=by unfold f2 M.bind;rw[e]
theorem X5{E:a0H}{b c:FD}{w:Dn}{β1 a:Bg}{C:MK}{x:D}(d:b w β=My (.ok x,β1))(e:c w β1=My (.error C,a)):f2 E b c w β=My (.error C,a):=by unfold f2 M.bind;rw[d];simp only[e]
theorem wn{b:FD}{fl:FL}{a:Dn}{β1:Bg}{C:MK}(e:b a β=My (.error C,β1)):ae b fl a β=My (.error C,β1):=by unfold ae M.bind;rw[e]
theorem DU{f:FD}{a:Dn}{j:Dn->M Unit}{x:Int}(b:f a β=My (.ok (.int x),β))(h:x.natAbs.log2<1920)(c:j a β=My (.ok (),β)):yF f j a β=My (.ok (),β):=by
 unfold yF M.bind;rw[b];simp only[h,NN,c]
theorem X4{f:FD}{a:Dn}{j:Dn->M Unit}{u:a0c}(b:f a β=My (.ok (i_ u),β))(h:wh u=MH)(c:j a β=My (.ok (),β)):yE f j a β=My (.ok (),β):=by
 unfold yE M.bind;rw[b];simp only[qE,h,NN,c]
theorem qw{x:Int}{m:Nat}(h:x.natAbs<=2^m)(a:m<=1900):x.natAbs.log2<1920:=by
 by_cases z:x.natAbs=0
 .rw[z];decide
 .exact(Uf z).mpr (ON (Ng h (Rf (by decide) a)) (V1 (by decide) (by decide)))
theorem KJ{k:Int}{m:Nat}(h:¬(0<=k/\k<(m:Int)))(b:k.natAbs.log2<1920)(w:(m:Int).natAbs.log2<1920):(d7 K a).1 [.int k,.int (m:Int)] β=My (.error a.Ae,β):=by
 unfold d7
 dsimp only
 refine aK (am (gJ (c:=!(decide (0<=k)&&decide (k<(m:Int)))) (β1:=β) (gY (hE (rW rfl rfl rfl))) ?_));have e:(decide (0<=k)&&decide (k<(m:Int)))=ML:=by
  rw[WE];simpa using h
 rw[e,SN,MU rfl];exact mZ (aa (zo (DU rfl b (DU rfl w rfl))) rfl) ⟨rfl,rfl⟩
theorem YQ{k:Int}(h:¬(0<=k/\k<((j1 W cs.length 0 rs:Nat):Int)))(b:k.natAbs.log2<1920)(w:((j1 W cs.length 0 rs:Nat):Int).natAbs.log2<1920):(dT K a).1 [bC a W L rs cs,.int k] β=My (.error a.Ae,β):=by
 unfold dT
 dsimp only
 refine aK ?_;exact qW (ak (aa rfl (aa (bA rfl rfl kg) rfl)) (KJ h b w)) ⟨rfl,rfl⟩
theorem YS{k:Int}(h:¬(0<=k/\k<((js W cs.length 0 rs:Nat):Int)))(b:k.natAbs.log2<1920)(w:((js W cs.length 0 rs:Nat):Int).natAbs.log2<1920):(cX K a).1 [bC a W L rs cs,.int k] β=My (.error a.Ae,β):=by
 unfold cX
 dsimp only
 refine aK ?_;exact qW (ak (aa rfl (aa (bA rfl rfl lz) rfl)) (KJ h b w)) ⟨rfl,rfl⟩
theorem ahR{k:Nat}{r:a0a}{u:a0c}(h:lj K a rs cs W L)(A:k<cs.length)(o:r∈hO W rs k)(B:wh u=MH):∃g,(dJ K a).1 [bC a W L rs cs,.int (k:Int),tN r,i_ u] β=My (g,β)/\((∃v∈sT W cs k r,nI v=u/\∃t d:Nat,g= .ok (.tup [.int (t:Int),.int (d:Int)])/\d<=2^160)\/(g= .error a.Ah/\∀v∈sT W cs k r,nI v≠u)):=by
 suffices q:∃g b,(dJ K a).1 [bC a W L rs cs,.int (k:Int),tN r,i_ u] β=My (g,b)/\β=b/\((∃v∈sT W cs k r,nI v=u/\∃t d:Nat,g= .ok (.tup [.int (t:Int),.int (d:Int)])/\d<=2^160)\/(g= .error a.Ah/\∀v∈sT W cs k r,nI v≠u)) by
  obtain⟨g,_,e,rfl,z⟩:=q;exact⟨g,e,z⟩
 have D:L2.Nt.sm (sT W cs k r) (mB W cs k r)<=2^160:=Ng (uD (g:=mB W cs k r) Rk λ_ _=>MW _) (by
  have:=yY h (by lia) o;rw[show cs.length-k=(cs.length-(k+1))+1 by lia]at this;exact this)
 unfold dJ
 dsimp only
 refine gF ?_;refine aC (d:= .int 0) (β1:=β) rfl (aC (d:= .int 0) (β1:=β) rfl ?_);refine bT (ds:=(sT W cs k r).map (WX W (cs.length-(k+1)) k r)) (β1:=β) (cL (ak rfl (uB h A o)) rfl) (λi w b=>β=b/\∃t d:Nat,∃j l n,w=[My (.sh (bC a W L rs cs)),My (.sh (.int (k:Int))),My (.sh (tN r)),My (.sh (i_ u)),My (.sh (.int (t:Int))),My (.sh (.int (d:Int))),j,l,n]/\d+L2.Nt.sm ((sT W cs k r).drop i) (mB W cs k r)=L2.Nt.sm (sT W cs k r) (mB W cs k r)/\∀v∈(sT W cs k r).take i,nI v≠u) ⟨rfl,0,0,ME,ME,ME,rfl,Oo _,λv f=>by cases f⟩ ?_ ?_
 .rintro i _ w _ hd ⟨rfl,t,d,j,l,n,rfl,e,hm⟩
  obtain⟨v,f,rfl⟩:=bP hd;obtain⟨p,rfl⟩:=MR.mp f;rw[NR p,bu]at e;refine⟨_,rfl,gJ (β1:=β) (hE (dq rfl rfl (Mr (nI (sT W cs k r)[i]) u))) ?_⟩;by_cases z:nI (sT W cs k r)[i]=u
  .rw[MU (M3 z)]
   exact aJ (ai rfl fU) ⟨rfl,.inl ⟨_,NB p,z,t,d,rfl,by lia⟩⟩
  .rw[MS (λy=>z (O5 y))]
   refine bD (fG (z:= .int ((t+tB W cs k r (sT W cs k r)[i]:Nat):Int)) rfl rfl rfl (am (fG (z:= .int ((d+mB W cs k r (sT W cs k r)[i]:Nat):Int)) rfl rfl rfl (bp ⟨rfl,_,_,_,_,_,rfl,by lia,λv c=>?_⟩))));rw[QV,f]at c;rcases NP.mp c with y|y
   .exact hm v y
   .cases Nq.mp y;exact z
 .rintro w _ ⟨rfl,t,d,j,l,n,rfl,e,hm⟩
  rw[MD,PR]at hm;exact am (mZ (aa (zo (X4 rfl B (DU rfl (qw (m:=1000) (Ng (show k<=6 by have:=h.c6;lia) (Ng (by decide:6<=2^3) (Rf (by decide) (by decide)))) (by decide)) rfl))) rfl) ⟨rfl,.inr ⟨rfl,hm⟩⟩)
def Gk(W:Wy)(k:Nat)(r:a0a)(w:LI):Prop:=∃a,w=a.map nI/\Wk W k r a
theorem Gk.nx{k:Nat}{r v:a0a}{D:LI}(c:v∈sT W cs k r):Gk W k r (nI v::D)↔Gk W (k+1) (less r v) D:=by
 constructor
 .rintro⟨a,e,b⟩
  cases a with
  |nil=>cases e
  |cons w a=>
   rw[MZ]at e;cases jm (SH e).1;exact⟨a,(SH e).2,b.2⟩
 .rintro⟨a,rfl,b⟩
  exact⟨v::a,rfl,(Of.mp c).1,b⟩
theorem Gk.no{k:Nat}{r:a0a}{u:a0c}{a:LI}(b:a.length=cs.length-(k+1))(h:∀v∈sT W cs k r,nI v≠u):¬Gk W k r (u::a):=by
 rintro⟨D,e,c⟩;cases D with
 |nil=>cases e
 |cons w D=>
  rw[MZ]at e;exact h w (K4 c (by rw[<-b,(SH e).2,MD])) (SH e).1.symm
theorem Yb{a:LI}(w:e_ rs.length cs.length a):(tp cs.length a).length=cs.length:=(i7 (d:=(0:Int)) (c:=cs.length) w.1).1
theorem YA{w:LI}(h:lj K a rs cs W L)(G:e_ rs.length cs.length w)(m:∀u∈tp cs.length w,wh u=MH):∃g,(dS K a).1 [bC a W L rs cs,aG w] β=My (g,β)/\((Gk W 0 rs (tp cs.length w)/\∃d,g= .ok d)\/(¬Gk W 0 rs (tp cs.length w)/\g= .error a.Ah)):=by
 suffices q:∃g b,(dS K a).1 [bC a W L rs cs,aG w] β=My (g,b)/\β=b/\((Gk W 0 rs (tp cs.length w)/\∃d,g= .ok d)\/(¬Gk W 0 rs (tp cs.length w)/\g= .error a.Ah)) by
  obtain⟨g,_,e,rfl,z⟩:=q;exact⟨g,e,z⟩
 have s:=h.c6;have S:=Yb G;unfold dS
 dsimp only
 refine gF ?_;refine aC (d:=tN rs) (β1:=β) (ai (aa (bA rfl rfl gr) rfl) (kd rs)) ?_;refine aC (d:= .int 0) (β1:=β) rfl ?_;refine bT (ds:=cU 0 ((tp cs.length w).map i_)) (β1:=β) (bE (aa (ak rfl (v9 h.toNt0 G)) rfl) rfl) (λi E b=>β=b/\∃r,∃D:Nat,∃j k,E=[My (.sh (bC a W L rs cs)),My (.sh (aG w)),My (.sh (tN r)),My (.sh (.int (D:Int))),j,k]/\r∈hO W rs i/\(Gk W 0 rs (tp cs.length w)↔Gk W i r ((tp cs.length w).drop i))) ⟨rfl,rs,0,ME,ME,rfl,Nq.mpr rfl,.rfl⟩ ?_ ?_
 .rintro i _ E _ hd ⟨rfl,r,D,j,k,rfl,f,c⟩
  obtain⟨_,n,rfl⟩:=n5 hd;obtain⟨u,o,rfl⟩:=bP n;obtain⟨l,rfl⟩:=MR.mp o;rw[NR l]at c;have p:((tp cs.length w).drop (i+1)).length=cs.length-(i+1):=by rw[Sf,S]
  obtain⟨g,e,⟨v,M,z,t,d,rfl,_⟩|⟨rfl,z⟩⟩:=ahR (β:=β) h (by lia) f (m _ (NB l))
  .rw[<-z]at c e⊢
   have A:=(h.at (by lia) f).1;have P:=(Of.mp M).1;have V:=cS ((h.ok i r).subset P);exact⟨_,rfl,fG (z:= .int ((D+t:Nat):Int)) rfl (dq (ak rfl e) rfl rC) rfl (am (aC (ak rfl (jP V A.2.1)) (bp ⟨rfl,less r v,_,_,_,rfl,h.nx f P,c.trans (Gk.nx M)⟩)))⟩
  .exact⟨_,rfl,zu rfl (Ix (ak rfl e)) ⟨rfl,.inr ⟨λy=>Gk.no p z (c.mp y),rfl⟩⟩⟩
 .rintro E _ ⟨rfl,r,D,j,k,rfl,f,c⟩
  rw[jW,MD,Q3]at c;exact am (aJ rfl ⟨rfl,.inl ⟨c.mpr ⟨[],rfl,trivial⟩,_,rfl⟩⟩)
theorem Yo{w:LI}(h:lj K a rs cs W L)(G:e_ rs.length cs.length w)(A:∀u∈tp cs.length w,wh u=MH):∃g,(fm K a).1 [bC a W L rs cs,aG w] β=My (g,β)/\((Gk W 0 rs (tp cs.length w)/\∃d,g= .ok d)\/(¬Gk W 0 rs (tp cs.length w)/\g= .error a.Ah)):=by
 suffices q:∃g b,(fm K a).1 [bC a W L rs cs,aG w] β=My (g,b)/\β=b/\((Gk W 0 rs (tp cs.length w)/\∃d,g= .ok d)\/(¬Gk W 0 rs (tp cs.length w)/\g= .error a.Ah)) by
  obtain⟨g,_,e,rfl,z⟩:=q;exact⟨g,e,z⟩
 have s:=h.c6;have V:=Yb G;unfold fm
 dsimp only
 refine gF ?_;refine aC (d:=tN rs) (β1:=β) (ai (aa (bA rfl rfl gr) rfl) (kd rs)) ?_;refine aC (d:= .int 0) (β1:=β) rfl (aC (d:= .int 1) (β1:=β) rfl ?_);refine bT (ds:=cU 0 ((tp cs.length w).map i_)) (β1:=β) (bE (aa (ak rfl (v9 h.toNt0 G)) rfl) rfl) (λi E b=>β=b/\∃r,∃D j:Nat,∃l m,E=[My (.sh (bC a W L rs cs)),My (.sh (aG w)),My (.sh (tN r)),My (.sh (.int (D:Int))),My (.sh (.int (j:Int))),l,m]/\r∈hO W rs i/\j<=2^(160*i)/\(Gk W 0 rs (tp cs.length w)↔Gk W i r ((tp cs.length w).drop i))) ⟨rfl,rs,0,1,ME,ME,rfl,Nq.mpr rfl,MW _,.rfl⟩ ?_ ?_
 .rintro i _ E _ hd ⟨rfl,r,D,j,l,m,rfl,k,n,c⟩
  obtain⟨_,B,rfl⟩:=n5 hd;obtain⟨u,C,rfl⟩:=bP B;obtain⟨o,rfl⟩:=MR.mp C;rw[NR o]at c;have F:((tp cs.length w).drop (i+1)).length=cs.length-(i+1):=by rw[Sf,V]
  have p:j<2^1000:=fq n (by lia);obtain⟨g,e,⟨v,M,z,t,d,rfl,H⟩|⟨rfl,z⟩⟩:=ahR (β:=β) h (by lia) k (A _ (NB o))
  .rw[<-z]at c e⊢
   obtain⟨I,_,J⟩:=h.at (by lia) k;have P:=(Of.mp M).1;have S:=cS ((h.ok i r).subset P);have f:v.sum<=40:=Ng S.sum J;refine⟨_,rfl,fG (z:= .int ((D+j*d:Nat):Int)) rfl (dq rfl (dq (ak rfl e) rfl o7) (rp p (fq H (by decide)))) rfl (fG rfl (ak rfl (mY (.inr rfl) f)) (rp p (fq (lS f) (by decide))) (am (aC (ak rfl (jP S I.2.1)) (bp ⟨rfl,less r v,_,_,_,_,rfl,h.nx k P,?_,c.trans (Gk.nx M)⟩))))⟩;rw[Nat.mul_succ,Nat.pow_add];exact Nat.mul_le_mul n (lS f)
  .exact⟨_,rfl,zu rfl (X5 rfl (Ix (ak rfl e))) ⟨rfl,.inr ⟨λy=>Gk.no F z (c.mp y),rfl⟩⟩⟩
 .rintro E _ ⟨rfl,r,D,j,l,m,rfl,k,n,c⟩
  rw[jW,MD,Q3]at c;exact am (aJ (ai (aa rfl (aa (dq rfl rfl rfl) rfl)) fU) ⟨rfl,.inl ⟨c.mpr ⟨[],rfl,trivial⟩,_,rfl⟩⟩)
theorem sV{a_:a0o}(h:a_.length<=1000):(eE K a).1 [lG a_] β=My (.ok (lG a_),β):=
 aK (am (aJ (bo a_ D.lst D.lst rfl (λx _=>⟨_,rfl,rfl⟩) (bh h)) ⟨rfl,rfl⟩))
theorem BQ{r c:Nat}(d:r<=1000)(e:c<=1000):mw K a [.int (r:Int),.int (c:Int)] β=My (.ok (gP (nW r c)),β):=by
 have b:∀x:Nat,iq 1 [] (cK gm (ae (ag 1) (az))) (h8 0) (λ_=>M.ret MH) (lB (br hZ (ae (fC (.int 0)) (ae (fC (.int 40)) (az))))) [My (.int (0+(x:Int))),My (.int (c:Int))] β=My (.ok ((Nd c ((0:Int),(40:Int))).map pD),β):=λx=>by
  have h:=CZ (nv:=1) (cx:=[]) (it:=cK gm (ae (ag 1) (az))) (tg:=h8 0) (f:=br hZ (ae (fC (.int 0)) (ae (fC (.int 40)) (az)))) (δ:=[My (.int (0+(x:Int))),My (.int (c:Int))]) (β:=β) (MX c) (λi=>D.int (0+(i:Int))) (λ_=>pD (0,40))
   (bE rfl (w_ (by lia) (by lia))) (λx _=>⟨_,rfl,ai rfl fU⟩) (bh (by rw[Nr];lia))
  rw[jT]at h;rw[Pg];exact h
 have h:=mK (nv:=1) (cx:=[1]) (it:=cK gm (ae (ag 0) (az))) (tg:=h8 0) (f:=iq 1 [] (cK gm (ae (ag 1) (az))) (h8 0) (λ_=>M.ret MH) (lB (br hZ (ae (fC (.int 0)) (ae (fC (.int 40)) (az)))))) (δ:=[My (.int (r:Int)),My (.int (c:Int))]) (β:=β) (MX r) (λi=>D.int (0+(i:Int))) (λ_=>(Nd c ((0:Int),(40:Int))).map pD)
  (bE rfl (w_ (by lia) (by lia))) (λx _=>⟨_,rfl,b x⟩) (bh (by rw[Nr];lia))
 rw[jT]at h;refine xz (am (wr h ⟨rfl,?_⟩));show gP (nW r c)=_;show NZ _ _=_;rw[Pg]
abbrev Xe(a_:LI)(b:LP)(c d e f g:a0O):Ds:=[My (.sh .bag),My (.sh (aG a_)),My (.grd (gP b)),c,d,e,f,g]
def BdI(r c:Nat)(a_:LI)(d e:a0O)(a:Ds)(β:Bg):Prop:=β.ok/\∃(b:LP) (f g h:a0O),a=Xe a_ b d e f g h/\u_ r c b/\Kp a_ b
theorem yA{r c:Nat}{a_:LI}(t:V_ r c a_)(ok:β.ok):∃(b:LP) (f:Bg),(gy K a).1 [.bag,aG a_] β=My (.ok (c8 b),f)/\u_ r c b/\Kp a_ b/\f.ok:=by
 suffices h:∃g f,(gy K a).1 [.bag,aG a_] β=My (g,f)/\(∃(b:LP),g= .ok (c8 b)/\u_ r c b/\Kp a_ b/\f.ok) by
  obtain⟨g,f,e,b,rfl,S,V⟩:=h;exact⟨b,f,e,S,V⟩
 have r1:=t.r1;have c1:=t.c1;have c0:=t.c0;have r0:=t.r0;obtain⟨F,H,I⟩:=t.shp.at (i:=0) (by lia);have W:(gI a_)[0]?=My (F.map D.int):=by rw[MM,H];rfl
 unfold gy
 dsimp only
 refine gF ?_;refine xH (β1:=β) (wq (as:=[.int (r:Int),.int (c:Int)]) (β1:=β) (aa (ai rfl (my (by rw[MD,t.shp.1]))) (aa (ai (aa (x:= .lst (F.map D.int)) (dq rfl rfl (nG W)) rfl) (bG (by rw[MD,I]))) rfl)) (BQ (by lia) (by lia))) (JS _) ?_;obtain⟨s,β1,p1,a0,a1,R⟩:=bv ok (lot:=3) (by decide) (by decide);refine gJ (c:=decide (s=0)) (β1:=β1) (hE (dq (ak rfl p1) rfl eq_int)) ?_;by_cases hw:s=0
 .rw[MU (by simpa using hw)]
  exact aJ rfl ⟨_,rfl,u_.free r c,Kp.free t,R⟩
 rw[MS (by simpa using hw)];refine bD ?_;refine bT (ds:=cU 0 ((gI a_).map D.lst)) (β1:=β1) rfl (λ_ M β=>∃z s4,BdI r c a_ z s4 M β) ⟨ME,ME,R,nW r c,ME,ME,ME,rfl,u_.free r c,Kp.free t⟩ ?_ ?_
 .rintro i d M β2 hd ⟨z,s4,J,b,Y,Z,T,rfl,o,B⟩
  obtain⟨x,hx,rfl⟩:=n5 hd;obtain⟨y,hy,rfl⟩:=bP hx;obtain⟨E,m,rfl⟩:=bP hy;have hi:i<r:=by rw[<-t.shp.1];exact(MR.mp m).1
  have U:E.length=c:=t.shp.2 E (M2 m);refine⟨Xe a_ b (My (.sh (.int i))) (My (.sh (.lst (E.map D.int)))) Y Z T,rfl,am ?_⟩;refine bT (ds:=cU 0 (E.map D.int)) (β1:=β2) rfl (λ_=>BdI r c a_ (My (.sh (.int i))) (My (.sh (.lst (E.map D.int))))) ⟨J,b,Y,Z,T,rfl,o,B⟩ ?_ (λM β h=>bp ⟨_,_,h⟩);rintro j d M ae hd ⟨ab,b,Y,Z,T,rfl,o,B⟩;obtain⟨x,hx,rfl⟩:=n5 hd;obtain⟨n,hn,rfl⟩:=bP hx;have hj:j<c:=by rw[<-U];exact(MR.mp hn).1
  have ad:=t.le40 E (M2 m) n (M2 hn);obtain⟨q,l,L⟩:=o.shp.at hi;refine⟨Xe a_ b (My (.sh (.int i))) (My (.sh (.lst (E.map D.int)))) (My (.sh (.int j))) (My (.sh (.int n))) T,rfl,?_⟩;obtain⟨w,A,p4,s,w1,N⟩:=bv ab (lot:=4) (by decide) (by decide);refine aC (d:= .int w) (β1:=A) (ak rfl p4) ?_
  have P:∀(p:Int×Int) (M:Ds),pj p->p.1<=n->n<=p.2->∀{β5:Bg} {fv:FD} {h:G} {Q:a0v},fv (fc (Xe a_ b (My (.sh (.int i))) (My (.sh (.lst (E.map D.int)))) (My (.sh (.int j))) (My (.sh (.int n))) (My (.sh (.int w))))) A=My (.ok (pD p),β5)->
    (∀b,u_ r c b->Kp a_ b->Gw h (Xe a_ b (My (.sh (.int i))) (My (.sh (.lst (E.map D.int)))) (My (.sh (.int j))) (My (.sh (.int n))) (My (.sh (.int w)))) β5 Q)->
    Gw (ay (lq 2 (ag 3) (ag 5) fv) h) (Xe a_ b (My (.sh (.int i))) (My (.sh (.lst (E.map D.int)))) (My (.sh (.int j))) (My (.sh (.int n))) (My (.sh (.int w)))) A Q:=λp M hp S V β5 fv h Q e k=>by
   refine xG (d:=pD p) (a_:=gP b) (ds:=q.map pD) (ka:=i) (kb:=j) (ja:=i) (jb:=j) e rfl rfl rfl ?_ ?_ ?_ rfl ?_
   .rw[MD,o.shp.1];exact kD (by lia) (by lia)
   .rw[MM,l];rfl
   .rw[MD,L];exact kD (by lia) (by lia)
   .have X:(gP b).set i ((q.map pD).set j (pD p))=gP (b.set i (q.set j p)):=by
     show _=NZ _ _;rw[Pw,Pw]
    rw[X];exact k _ (o.set l hp) (B.set l (iz m hn) S V)
  refine gJ (c:=decide (w=0)) (β1:=A) (hE (dq rfl rfl eq_int)) ?_;by_cases q0:w=0
  .rw[MU (by simpa using q0)]
   obtain⟨u,β5,p5,u0,u1,ac⟩:=bv N (lot:=n+1) (by lia) (by lia);obtain⟨v,C,p6,v0,v1,O⟩:=bv ac (lot:=3) (by decide) (by decide);refine P (n-u,Rx 40 (n+v)) [] ⟨by show 0<=n-u;lia,by show n-u<=Rx 40 (n+v);lia,by show Rx 40 (n+v)<=40;lia⟩ (by show n-u<=n;lia) (by show n<=Rx 40 (n+v);lia) (β5:=C) ?_ λb o B=>?_
   .exact ai (aa (dq rfl (ak (aa rfl (aa (dq rfl rfl rfl) rfl)) p5) rfl) (aa (ai (aa rfl (aa (dq rfl (ak rfl p6) rfl) rfl)) EX) rfl)) fU
   .refine am (gZ (β1:=C) ?_ (bD (bp ⟨O,b,_,_,_,rfl,o,B⟩)))
    rw[show(ML:Bool)=decide (w=1) by rw[q0];rfl];exact hE (dq rfl rfl eq_int)
  .rw[MS (by simpa using q0)]
   refine bD (am (gJ (c:=decide (w=1)) (β1:=A) (hE (dq rfl rfl eq_int)) ?_));by_cases q1:w=1
   .rw[MU (by simpa using q1)]
    obtain⟨v,C,p6,v0,v1,O⟩:=bv N (lot:=3) (by decide) (by decide);refine P (0,VO n v) [] ⟨by show(0:Int)<=0;lia,by show 0<=VO n v;lia,by show VO n v<=40;lia⟩ (by show 0<=n;lia) (by show n<=VO n v;lia) (β5:=C) ?_ λb o B=>bp ⟨O,b,_,_,_,rfl,o,B⟩;exact ai (aa rfl (aa (ai (aa rfl (aa (ak rfl p6) rfl)) JZ) rfl)) fU
   .rw[MS (by simpa using q1)]
    exact bD (bp ⟨N,b,_,_,_,rfl,o,B⟩)
 .rintro M β2 ⟨z,s4,J,b,Y,Z,T,rfl,o,B⟩
  exact am (aJ rfl ⟨b,rfl,o,B,J⟩)
theorem pK:∀{xs:a0c},(∀x∈xs,0<=x)->∃l:a0a,xs=nI l
 |[],_=>⟨[],rfl⟩
 |x::xs,h=>by
  obtain⟨l,e⟩:=pK λy b=>h y (MJ _ b);have:=h x MP;exact⟨x.toNat::l,by rw[e];show _=((x.toNat:Nat):Int)::_;rw[Int.toNat_of_nonneg this]⟩
abbrev gdS(r c t:Nat)(a_:LI)(b d e:a0O):Ds:=[My (.sh .bag),My (.sh (.int (r:Int))),My (.sh (.int (c:Int))),My (.sh (.int (t:Int))),My (.grd (gI a_)),b,d,e]
theorem nV{r c t:Nat}(E:β.ok)(G:1<=r)(M:r<=4)(P:1<=c)(S:c<=6)(F:t<=40):∃(a_:LI) (j:Bg),k7 K a [.bag,.int (r:Int),.int (c:Int),.int (t:Int)] β=My (.ok (aG a_),j)/\(V_ r c a_/\tot a_=(t:Int))/\j.ok:=by
 suffices h:∃g j,k7 K a [.bag,.int (r:Int),.int (c:Int),.int (t:Int)] β=My (g,j)/\(∃(a_:LI),g= .ok (aG a_)/\(V_ r c a_/\tot a_=(t:Int))/\j.ok) by
  obtain⟨g,j,e,a_,rfl,H,I⟩:=h;exact⟨a_,j,e,H,I⟩
 refine gF ?_;unfold pb;refine xH (a_:=(MX r).map λ_=>Nd c (D.int 0)) (β1:=β) (mK (MX r) (λi=>D.int (0+(i:Int))) _ (bE (ds:=aZ 0 r) rfl (w_ (by lia) (by lia))) (λx _=>⟨_,rfl,Gr (x:= .int 0) (c:=c) rfl rfl (by lia)⟩) (bh (by rw[Nr];lia))) ?_ ?_
 .rw[OR]
  intro x k;obtain⟨_,_,rfl⟩:=M8.mp k;rw[<-Pg (f:=D.int)];exact jS _
 have J:(MX r).map (λ_=>Nd c (D.int 0))=gI (Nd r (Nd c 0)):=by
  show _=NZ _ _;rw[Pg,List.map_const',Pg,Nr]
 rw[J];refine bT (ds:=aZ 0 t) (β1:=β) (bE rfl (w_ (by lia) (by lia))) (λi w β=>β.ok/\∃a_ p q y,w=gdS r c t a_ p q y/\e_ r c a_/\(∀row∈a_,∀x∈row,0<=x)/\tot a_=(i:Int)) ⟨E,Nd r (Nd c 0),ME,ME,ME,rfl,⟨by simp,λrow h=>?_⟩,λrow h x k=>?_,?_⟩ ?_ ?_
 .rw[(OY.mp h).2];simp
 .rw[(OY.mp h).2]at k
  rw[(OY.mp k).2];exact VW _
 .unfold tot
  rw[Pg];have z:∀n:Nat,(Nd n (0:Int)).sum=0:=λn=>by
   induction n with
   |zero=>rfl
   |succ n V=>rw[Ox,Nn,V];rfl
  rw[z,z];rfl
 .rintro i d w j hd ⟨m,a_,p,q,y,rfl,sh,nn,F⟩
  obtain⟨v,β1,L,O,Q,A⟩:=bv m (lot:=(r:Int)) (by lia) (by lia);obtain⟨u,β2,N,R,T,B⟩:=bv A (lot:=(c:Int)) (by lia) (by lia);obtain⟨v,rfl⟩:∃n:Nat,v=(n:Int):=⟨v.toNat,by lia⟩;obtain⟨u,rfl⟩:∃n:Nat,u=(n:Int):=⟨u.toNat,by lia⟩;obtain⟨row,b,o⟩:=sh.at (i:=v) (by lia);obtain⟨x,k⟩:=zf (l:=row) (i:=u) (by lia);refine⟨_,rfl,aC (ak rfl L) (aC (ak rfl N) (am (xG (d:= .int (x+1)) (β1:=β2) (β2:=β2) (β3:=β2) (a_:=gI a_) (ds:=row.map D.int) (ka:=v) (kb:=u) (ja:=v) (jb:=u) (dq (dq (dq rfl rfl (nG (row:=row.map D.int) ?_)) rfl (cw (d:= .int x) ?_)) rfl rfl) rfl rfl rfl ?_ ?_ ?_ rfl (bp ⟨B,a_.set v (row.set u (x+1)),My (.sh d),My (.sh (.int (v:Int))),My (.sh (.int (u:Int))),?_,sh.set b,JT nn b ?_,?_⟩))))⟩
  .rw[MM,b];rfl
  .rw[MM,k];rfl
  .rw[MD,sh.1];exact kD (by lia) (by lia)
  .rw[MM,b];rfl
  .rw[MD,o];exact kD (by lia) (by lia)
  .show[_,_,_,_,My (Sl.grd ((gI a_).set v ((row.map D.int).set u (.int (x+1))))),_,_,_]=_
   rw[show(gI a_).set v ((row.map D.int).set u (.int (x+1)))=gI (a_.set v (row.set u (x+1))) by show _=NZ _ _;rw[Pw,Pw]]
  .have:=nn row (M2 b) x (M2 k)
   lia
  .have:=G5 (v:=x+1) b k
   lia
 .rintro w j ⟨m,a_,p,q,y,rfl,sh,nn,C⟩
  rw[mj]at C;exact am (aJ rfl ⟨a_,rfl,⟨⟨sh,nn,by lia,G,M,P,S⟩,C⟩,m⟩)
def ZM(r c:Nat)(a:LI):Prop:=V_ r c a/\tot a<=7
theorem Ev(W:β.ok):∃(a_:LI) (r c:Nat) (b:Bg),(ii K a).1 [.bag] β=My (.ok (aG a_),b)/\ZM r c a_/\b.ok:=by
 suffices h:∃g b,(ii K a).1 [.bag] β=My (g,b)/\(∃(a_:LI) (r c:Nat),g= .ok (aG a_)/\ZM r c a_/\b.ok) by
  obtain⟨g,b,e,a_,r,c,rfl,v,A⟩:=h;exact⟨a_,r,c,b,e,v,A⟩
 unfold ii
 dsimp only
 refine gF ?_;have p:∀(k n:Nat),j9 (.int (k:Int)) (.int (n:Int))=My (.int ((k+n:Nat):Int)):=λk n=>by show My (D.int _)=_;rw[SG]
 obtain⟨y,β1,B,x,z,j⟩:=bv W (lot:=8) (by decide) (by decide);refine aC (ak rfl B) ?_;refine gJ (β1:=β1) (hE (dq rfl rfl eq_int)) ?_;by_cases L:y=0
 .rw[MU (M3 L)]
  obtain⟨t,w,l,q,G,d⟩:=bv j (lot:=5) (by decide) (by decide);obtain⟨t,rfl⟩:∃n:Nat,t=(n:Int):=⟨t.toNat,by lia⟩;obtain⟨a_,E,e,g,f⟩:=nV (K:=K) (a:=a) (r:=4) (c:=6) (t:=t) d (by decide) (by decide) (by decide) (by decide) (by lia);exact aJ (ak (aa rfl (aa rfl (aa rfl (aa (ak rfl l) rfl)))) e) ⟨a_,4,6,rfl,⟨g.1,by lia⟩,f⟩
 rw[MS (by simp[L])];refine bD ?_;refine gJ (β1:=β1) (hE (dq rfl rfl eq_int)) ?_;by_cases M:y=1
 .rw[MU (M3 M)]
  obtain⟨c,w,l,q,G,d⟩:=bv j (lot:=6) (by decide) (by decide);obtain⟨t,E,m,P,S,f⟩:=bv d (lot:=8) (by decide) (by decide);obtain⟨c,rfl⟩:∃n:Nat,c=(n:Int):=⟨c.toNat,by lia⟩;obtain⟨t,rfl⟩:∃n:Nat,t=(n:Int):=⟨t.toNat,by lia⟩;obtain⟨a_,o,e,g,i⟩:=nV (K:=K) (a:=a) (r:=1) (c:=1+c) (t:=t) f (by decide) (by decide) (by lia) (by lia) (by lia);exact aJ (ak (aa rfl (aa rfl (aa (dq rfl (ak rfl l) (p 1 c)) (aa (ak rfl m) rfl)))) e) ⟨a_,1,1+c,rfl,⟨g.1,by lia⟩,i⟩
 rw[MS (by simp[M])];refine bD ?_;refine gJ (β1:=β1) (hE (dq rfl rfl eq_int)) ?_;by_cases V:y=2
 .rw[MU (M3 V)]
  obtain⟨c,w,l,q,G,d⟩:=bv j (lot:=4) (by decide) (by decide);obtain⟨t,E,m,P,S,f⟩:=bv d (lot:=8) (by decide) (by decide);obtain⟨c,rfl⟩:∃n:Nat,c=(n:Int):=⟨c.toNat,by lia⟩;obtain⟨t,rfl⟩:∃n:Nat,t=(n:Int):=⟨t.toNat,by lia⟩;obtain⟨a_,o,e,g,i⟩:=nV (K:=K) (a:=a) (r:=1+c) (c:=1) (t:=t) f (by lia) (by lia) (by decide) (by decide) (by lia);exact aJ (ak (aa rfl (aa (dq rfl (ak rfl l) (p 1 c)) (aa rfl (aa (ak rfl m) rfl)))) e) ⟨a_,1+c,1,rfl,⟨g.1,by lia⟩,i⟩
 rw[MS (by simp[V])];refine bD ?_;obtain⟨r,w,l,q,G,d⟩:=bv j (lot:=2) (by decide) (by decide);obtain⟨c,E,m,P,S,f⟩:=bv d (lot:=3) (by decide) (by decide);obtain⟨t,o,C,F,H,i⟩:=bv f (lot:=8) (by decide) (by decide);obtain⟨r,rfl⟩:∃n:Nat,r=(n:Int):=⟨r.toNat,by lia⟩;obtain⟨c,rfl⟩:∃n:Nat,c=(n:Int):=⟨c.toNat,by lia⟩;obtain⟨t,rfl⟩:∃n:Nat,t=(n:Int):=⟨t.toNat,by lia⟩;obtain⟨a_,s,e,g,u⟩:=nV (K:=K) (a:=a) (r:=2+r) (c:=2+c) (t:=t) i (by lia) (by lia) (by lia) (by lia) (by lia);refine aC (dq rfl (ak rfl l) (p 2 r)) (aC (dq rfl (ak rfl m) (p 2 c)) ?_);exact am (aJ (ak (aa rfl (aa rfl (aa rfl (aa (ak rfl C) rfl)))) e) ⟨a_,2+r,2+c,rfl,⟨g.1,by lia⟩,u⟩)
theorem Zg:∀x<9,(x+1)*1<=500/\1<63:=by decide
theorem Zf:∀x<9,∀y<9-x,(x+1)*((y+1)*1)<=500/\(x+1)*1<63:=by decide
theorem Ze:∀x<9,∀y<9-x,∀z<9-x-y,(x+1)*((y+1)*((z+1)*1))<=500/\(x+1)*((y+1)*1)<63:=by decide
theorem Zd:∀x<9,∀y<9-x,∀z<9-x-y,∀w<9-x-y-z,(x+1)*((y+1)*((z+1)*((w+1)*1)))<=500/\(x+1)*((y+1)*((z+1)*1))<63:=by decide
theorem few:∀{rs:a0a},1<=rs.length->rs.length<=4->rs.sum<=8->O_ rs/\pr (rs.dropLast.map (·+1))<63
 |[x],_,l,h=>by
  have q:=Zg x (by simp at h;lia);exact⟨⟨by show 1<=1;decide,l,by lia,q.1⟩,q.2⟩
 |[x,y],_,l,h=>by
  have q:=Zf x (by simp at h;lia) y (by simp at h;lia);exact⟨⟨by show 1<=2;decide,l,by lia,q.1⟩,q.2⟩
 |[x,y,z],_,l,h=>by
  have q:=Ze x (by simp at h;lia) y (by simp at h;lia) z (by simp at h;lia);exact⟨⟨by show 1<=3;decide,l,by lia,q.1⟩,q.2⟩
 |[x,y,z,w],_,l,h=>by
  have q:=Zd x (by simp at h;lia) y (by simp at h;lia) z (by simp at h;lia) w (by simp at h;lia);exact⟨⟨by show 1<=4;decide,l,by lia,q.1⟩,q.2⟩
 |[],h,_,_=>by simp at h
 |_::_::_::_::_::_,_,h,_=>by simp at h
theorem toB{r c:Nat}{b:LP}(h:u_ r c b):∃B,b=gl B/\Iv r c B:=by
 have e:b=gl (b.map λa=>a.map λp=>(p.1.toNat,p.2.toNat)):=by
  unfold gl;rw[MV];refine(T1 b).symm.trans (Nu λa g=>?_);show a=NZ _ (NZ _ a);rw[MV];refine(T1 a).symm.trans (Nu λp i=>?_);obtain⟨w,D,E⟩:=h.ok a g p i;exact QD (show p.1=((p.1.toNat:Nat):Int) by lia) (show p.2=((p.2.toNat:Nat):Int) by lia)
 refine⟨_,e,h.shp.map,λa g p i=>?_⟩;obtain⟨d,j,rfl⟩:=M8.mp g;obtain⟨f,k,rfl⟩:=M8.mp i;obtain⟨w,D,E⟩:=h.ok d j f k;show f.1.toNat<=f.2.toNat/\f.2.toNat<=40;lia
theorem IV{r c:Nat}{a_:LI}{b:LP}(s:ZM r c a_)(k:u_ r c b)(w:Kp a_ b):∃B rs cs,b=gl B/\O2 a_ B rs cs/\rs.length=r/\cs.length=c/\rs.sum<=8:=by
 obtain⟨t,l⟩:=s;obtain⟨B,rfl,ok⟩:=toB k;obtain⟨rs,e⟩:=pK (xs:=a_.map N0) λx f=>by
  obtain⟨a,g,rfl⟩:=M8.mp f;exact lZ (t.nn a g)
 obtain⟨cs,i⟩:=pK (xs:=(tp c a_).map N0) λx f=>by
  obtain⟨a,g,rfl⟩:=M8.mp f;exact lZ (Ga t.nn a g)
 have m:rs.length=r:=by rw[<-t.shp.1,<-MD (as:=a_) N0,e,MD]
 have n:cs.length=c:=by rw[<-(i7 (d:=(0:Int)) (c:=c) t.shp.1).1,<-MD (as:=ra 0 c a_) N0];exact(N6 SR i).symm▸(MD _).symm
 have j:rs.sum<=8:=by
  have h:(a_.map N0).sum<=7:=l;rw[e,ij]at h;lia
 have o:rs.sum=cs.sum:=by
  have h:tot (tp c a_)=tot a_:=zC t.shp.2;unfold tot at h;rw[i,e,ij,ij]at h;lia
 have L:=t.r0;have M:=t.r1;have D:=t.c0;have E:=t.c1;obtain⟨G,K⟩:=few (rs:=rs) (by lia) (by lia) j;subst m n;exact⟨B,rs,cs,rfl,⟨⟨G,K,o,D,E⟩,t.shp,e,i,ok,w⟩,rfl,rfl,j⟩
theorem HP{a_:LI}{B:a0g}{rs cs:a0a}(h:O2 a_ B rs cs):(ng K a).1 [aG a_,ni B] β=My (.ok (JW a B rs cs),β):=by
 obtain⟨e,g,_,_⟩:=h.nr;have w:=h.c6;have b:=kR (K:=K) (a:=a) (β:=β) (a_:=a_) (by rw[h.shp.1];lia);have c:=iJ (K:=K) (a:=a) (β:=β) h.shp e (by lia) (by lia);rw[h.rw1]at b;rw[h.cl1]at c;have f:=sV (K:=K) (a:=a) (β:=β) (a_:=gP (gl B)) (by rw[MD,(iw h.bok.1).1];lia);unfold ng
 dsimp only
 refine aK (am (aJ (d:=JW a B rs cs) (β1:=β) ?_ ⟨rfl,rfl⟩));unfold CM;rw[M.bind_ok (aa (ak rfl b) (aa (ak rfl c) rfl)),M.bind_ok (aa (ak rfl f) rfl)];exact(M.bind_ok (JV h)).trans rfl
variable{n:Nat}{z:a0p}
abbrev Zk(z:a0p):a0a:=z.map N0
abbrev W6(n:Nat)(z:a0p):LI:=tp n (z.map nI)
theorem Gu(v:a0a)(j:Nat):(nI v).getD j 0=((v.getD j 0:Nat):Int):=by
 rw[MN,MN,MM];cases v[j]?<;>rfl
theorem uR(c:∀v∈z,v.length=n):(W6 n z).map N0=nI (vl n z):=by
 have e:vl n z=(MX n).map λj=>(vl n z).getD j 0:=OX (by rw[nc c,MD,Nr]) λi d f=>by
  rw[PN,P0,iI d]
 rw[e];unfold W6 tp ra;show NZ _ (NZ _ _)=NZ _ (NZ _ _);rw[MV,MV];refine Nu λj b=>?_;have b:=Ni.mp b;show((z.map nI).map λa=>a.getD j 0).sum=(((vl n z).getD j 0:Nat):Int);rw[z5 c b,<-ij,MV];show _=(NZ _ (NZ _ _)).sum;rw[MV];exact N6 N0 (Nu λv _=>Gu v j)
theorem Gv(z:a0p):(z.map nI).map N0=nI (Zk z):=by
 show _=NZ _ (NZ _ _);rw[MV,MV];exact Nu λv _=>ij v
theorem Jd{i:Nat}(b:i<n):(W6 n z)[i]?=My (nI (z.map λv=>v.getD i 0)):=by
 rw[IH b];congr 1;show _=NZ _ (NZ _ _);rw[MV,MV];exact Nu λv _=>Gu v i
variable{B:a0g}{a_:LI}
theorem AQ:∀{a:a0l} {v:a0a},(∀(i:Nat) (p:Nat×Nat) (x:Nat),a[i]?=My p->v[i]?=My x->p.1<=x/\x<=p.2)->zv a v=MH
 |[],_,_=>by unfold zv;rfl
 |_::_,[],_=>by unfold zv;rfl
 |p::a,x::v,h=>by
  have:=h 0 p x rfl rfl;show(decide (p.1<=x)&&decide (x<=p.2)&&zv a v)=MH;rw[AQ λi p x b c=>h (i+1) p x b c,M3 this.1,M3 this.2];rfl
theorem AS:∀{a:a0l} {v:a0a} {i:Nat} {p:Nat×Nat} {x:Nat},zv a v=MH->a[i]?=My p->v[i]?=My x->p.1<=x/\x<=p.2
 |p::a,x::v,i,q,y,h,h1,h2=>by
  have h:(decide (p.1<=x)&&decide (x<=p.2)&&zv a v)=MH:=h;rw[No,No,Nv,Nv]at h;cases i with
  |zero=>cases h1;cases h2;exact h.1
  |succ i=>exact AS h.2 h1 h2
theorem wx:∀{a:LI},(∀n∈a,∀x∈n,0<=x)->∃l:a0p,a=l.map nI
 |[],_=>⟨[],rfl⟩
 |x::a,h=>by
  obtain⟨l,e⟩:=wx λy b=>h y (MJ _ b);obtain⟨m,c⟩:=pK (h x MP);exact⟨m::l,by rw[e,c];rfl⟩
theorem FZ{W:Wy}:∀{z:a0p} {k i:Nat} {r v:a0a},Wk W k r z->z[i]?=My v->∃b,v∈W (k+i) b
 |w::z,k,0,r,v,h,e=>by cases e;exact⟨r,h.1⟩
 |w::z,k,i+1,r,v,h,e=>by
  obtain⟨b,a⟩:=FZ h.2 (show z[i]?=My v from e);exact⟨b,by rw[show k+(i+1)=k+1+i by lia];exact a⟩
theorem xy{z:a0p}(a:e_ rs.length cs.length a_)(e:tp cs.length a_=z.map nI)(d:∀v∈z,v.length=rs.length){i j:Nat}{v:a0a}{x:Nat}(b:z[i]?=My v)(c:v[j]?=My x):pa a_ j i=My (x:Int):=by
 have f:a_=W6 rs.length z:=by rw[<-xO a,e]
 have g:j<rs.length:=by rw[<-d v (M2 b)];exact(MR.mp c).1
 exact iz (by rw[f];exact Jd g) (by rw[MM,MM,b];show My ((v.getD j 0:Nat):Int)=_;rw[MN,c];rfl)
theorem v8(a:Iv rs.length cs.length B){i j:Nat}(c:j<rs.length)(d:i<cs.length):∃p:Nat×Nat,(pf B i)[j]?=My p/\pa (gl B) j i=My ((p.1:Int),(p.2:Int)):=by
 have b:j<B.length:=by rw[a.1.1];exact c
 have e:B[j].length=cs.length:=a.1.2 _ (NB b);refine⟨B[j].getD i (0,0),by unfold pf;rw[MM,MI b];rfl,iz (row:=B[j].map λp=>((p.1:Int),(p.2:Int))) (by rw[MM,MI b];rfl) ?_⟩;rw[MM,iI (by lia),MI (by lia)];rfl
abbrev GdT(B:a0g)(rs cs:a0a)(a_:LI):Prop:=e_ rs.length cs.length a_/\(∀a∈a_,∀x∈a,0<=x)/\a_.map N0=nI rs/\(tp cs.length a_).map N0=nI cs/\Kp a_ (gl B)
theorem Mp(a:Iv rs.length cs.length B)(h:GdT B rs cs a_):Gk (wB B cs) 0 rs (tp cs.length a_):=by
 obtain⟨n,D,m,o,E⟩:=h;obtain⟨z,e⟩:=wx (Ga (c:=cs.length) D);have w:=i7 (d:=(0:Int)) (c:=cs.length) n.1;have F:z.length=cs.length:=by rw[<-MD (f:=nI),<-e];exact w.1
 have g:∀v∈z,v.length=rs.length:=λv b=>by
  rw[<-MD (f:=λ(i:Nat)=>(i:Int))];refine w.2 (nI v) ?_;show nI v∈tp cs.length a_;rw[e];exact M8.mpr ⟨v,b,rfl⟩
 have t:a_=W6 rs.length z:=by rw[<-xO n,e]
 have G:rs=vl rs.length z:=jm (by rw[<-uR g,<-t,m]);have u:cs=Zk z:=jm (by rw[<-Gv,<-e,o]);refine⟨z,e,?_⟩;rw[G];refine FY g λi r v b K=>?_;rw[Oo];have H:=(MR.mp b).1;refine Of.mpr ⟨?_,AQ λj p x y k=>?_⟩
 .have q:cs.getD i 0=v.sum:=by rw[u,MN,MM,b];rfl
  rw[q];exact k6 K
 .have A:j<rs.length:=by rw[<-g v (M2 b)];exact(MR.mp k).1
  obtain⟨I,l,C⟩:=v8 a A (by lia:i<cs.length);rw[y]at l;cases l;have:=E j i _ _ (xy n e g b k) C;simp only at this;lia
theorem Ly(E:Iv rs.length cs.length B)(sm:rs.sum=cs.sum)(n:e_ rs.length cs.length a_)(h:Gk (wB B cs) 0 rs (tp cs.length a_)):GdT B rs cs a_:=by
 obtain⟨z,e,o⟩:=h;have l:z.length=cs.length:=by rw[<-MD (f:=nI),<-e];exact Yb n
 obtain⟨G,K,D⟩:=mX (F5 B cs) o (by rw[l,Oo]) (by rw[List.drop_zero];exact sm);have A:a_=W6 rs.length z:=by rw[<-xO n,e]
 have a:∀{j i:Nat} {x:Int},pa a_ j i=My x->∃v y,z[i]?=My v/\v[j]?=My y/\x=((y:Nat):Int):=λ{j i x} c=>by
  unfold pa at c;obtain⟨w,b,d⟩:=UI.mp c;have m:j<rs.length:=by rw[<-n.1];exact(MR.mp b).1
  have g:i<z.length:=by rw[l,<-n.2 w (M2 b)];exact(MR.mp d).1
  have r:j<z[i].length:=by rw[D _ (NB g)];exact m
  refine⟨z[i],z[i][j],MI g,MI r,?_⟩;have q:=xy n e D (MI g) (MI r);unfold pa at q;rw[b,PD,d]at q;exact Np q
 refine⟨n,λw k x c=>?_,by rw[A,uR D,<-K],by rw[e,Gv];unfold Zk;rw[G,List.drop_zero],λj i x p c t=>?_⟩
 .obtain⟨j,C⟩:=VH k
  obtain⟨i,F⟩:=VH c;obtain⟨_,y,_,_,rfl⟩:=a (iz C F);exact Int.natCast_nonneg _
 .obtain⟨v,y,b,d,rfl⟩:=a c
  have m:j<rs.length:=by rw[<-D v (M2 b)];exact(MR.mp d).1
  have g:i<cs.length:=by rw[<-l];exact(MR.mp b).1
  obtain⟨J,k⟩:=FZ o b;obtain⟨u,H,I⟩:=v8 E m g;rw[I]at t;cases t;rw[Oo]at k;have:=AS (Of.mp k).2 H d;exact⟨by show((u.1:Nat):Int)<=_;lia,by show _<=((u.2:Nat):Int);lia⟩
theorem Ms(a n:a0c):gE (iL a) (iL n)=My (.bl (decide (a=n))):=by
 have t:∀l:a0c,n_ (iL l)=My (.list (l.map .int)):=λl=>by
  unfold n_;rw[oK (g:=VL) λx=>rfl];rfl
 have c:∀l:a0c,lE (iL l)=MH:=λl=>vY 1 (λx b=>by
  obtain⟨i,_,rfl⟩:=M8.mp b;trivial) (by decide)
 rw[sS rfl (t a) (t n) (c a) (c n),Q0,mG eqI]
abbrev F0(a:LI)(rs cs:a0c)(n:LP)(b c d e:a0O):Ds:=[My (.sh (aG a)),My (.sh (iL rs)),My (.sh (iL cs)),My (.sh (c8 n)),b,c,d,e]
theorem Gs(xs ys:a0c):fW (iL xs) (iL ys)=My (.bl (!decide (xs=ys))):=by
 have e:=Ms xs ys;unfold gE at e;unfold fW;rw[show Xo (iL xs) (iL ys)=ME from rfl]at e⊢
 dsimp only at e⊢
 cases q:lF (iL xs) (iL ys)with
 |none=>rw[q]at e;cases e
 |some c=>rw[q]at e;cases e;rfl
theorem lgR{told:LI}{rs cs:a0c}{lim:LP}(r0:1<=rs.length)(r1:rs.length<=30)(c1:cs.length<=30)(sl:e_ rs.length cs.length lim):
  ∃b,(jq K a).1 [aG told,iL rs,iL cs,c8 lim] β=My (.ok (.bl b),β)/\(b=MH↔e_ rs.length cs.length told/\(∀n∈told,∀x∈n,0<=x)/\told.map N0=rs/\(tp cs.length told).map N0=cs/\Kp told lim):=by
 generalize R:(e_ rs.length cs.length told/\(∀n∈told,∀x∈n,0<=x)/\told.map N0=rs/\(tp cs.length told).map N0=cs/\Kp told lim)=P
 suffices q:∃g f,(jq K a).1 [aG told,iL rs,iL cs,c8 lim] β=My (g,f)/\β=f/\∃b,g= .ok (.bl b)/\(b=MH↔P) by
  obtain⟨g,_,e,rfl,b,rfl,z⟩:=q;exact⟨b,e,z⟩
 have B:∀{h:G} {δ:Ds} {Q:a0v},¬P->(∀o,(∃b,o=lK.rt (.bl b)/\(b=MH↔P))->Q o β)->Gw (ay (jA (fC (.bl ML))) h) δ β Q:=λ{h δ Q} np k=>aJ rfl (k _ ⟨ML,rfl,λe=>(by cases e),λp=>Nh p np⟩);unfold jq
 dsimp only
 refine gF ?_;by_cases E:told.length=rs.length
 rotate_left
 .refine pF (β1:=β) (fF (gY (gX (x:= .bl MH) (ai rfl rfl) rfl)) (hE (dq (ai rfl (my (r:=told.length) (by rw[MD]))) (ai rfl (bG (r:=rs.length) (by rw[MD]))) (ne_int.trans (by rw[Nw (by lia)];rfl))))) (B (λp=>by rw[<-R]at p;exact E p.1.1) λo ⟨b,e,z⟩=>by subst e;exact⟨rfl,b,rfl,z⟩)
 refine gZ (β1:=β) (fF (gY (gX (x:= .bl MH) (ai rfl rfl) rfl)) (hE (dq (ai rfl (my (r:=rs.length) (by rw[MD,E]))) (ai rfl (bG (r:=rs.length) (by rw[MD]))) (ne_int.trans (by simp))))) (bD ?_);refine bT (ds:=(gI told).map D.lst) (β1:=β) rfl (λi δ f=>β=f/\(∃J t,δ=F0 told rs cs lim J t ME ME)/\∀n∈told.take i,n.length=cs.length/\∀x∈n,0<=x) ⟨rfl,⟨ME,ME,rfl⟩,λn T=>by cases T⟩ ?_ ?_
 .rintro i d δ _ hd ⟨rfl,⟨J,t,rfl⟩,M⟩
  obtain⟨y,O,rfl⟩:=bP hd;obtain⟨n,l,rfl⟩:=bP O;have U:=M2 l;refine⟨F0 told rs cs lim (My (.sh (.lst (n.map D.int)))) t ME ME,rfl,?_⟩;by_cases S:n.length=cs.length
  rotate_left
  .exact pF (β1:=β) (fF (gY (gX (x:= .bl MH) (ai rfl rfl) rfl)) (hE (dq (ai rfl (bG (r:=n.length) (by rw[MD]))) (ai rfl (bG (r:=cs.length) (by rw[MD]))) (ne_int.trans (by rw[Nw (by lia)];rfl))))) (B (λp=>by rw[<-R]at p;exact S (p.1.2 n U)) λo ⟨b,e,z⟩=>by subst e;exact⟨rfl,b,rfl,z⟩)
  refine gZ (β1:=β) (fF (gY (gX (x:= .bl MH) (ai rfl rfl) rfl)) (hE (dq (ai rfl (bG (r:=cs.length) (by rw[MD,S]))) (ai rfl (bG (r:=cs.length) (by rw[MD]))) (ne_int.trans (by simp))))) (bD (am ?_));refine bT (ds:=n.map D.int) (β1:=β) rfl (λj δ f=>β=f/\(∃t,δ=F0 told rs cs lim (My (.sh (.lst (n.map D.int)))) t ME ME)/\∀x∈n.take j,0<=x) ⟨rfl,⟨t,rfl⟩,λx L=>by cases L⟩ ?_ ?_
  .rintro j d δ _ hd ⟨rfl,⟨t,rfl⟩,hn⟩
   obtain⟨x,L,rfl⟩:=bP hd;refine⟨F0 told rs cs lim (My (.sh (.lst (n.map D.int)))) (My (.sh (.int x))) ME ME,rfl,?_⟩;refine am (gJ (c:=decide (x<0)) (β1:=β) (fF (gY (gX (x:= .bl MH) (ai rfl rfl) rfl)) (fF (gX (x:= .bl ML) (ai rfl rfl) rfl) (hE (dq rfl rfl lt_int)))) ?_);by_cases q3:x<0
   .rw[M3 q3,MU rfl]
    exact B (λp=>by rw[<-R]at p;have:=p.2.1 n U x (M2 L);lia) λo ⟨b,e,z⟩=>by subst e;exact⟨rfl,b,rfl,z⟩
   .rw[Nw q3,MS (by decide)]
    refine bD (bp ⟨rfl,⟨_,rfl⟩,λy O=>?_⟩);rw[QV,L]at O;rcases NP.mp O with z|z
    .exact hn y z
    .cases Nq.mp z;lia
  .rintro δ _ ⟨rfl,⟨t,rfl⟩,hn⟩
   rw[MD,PR]at hn;refine bp ⟨rfl,⟨_,_,rfl⟩,λy O=>?_⟩;rw[QV,l]at O;rcases NP.mp O with z|z
   .exact M y z
   .cases Nq.mp z;exact⟨S,hn⟩
 rintro δ _ ⟨rfl,⟨J,t,rfl⟩,M⟩;rw[MD,MD,PR]at M;have sh:e_ rs.length cs.length told:=⟨E,λn T=>(M n T).1⟩;refine gJ (c:=!(decide (told.map N0=rs)&&decide ((tp cs.length told).map N0=cs))) (β1:=β) ?_ ?_
 .have I:=hE (δ:=fc (F0 told rs cs lim J t ME ME)) (dq (ak (m:=(eS K a).1) (fl:=ae (ag 0) az) rfl (kR (K:=K) (a:=a) (β:=β) (a_:=told) (by lia))) (show ag 1 _ β=My (.ok (iL rs),β)from rfl) (Gs _ _))
  by_cases z:told.map N0=rs
  .rw[M3 z]at I⊢
   exact fF I (hE (dq (ak rfl (iJ sh r0 r1 c1)) rfl (Gs _ _)))
  .rw[Nw z]at I⊢
   exact xE I
 by_cases w:told.map N0=rs/\(tp cs.length told).map N0=cs
 rotate_left
 .rw[MU (by
   rw[Tv,WE];intro z;rw[No,Nv,Nv]at z;exact w z)]
  exact B (λp=>by rw[<-R]at p;exact w ⟨p.2.2.1,p.2.2.2.1⟩) λo ⟨b,e,z⟩=>by subst e;exact⟨rfl,b,rfl,z⟩
 rw[M3 w.1,M3 w.2,MS (by decide)];refine bD ?_;refine bT (ds:=(told.zip lim).map λp=>D.tup [.lst (p.1.map D.int),.lst (p.2.map pD)]) (β1:=β) (FW (u:=λn:a0c=>D.lst (n.map D.int)) (v:=λn:a0Y=>D.lst (n.map pD)) (xs:=told) (ys:=lim) (by show My (Oq (D.lst ((told.map _).map D.lst)),β)=_;rw[MV];rfl) (by show My (Oq (D.lst ((lim.map _).map D.lst)),β)=_;rw[MV];rfl)) (λi δ f=>β=f/\(∃J t X N,δ=F0 told rs cs lim J t X N)/\∀j<i,∀k x p,pa told j k=My x->pa lim j k=My p->p.1<=x/\x<=p.2) ⟨rfl,⟨_,_,_,_,rfl⟩,λj Y=>Nh Y (OM _)⟩ ?_ ?_
 .rintro i d δ _ hd ⟨rfl,⟨J,t,X,N,rfl⟩,Z⟩
  obtain⟨⟨n,A⟩,hz,rfl⟩:=bP hd;obtain⟨l,F⟩:=UF.mp hz;simp only at l F;refine⟨F0 told rs cs lim (My (.sh (.lst (n.map D.int)))) t (My (.sh (.lst (A.map pD)))) N,rfl,am ?_⟩;refine bT (ds:=(n.zip A).map λp=>D.tup [.int p.1,pD p.2]) (β1:=β) (FW (u:=D.int) (v:=pD) (xs:=n) (ys:=A) rfl rfl) (λj δ f=>β=f/\(∃t N,δ=F0 told rs cs lim (My (.sh (.lst (n.map D.int)))) t (My (.sh (.lst (A.map pD)))) N)/\∀k<j,∀x p,n[k]?=My x->A[k]?=My p->p.1<=x/\x<=p.2) ⟨rfl,⟨_,_,rfl⟩,λk V=>Nh V (OM _)⟩ ?_ ?_
  .rintro j d δ _ hd ⟨rfl,⟨t,N,rfl⟩,hc⟩
   obtain⟨⟨x,p⟩,W,rfl⟩:=bP hd;obtain⟨L,s⟩:=UF.mp W;simp only at L s;refine⟨F0 told rs cs lim (My (.sh (.lst (n.map D.int)))) (My (.sh (.int x))) (My (.sh (.lst (A.map pD)))) (My (.sh (pD p))),rfl,?_⟩;refine am (gJ (c:=decide (x<p.1)||decide (p.2<x)) (β1:=β) ?_ ?_)
   .have I:=hE (δ:=fc (F0 told rs cs lim (My (.sh (.lst (n.map D.int)))) (My (.sh (.int x))) (My (.sh (.lst (A.map pD)))) (My (.sh (pD p))))) (dq (show ag 5 _ β=My (.ok (.int x),β)from rfl) (dq (show ag 7 _ β=My (.ok (pD p),β)from rfl) (show fC (.int 0) _ β=My (.ok (.int 0),β)from rfl) rC) lt_int)
    by_cases z:x<p.1
    .rw[M3 z]at I⊢
     exact xE I
    .rw[Nw z]at I⊢
     exact fF I (hE (dq rfl (dq rfl rfl o7) gt_int))
   by_cases q5:p.1<=x/\x<=p.2
   .rw[MS (by
     rw[Nw (by lia),Nw (by lia)];decide)]
    refine bD (bp ⟨rfl,⟨_,_,rfl⟩,λk V y p' C H=>?_⟩);rcases WJ (TL V)with z|z
    .exact hc k z y p' C H
    .rw[z,L]at C
     rw[z,s]at H;cases C;cases H;exact q5
   .rw[MU (by
     rw[T8,Nv,Nv];lia)]
    exact B (λe=>by rw[<-R]at e;exact q5 (e.2.2.2.2 i j x p (iz l L) (iz F s))) λo ⟨b,e,z⟩=>by subst e;exact⟨rfl,b,rfl,z⟩
  .rintro δ _ ⟨rfl,⟨t,N,rfl⟩,hc⟩
   refine bp ⟨rfl,⟨_,_,_,_,rfl⟩,λj Y k x p C H=>?_⟩;rcases WJ (TL Y)with z|z
   .exact Z j z k x p C H
   .subst z
    unfold pa at C H;rw[l]at C;rw[F]at H;refine hc k ?_ x p C H;rw[MD,Rh];exact Nat.lt_min.mpr ⟨(MR.mp C).1,(MR.mp H).1⟩
 .rintro δ _ ⟨rfl,⟨J,t,X,N,rfl⟩,Z⟩
  refine am (aJ rfl ⟨rfl,MH,rfl,λ_=>?_,λ_=>rfl⟩);rw[<-R];refine⟨sh,λn T=>(M n T).2,w.1,w.2,λj k x p C H=>Z j ?_ k x p C H⟩;rw[MD,Rh,E,sl.1,Vj,<-E];unfold pa at C;obtain⟨n,h3,_⟩:=UI.mp C;exact(MR.mp h3).1
theorem KM{r c:Nat}{B:LI}{ka kb:Int}{ja jb:Nat}(n:e_ r c B)(e:li r ka=My ja)(f:li c kb=My jb):∃(a:a0c) (x:Int),B[ja]?=My a/\a[jb]?=My x/\j0 (aG B) (.int ka)=My (.lst (a.map D.int))/\j0 (.lst (a.map D.int)) (.int kb)=My (.int x):=by
 obtain⟨_,h,_,_⟩:=nJ e;obtain⟨_,j,_,_⟩:=nJ f;obtain⟨a,b,d⟩:=n.at h;obtain⟨x,g⟩:=zf (l:=a) (i:=jb) (by lia);refine⟨a,x,b,g,?_,?_⟩
 .show o_ ((gI B).map D.lst) ka=_
  unfold o_;rw[MD,jB n,e];show((gI B).map D.lst)[ja]?=_;rw[MM,MM,b];rfl
 .show o_ (a.map D.int) kb=_
  unfold o_;rw[MD,d,f];show(a.map D.int)[jb]?=_;rw[MM,g];rfl
theorem nK{n i:Nat}(h:i<n):li n (i:Int)=My i:=by
 have:=kD (n:=n) (k:=(i:Int)) (by lia) (by lia);rw[Oh]at this;exact this
theorem vy{n i:Nat}(h:i<n):∃j,li n ((i:Int)-1)=My j:=by
 unfold li;by_cases q:0<=(i:Int)-1
 .rw[MU q,MU (by lia)];exact⟨_,rfl⟩
 .rw[MS q,MU (by lia)];exact⟨_,rfl⟩
theorem y0{a_:a0o}(h:a_.length<=1000):j7 K a [lG a_] β=My (.ok a_,β):=by
 have e:=mK (nv:=1) (cx:=[]) (it:=ef (ag 0)) (tg:=h8 0) (f:=yk tY (ae (ag 0) (az))) (δ:=[My (lG a_)]) (β:=β) a_ D.lst (λx=>x) rfl (λx _=>⟨_,rfl,rfl⟩) (bh h);rw[List.map_id']at e;exact xz (am (wr e ⟨rfl,rfl⟩))
def Fw(m:Int)(A:LI):Prop:=A.length<=5/\∀a∈A,a.length<=7/\∀x∈a,-m<=x/\x<=m
abbrev Xj(A:D)(b:a0O)(i j:Nat)(w:Int):Ds:=[My (.sh .bag),My (.sh A),b,My (.sh (.int (i:Int))),My (.sh (.int (j:Int))),My (.sh (.int w))]
theorem Fw.put{r c:Nat}{m:Int}{B:LI}{a:a0c}{ja jb:Nat}{x s:Int}(h:Fw m B)(e:B[ja]?=My a)(f:a[jb]?=My x)(i:-1<=s)(j:s<=1):Fw (m+1) (B.set ja (a.set jb (x+s))):=by
 refine⟨by rw[NT];exact h.1,λb g=>?_⟩;rcases Oc g with z|rfl
 .exact⟨(h.2 b z).1,λy d=>by have:=(h.2 b z).2 y d;lia⟩
 .have hm:=h.2 a (M2 e)
  refine⟨by rw[NT];exact hm.1,λy d=>?_⟩;rcases Oc d with z|rfl
  .have:=hm.2 y z;lia
  .have:=hm.2 x (M2 f);lia
theorem kT{A:D}{r c i j:Nat}{w m:Int}{B:LI}{l o:FD}{z:a0H}{s:Int}{ka kb:Int}{ja jb:Nat}{h:G}{Q:a0v}(n:e_ r c B)(u:Fw m B)(q:li r ka=My ja)(t:li c kb=My jb)(f1:l (fc (Xj A (My (.grd (gI B))) i j w)) β=My (.ok (.int ka),β))(e:o (fc (Xj A (My (.grd (gI B))) i j w)) β=My (.ok (.int kb),β))(v:∀x,z (.int x) (.int 1)=My (.int (x+s)))(y:-1<=s)(C:s<=1)
  (k:∀p,e_ r c p->Fw (m+1) p->Gw h (Xj A (My (.grd (gI p))) i j w) β Q):Gw (ay (lq 2 l o (f2 z (f2 j0 (f2 j0 (ag 2) l) o) (fC (.int 1)))) h) (Xj A (My (.grd (gI B))) i j w) β Q:=by
 obtain⟨a,x,b,F,E,K⟩:=KM n q t;have f:=n.2 a (M2 b);refine xG (d:= .int (x+s)) (β1:=β) (β2:=β) (β3:=β) (a_:=gI B) (ds:=a.map D.int) (ka:=ka) (kb:=kb) (ja:=ja) (jb:=jb) (dq (dq (dq (x:=aG B) rfl f1 E) e K) rfl (v x)) f1 e rfl (by rw[jB n];exact q) (by rw[MM,b];rfl) (by rw[MD,f];exact t) rfl ?_;have g:(gI B).set ja ((a.map D.int).set jb (.int (x+s)))=gI (B.set ja (a.set jb (x+s))):=by
  show _=NZ _ _;rw[Pw,Pw]
 rw[g];exact k _ (n.set b) (u.put (r:=r) (c:=c) b F y C)
theorem AD(a:β.ok){lot:Nat}(d:0<lot)(e:lot<1073741824):∃(v:Nat) (b:Bg),dY [.bag,.int (lot:Int)] β=My (.ok (.int (v:Int)),b)/\v<lot/\b.ok:=by
 obtain⟨v,b,p,f,g,c⟩:=bv a (lot:=(lot:Int)) (by lia) (by lia);obtain⟨v,rfl⟩:∃n:Nat,v=(n:Int):=⟨v.toNat,by lia⟩;exact⟨v,b,p,by lia,c⟩
theorem xT{r c:Nat}{A:LI}(T:V_ r c A)(ok:β.ok):∃(B:LI) (l:Bg),(f6 K a).1 [.bag,aG A] β=My (.ok (aG B),l)/\Fw 1000 B/\l.ok:=by
 have r0:=T.r0;have r1:=T.r1;have c0:=T.c0;have c1:=T.c1;obtain⟨i,β2,p2,H,V⟩:=AD ok (lot:=r) (by lia) (by lia);obtain⟨j,W,p3,R,ab⟩:=AD V (lot:=c) (by lia) (by lia);obtain⟨w,o,p4,w0,w1,ac⟩:=bv ab (lot:=8) (by decide) (by decide)
 suffices q:∃g l,(f6 K a).1 [.bag,aG A] β=My (g,l)/\o=l/\∃B,g= .ok (aG B)/\Fw 1000 B by
  obtain⟨g,_,e,rfl,B,rfl,z⟩:=q;exact⟨B,_,e,z,ac⟩
 have N:∀{m:Int} {B:LI},m<=1000->Fw m B->Fw 1000 B:=λ{m B} hm h=>⟨h.1,λE f=>⟨(h.2 E f).1,λx t=>by have:=(h.2 E f).2 x t;lia⟩⟩;have u:Fw 40 A:=⟨by rw[T.shp.1];lia,λE f=>⟨by rw[T.shp.2 E f];lia,λx t=>by have:=T.le40 E f x t;lia⟩⟩;unfold f6
 dsimp only
 refine gF ?_;refine xH (a_:=gI A) (β1:=β) (wq rfl (y0 (by rw[jB T.shp];lia))) (AY A) ?_;refine zr (d:= .int (i:Int)) (β1:=β2) (ak (aa rfl (aa (ai rfl (my (jB T.shp))) rfl)) p2) ?_;obtain⟨U,I,J⟩:=T.shp.at (i:=0) (by lia);have ad:(gI A)[0]?=My (U.map D.int):=by rw[MM,I];rfl
 have v:∀{β:Bg} {P:Dn},P.getD 2 ME=My (aG A)->br eJ (ae (f2 j0 (ag 2) (fC (.int 0))) az) P β=My (.ok (.int (c:Int)),β):=λ{β P} e=>ai (aa (dq (x:=aG A) (pA e) rfl (nG ad)) rfl) (bG (by rw[MD,J]));refine zr (d:= .int (j:Int)) (β1:=W) (ak (aa rfl (aa (v rfl) rfl)) p3) ?_;refine aC (d:= .int w) (β1:=o) (ak rfl p4) ?_;show Gw _ (Xj (aG A) (My (.grd (gI A))) i j w) o _;have M:∀{k:Int} {g h:G} {P:Ds} {β:Bg} {Q:a0v},(fc P).getD 5 ME=My (.int w)->¬w=k->Gw h P β Q->Gw (ay (xi (fB (f2 (gE) (ag 5) (fC (.int k)))) g gNil) h) P β Q:=λ{k g h P β Q} e n kk=>gZ (hE (c:=ML) (dq (pA e) rfl (by rw[Pu.eq_int,Nw n]))) (bD kk);have b:∀{k:Int} {g h:G} {P:Ds} {β:Bg} {Q:a0v},(fc P).getD 5 ME=My (.int w)->w=k->Gw (ay g h) P β Q->Gw (ay (xi (fB (f2 (gE) (ag 5) (fC (.int k)))) g gNil) h) P β Q:=λ{k g h P β Q} e n kk=>pF (hE (c:=MH) (dq (pA e) rfl (by rw[Pu.eq_int,M3 n]))) kk;have O:=nK H;have S:=nK R;obtain⟨ip,X⟩:=vy H;obtain⟨jp,L⟩:=vy R;by_cases q0:w=0
 .exact b rfl q0 (aJ rfl ⟨rfl,[],rfl,N2 _,λE f=>by cases f⟩)
 refine M rfl q0 ?_;by_cases q1:w=1
 .refine b rfl q1 (aJ (bo (gI A) D.lst (λ_=> .lst []) rfl (λx _=>⟨_,rfl,rfl⟩) (bh (by rw[jB T.shp];lia))) ⟨rfl,A.map λ_=>[],?_,by rw[MD];exact u.1,λE f=>?_⟩)
  .show Oq (D.lst _)=Oq (D.lst (NZ D.lst (NZ _ (NZ _ _))))
   rw[MV,MV,MV];rfl
  .obtain⟨_,_,rfl⟩:=M8.mp f
   exact⟨N2 _,λx t=>by cases t⟩
 refine M rfl q1 ?_;by_cases q2:w=2
 .obtain⟨E,C,F⟩:=T.shp.at H
  have ms:=u.2 E (M2 C);refine b rfl q2 (K5 (β1:=o) (β2:=o) (a_:=gI A) (ds:=(E++[0]).map D.int) (ka:=(i:Int)) (ja:=i) (X3 (dq (x:=aG A) rfl rfl (nG (by rw[MM,C];rfl))) rfl ((L2.Pu.cat_ok (xs:=E.map D.int) (ys:=[.int 0]) (by rw[MD,F];show c+1<=1000;lia)).trans (by rw[NH];rfl))) rfl rfl (by rw[jB T.shp];exact O) (jS _) (AY A) ?_);have Y:(gI A).set i ((E++[0]).map D.int)=gI (A.set i (E++[0])):=by
   show _=NZ _ _;rw[Pw]
  rw[Y];exact M rfl (by lia) (M rfl (by lia) (M rfl (by lia) (M rfl (by lia) (am (aJ rfl ⟨rfl,_,rfl,by rw[NT];exact u.1,λZ f=>by
   rcases Oc f with z|rfl
   .exact(N (by lia) u).2 Z z
   .refine⟨by rw[Nb,F];show c+1<=7;lia,λx t=>?_⟩
    rcases NP.mp t with z|z
    .have:=ms.2 x z;lia
    .cases Nq.mp z;lia⟩)))))
 refine M rfl q2 ?_;by_cases q3:w=3
 .refine b rfl q3 (aJ (dq (x:=aG A) (y:= .lst [.lst (Nd c (.int 0))]) rfl (ai (aa (K0 (Gr rfl (v rfl) (by lia))) rfl) rfl) (rR (by rw[MD,jB T.shp];show r+1<=1000;lia))) ⟨rfl,A++[Nd c 0],?_,by rw[Nb,T.shp.1];show r+1<=5;lia,λE f=>?_⟩)
  .show Oq (D.lst _)=Oq (D.lst (NZ D.lst (NZ _ _)))
   rw[NH,NH];show _=Oq (D.lst (_++[D.lst (NZ D.int (Nd c 0))]));rw[Pg]
  .rcases NP.mp f with z|z
   .exact(N (by lia) u).2 E z
   .cases Nq.mp z
    refine⟨by rw[Oz];lia,λx t=>?_⟩;cases List.eq_of_mem_replicate t;lia
 refine M rfl q3 ?_;by_cases q4:w=4
 .exact b rfl q4 (kT (s:=1) T.shp u O S rfl rfl (λ_=>rfl) (by lia) (by lia) λB p fB=>M rfl (by lia) (M rfl (by lia) (am (aJ rfl ⟨rfl,B,rfl,N (by lia) fB⟩))))
 refine M rfl q4 ?_;by_cases q5:w=5
 .exact b rfl q5 (m3 (kT (s:=-1) T.shp u O S rfl rfl (λ_=>rfl) (by lia) (by lia) λB p fB=>kT (s:=1) p fB O L rfl rfl (λ_=>rfl) (by lia) (by lia) λB p fB=>M rfl (by lia) (am (aJ rfl ⟨rfl,B,rfl,N (by lia) fB⟩))))
 refine M rfl q5 ?_;by_cases q6:w=6
 .exact b rfl q6 (m3 (kT (s:=-1) T.shp u O S rfl rfl (λ_=>rfl) (by lia) (by lia) λB p fB=>m3 (kT (s:=1) p fB O L rfl rfl (λ_=>rfl) (by lia) (by lia) λB p fB=>m3 (kT (s:=1) p fB X S rfl rfl (λ_=>rfl) (by lia) (by lia) λB p fB=>kT (s:=-1) p fB X L rfl rfl (λ_=>rfl) (by lia) (by lia) λB p fB=>am (aJ rfl ⟨rfl,B,rfl,N (by lia) fB⟩)))))
 exact M rfl q6 (am (aJ rfl ⟨rfl,A,rfl,N (by lia) u⟩))
theorem Gb:∀(j k:Nat) (r:a0a),j1 W j k r<=js W j k r
 |0,_,_=>MW _
 |j+1,k,r=>uD (UE _) λv _=>Ng (Gb j (k+1) (less r v)) (Nat.le_mul_of_pos_left _ (BF v))
theorem uv{n:a0d->a0z}{fl:FL}{a:Dn}{β1:Bg}{C:MK}(e:fl a β=My (.error C,β1)):cK n fl a β=My (.error C,β1):=by unfold cK M.bind;rw[e]
theorem DK(e:a_.length<=1000)(w:¬e_ rs.length cs.length a_):(cT K a).1 [bC a W L rs cs,aG a_] β=My (.error a.Ah,β):=by
 unfold cT
 dsimp only
 refine aK ?_;refine aC (d:= .int (cs.length:Int)) (β1:=β) (ai (aa (bA rfl rfl ny) rfl) (jx cs)) ?_;have b:f2 fW (br eJ (ae (ag 1) az)) (br eJ (ae (gj a.Ak "rowsums" (cB K a).1 (ag 0) az []) az)) (fc [My (.sh (bC a W L rs cs)),My (.sh (aG a_)),My (.sh (.int (cs.length:Int)))]) β=My (.ok (.bl (!decide ((a_.length:Int)=(rs.length:Int)))),β):=dq (ai rfl (bG (r:=a_.length) (by rw[MD,MD]))) (ai (aa (bA rfl rfl gr) rfl) (jx rs)) ne_int;by_cases q:a_.length=rs.length
 .rw[M3 (by lia)]at b
  have g:=bo (nv:=1) (cx:=[2]) (it:=ef (ag 1)) (tg:=h8 0) (f:=f2 fW (br eJ (ae (ag 0) az)) (ag 1)) (δ:=fc [My (.sh (bC a W L rs cs)),My (.sh (aG a_)),My (.sh (.int (cs.length:Int)))]) (β:=β) a_ (λn=>D.lst (n.map D.int)) (λn=>D.bl (!decide ((n.length:Int)=(cs.length:Int)))) (cL rfl (by show My _=My _;rw[MV];rfl)) (λn c=>⟨[My (D.lst (n.map D.int)),My (.int (cs.length:Int))],rfl,dq (ai rfl (bG (r:=n.length) (by rw[MD]))) rfl ne_int⟩) (bh e);have h:a_.any (λn=>!decide ((n.length:Int)=(cs.length:Int)))=MH:=by
   rcases Bool.eq_false_or_eq_true (a_.any λn=>!decide ((n.length:Int)=(cs.length:Int)))with z|z
   .exact z
   .refine Nh ⟨q,λn c=>?_⟩ w
    have:=TD.mp z n c;rw[Tv,Bool.not_eq_false,Nv]at this;lia
  exact pF (fF (hE b) (gX (ai (aa g rfl) (any_map a_ _)) (by rw[h];rfl))) (mZ (aa rfl rfl) ⟨rfl,rfl⟩)
 .rw[Nw (by lia)]at b
  exact pF (xE (hE b)) (mZ (aa rfl rfl) ⟨rfl,rfl⟩)
theorem Ld{c:Nat}{u:a0c}{x:Int}(b:u∈tp c a_)(d:x∈u):∃a∈a_,x∈a\/x=0:=by
 unfold tp ra at b;obtain⟨j,_,rfl⟩:=M8.mp b;obtain⟨a,f,rfl⟩:=M8.mp d;refine⟨a,f,?_⟩;rw[MN];cases e:a[j]? with
 |none=>right;rfl
 |some y=>left;exact M2 e
theorem mW{m:a0d->M D}{fl:FL}{a:a0d}{n:Dn}(b:fl n β=My (.ok a,β)):bw m fl n β=m a β:=by unfold bw M.bind;rw[b]
abbrev Tr(P:Prop)(C:MK)(m:M D):Prop:=∀β:Bg,∃g,m β=My (g,β)/\((P/\∃d,g= .ok d)\/(¬P/\g= .error C))
theorem Yz(h:lj K a rs cs W L)(b:a_.length<=1000)(c:e_ rs.length cs.length a_->∀u∈tp cs.length a_,wh u=MH):Tr (e_ rs.length cs.length a_/\Gk W 0 rs (tp cs.length a_)) a.Ah ((dS K a).1 [bC a W L rs cs,aG a_]):=λβ=>by
 by_cases n:e_ rs.length cs.length a_
 .obtain⟨g,e,⟨p,d⟩|⟨p,d⟩⟩:=YA (β:=β) h n (c n)
  .exact⟨g,e,.inl ⟨⟨n,p⟩,d⟩⟩
  .exact⟨g,e,.inr ⟨λz=>p z.2,d⟩⟩
 .refine⟨.error a.Ah,?_,.inr ⟨λz=>n z.1,rfl⟩⟩
  unfold dS
  dsimp only
  refine aK ?_;refine aC (d:=tN rs) (β1:=β) (ai (aa (bA rfl rfl gr) rfl) (kd rs)) (aC (d:= .int 0) (β1:=β) rfl ?_);exact zt (uv (wn (ak rfl (DK b n)))) ⟨rfl,rfl⟩
theorem Yn(h:lj K a rs cs W L)(b:a_.length<=1000)(c:e_ rs.length cs.length a_->∀u∈tp cs.length a_,wh u=MH):Tr (e_ rs.length cs.length a_/\Gk W 0 rs (tp cs.length a_)) a.Ah ((fm K a).1 [bC a W L rs cs,aG a_]):=λβ=>by
 by_cases n:e_ rs.length cs.length a_
 .obtain⟨g,e,⟨p,d⟩|⟨p,d⟩⟩:=Yo (β:=β) h n (c n)
  .exact⟨g,e,.inl ⟨⟨n,p⟩,d⟩⟩
  .exact⟨g,e,.inr ⟨λz=>p z.2,d⟩⟩
 .refine⟨.error a.Ah,?_,.inr ⟨λz=>n z.1,rfl⟩⟩
  unfold fm
  dsimp only
  refine aK ?_;refine aC (d:=tN rs) (β1:=β) (ai (aa (bA rfl rfl gr) rfl) (kd rs)) (aC (d:= .int 0) (β1:=β) rfl (aC (d:= .int 1) (β1:=β) rfl ?_));exact zt (uv (wn (ak rfl (DK b n)))) ⟨rfl,rfl⟩
theorem YR{k:Int}(h:lj K a rs cs W L)(b:k.natAbs<=2^170)(w:j1 W cs.length 0 rs<=2^160):Tr (0<=k/\k<((j1 W cs.length 0 rs:Nat):Int)) a.Ae ((dT K a).1 [bC a W L rs cs,.int k]):=λβ=>by
 by_cases q:0<=k/\k<((j1 W cs.length 0 rs:Nat):Int)
 .obtain⟨k,rfl⟩:∃n:Nat,k=(n:Int):=⟨k.toNat,by lia⟩
  exact⟨_,J8 h (by lia),.inl ⟨q,_,rfl⟩⟩
 .exact⟨_,YQ q (qw b (by decide)) (qw (m:=160) (by rw[QL];exact w) (by decide)),.inr ⟨q,rfl⟩⟩
theorem YT{k:Int}(h:lj K a rs cs W L)(b:k.natAbs<=2^170)(w:js W cs.length 0 rs<=2^160):Tr (0<=k/\k<((js W cs.length 0 rs:Nat):Int)) a.Ae ((cX K a).1 [bC a W L rs cs,.int k]):=λβ=>by
 by_cases q:0<=k/\k<((js W cs.length 0 rs:Nat):Int)
 .obtain⟨k,rfl⟩:∃n:Nat,k=(n:Int):=⟨k.toNat,by lia⟩
  exact⟨_,J9 h (by lia),.inl ⟨q,_,rfl⟩⟩
 .exact⟨_,YS q (qw b (by decide)) (qw (m:=160) (by rw[QL];exact w) (by decide)),.inr ⟨q,rfl⟩⟩
abbrev S_(A:LI)(L N B:D)(b:Bool)(c d e:a0O):Ds:=[ME,My (.sh .bag),My (.sh (aG A)),My (.sh L),My (.sh N),My (.sh B),My (.sh (.bl b)),c,d,e]
theorem xN{P:Prop}{C:MK}{f:FD}{A:LI}{L N B:D}{b:Bool}{l c i:a0O}{h:G}{Q:a0v}{m:M D}(o:Vu K (.ref C) (.ref C)=My MH)(t:Tr P C m)(e:f (fc (S_ A L N B b (My (.sh (.bl MH))) c i)) β=m β)(k:∀d:Bool,(d=MH↔P)->Gw h (S_ A L N B b (My (.sh (.bl d))) c i) β Q):
  Gw (ay (cD 7 (fC (.bl MH))) (ay (jz (gi f) (lh K C (cD 7 (fC (.bl ML))) Xa)) h)) (S_ A L N B b l c i) β Q:=by
 refine aC (d:= .bl MH) (β1:=β) rfl ?_;show Gw _ (S_ A L N B b (My (.sh (.bl MH))) c i) β _;obtain⟨g,j,⟨p,d,rfl⟩|⟨p,rfl⟩⟩:=t β
 .exact F4 (am (jf (β1:=β) (e.trans j) (bp (k MH ⟨λ_=>p,λ_=>rfl⟩))))
 .exact F4 (am (qW (e.trans j) (X6 o (aC (d:= .bl ML) (β1:=β) rfl (k ML ⟨λz=>(by cases z),λz=>Nh z p⟩)))))
theorem ix4{x0 x1 x2 x3:D}{i:Int}(b:0<=i)(c:i<4):∃d,(d=x0\/d=x1\/d=x2\/d=x3)/\j0 (.lst [x0,x1,x2,x3]) (.int i)=My d:=by
 have:i=0\/i=1\/i=2\/i=3:=by lia
 rcases this with rfl|rfl|rfl|rfl
 .exact⟨x0,.inl rfl,rfl⟩
 .exact⟨x1,.inr (.inl rfl),rfl⟩
 .exact⟨x2,.inr (.inr (.inl rfl)),rfl⟩
 .exact⟨x3,.inr (.inr (.inr rfl)),rfl⟩
theorem J1{x y z w:D}:gB [x,y,z,w]=My (.lst [x,y,z,w]):=by
 unfold gB;rw[MU (bh (by show 4<=1000;decide))]
theorem KN{f g:FD}{a:Dn}{c e:Bool}(b:f a β=My (.ok (.bl c),β))(d:g a β=My (.ok (.bl e),β)):vO f g a β=My (.ok (.bl (c&&e)),β):=by
 unfold vO M.bind;rw[b];cases c
 .rfl
 .simp only[M.ofO,asB,NN,d,Py]
theorem n9{P:Prop}{c d:Bool}(b:c=MH↔P)(e:d=MH↔P):c=d:=by
 cases c<;>cases d<;>simp_all
theorem Fa(s:Vu K (.ref a.Ah) (.ref a.Ah)=My MH)(hB:Vu K (.ref a.Ae) (.ref a.Ae)=My MH)(β:Bg)(ok:β.ok):∃p,qJ K a [ME,My (.sh .bag),ME,ME,ME,ME,ME,ME,ME,ME] β=My (.rt (.bl MH),p):=by
 suffices h:Gw (qJ K a) [ME,My (.sh .bag),ME,ME,ME,ME,ME,ME,ME,ME] β (λo _=>o= .rt (.bl MH)) by
  obtain⟨o,p,e,rfl⟩:=h;exact⟨p,e⟩
 obtain⟨A,r,c,β1,e1,I,J⟩:=Ev (K:=K) (a:=a) ok;obtain⟨l,ab,e2,bl,kl,L⟩:=yA (K:=K) (a:=a) I.1 J;obtain⟨B,rs,cs,rfl,n,lr,lc,y⟩:=IV I bl kl;obtain⟨R,w,e3,fw,N⟩:=xT (K:=K) (a:=a) I.1 L;have c6:=n.c6;have r0:=n.nr.1;have r4:=n.nr.2.1;have x1:=λβ=>kR (K:=K) (a:=a) (β:=β) (a_:=A) (by rw[n.shp.1];lia);have x2:=λβ=>iJ (K:=K) (a:=a) (β:=β) n.shp r0 (by lia) (by lia);rw[n.rw1]at x1;rw[n.cl1]at x2;have t:∀l:a0a,(nI l).length=l.length:=λl=>MD _;obtain⟨b,e4,hb⟩:=lgR (K:=K) (a:=a) (β:=w) (told:=R) (rs:=nI rs) (cs:=nI cs) (lim:=gl B) (by rw[t];exact r0) (by rw[t];lia) (by rw[t];lia) (by rw[t,t];exact iw n.bok.1);rw[t,t]at hb;have gP:b=MH↔e_ rs.length cs.length R/\Gk (wB B cs) 0 rs (tp cs.length R):=hb.trans ⟨λz=>⟨z.1,Mp n.bok z⟩,λz=>Ly n.bok n.sm z.1 z.2⟩;have C:e_ rs.length cs.length R->∀u∈tp cs.length R,wh u=MH:=λsh u C=>by
  have st:=i7 (d:=(0:Int)) (c:=cs.length) sh.1;have lu:u.length=rs.length:=st.2 u C;unfold wh;rw[M3 (by lia:u.length<=6),Py];refine OR.mpr λx O=>M3 ?_;obtain⟨E,hr,v⟩:=Ld C O;rcases v with v|rfl
  .have:=(fw.2 E hr).2 x v
   lia
  .decide
 have T:R.length<=1000:=Ng fw.1 (by decide);have nN:=Yz (K:=K) (a:=a) n.nt T C;have nS:=Yn (K:=K) (a:=a) n.nt T C;have cp:∀{β:Bg},(eE K a).1 [aG R] β=My (.ok (aG R),β):=λ{β}=>sV (by rw[MD];exact T);have i:js (wB B cs) cs.length 0 rs<=2^160:=yY (K:=K) (a:=a) (k:=0) n.nt (N2 _) (Nq.mpr rfl);have b160:j1 (wB B cs) cs.length 0 rs<=2^160:=Ng (Gb _ _ _) i;unfold qJ;refine aC (ak rfl e1) (aC (ak rfl e2) (aC (ak rfl (HP n)) (aC (ak rfl e3) (aC (d:= .bl b) (β1:=w) (ak (aa rfl (aa (ak rfl (x1 w)) (aa (ak rfl (x2 w)) (aa rfl rfl)))) e4) ?_))));show Gw _ (S_ A (ni B) (bC a (wB B cs) (ni B) rs cs) (aG R) b ME ME ME) w _;have g:∀{f:FD} {d M:Bool} {y H:a0O} {β:Bg} {h:G} {Q:a0v},f (fc (S_ A (ni B) (bC a (wB B cs) (ni B) rs cs) (aG R) b (My (.sh (.bl d))) y H)) β=My (.ok (.bl M),β)->d=M->Gw h (S_ A (ni B) (bC a (wB B cs) (ni B) rs cs) (aG R) b (My (.sh (.bl d))) y H) β Q->Gw (ay (xi (fB (f2 fW (ag 7) f)) (jA (fC (.bl ML))) gNil) h) (S_ A (ni B) (bC a (wB B cs) (ni B) rs cs) (aG R) b (My (.sh (.bl d))) y H) β Q:=λ{f d M y H β h Q} e q k=>by
  subst q;exact gZ (β1:=β) (hE (c:=ML) (dq rfl e ((Mu d d).trans (by rw[M3 rfl];rfl)))) (bD k)
 refine xN s nN (mW (aa rfl (aa (ak rfl cp) rfl))) λd D=>?_;refine g rfl (n9 D gP) ?_;refine xN s nS (mW (aa rfl (aa (ak rfl cp) rfl))) λd D=>?_;refine g rfl (n9 D gP) ?_;have ac:(2:Nat)^160+1000<=2^170:=by decide
 have j:∀{k:Int} {m:Nat},(decide (0<=k)&&decide (k<(m:Int)))=MH↔0<=k/\k<(m:Int):=λ{k m}=>by rw[No,Nv,Nv]
 obtain⟨u1,ad,p4,v1,v2,U⟩:=bv N (lot:=4) (by decide) (by decide);obtain⟨u2,ae,p5,v3,v4,X⟩:=bv U (lot:=9) (by decide) (by decide);obtain⟨u3,F,p6,v5,v6,Y⟩:=bv X (lot:=4) (by decide) (by decide);obtain⟨k,hk,O⟩:∃k:Int,k.natAbs<=2^170/\j0 (.lst [.int ((j1 (wB B cs) cs.length 0 rs:Nat):Int),.int (0-1-u1),.int (((j1 (wB B cs) cs.length 0 rs:Nat):Int)+u2),.int 0]) (.int u3)=My (.int k):=by
  obtain⟨d,D,e⟩:=ix4 (x0:= .int ((j1 (wB B cs) cs.length 0 rs:Nat):Int)) (x1:= .int (0-1-u1)) (x2:= .int (((j1 (wB B cs) cs.length 0 rs:Nat):Int)+u2)) (x3:= .int 0) v5 v6;rcases D with rfl|rfl|rfl|rfl<;>exact⟨_,by lia,e⟩
 refine aC (d:= .int k) (β1:=F) (dq (ai (aa (bA rfl rfl kg) (aa (dq (dq rfl rfl rfl) (ak rfl p4) rfl) (aa (dq (bA rfl rfl kg) (ak rfl p5) rfl) (aa rfl rfl)))) J1) (ak rfl p6) O) ?_;refine xN hB (YR n.nt hk b160) (mW rfl) λd D=>?_;refine g (KN (dq rfl rfl rfl) (dq rfl (bA rfl rfl kg) rfl)) (n9 D j) ?_;refine aC (d:= .int ((js (wB B cs) cs.length 0 rs:Nat):Int)) (β1:=F) (bA rfl rfl lz) ?_;obtain⟨u4,af,p7,y1,y2,Z⟩:=bv Y (lot:=4) (by decide) (by decide);obtain⟨u5,ah,p8,y3,y4,P⟩:=bv Z (lot:=9) (by decide) (by decide);obtain⟨u6,S,p9,y5,y6,aj⟩:=bv P (lot:=4) (by decide) (by decide);obtain⟨k2,V,W⟩:∃k:Int,k.natAbs<=2^170/\j0 (.lst [.int ((js (wB B cs) cs.length 0 rs:Nat):Int),.int (0-1-u4),.int (((js (wB B cs) cs.length 0 rs:Nat):Int)+u5),.int (((js (wB B cs) cs.length 0 rs:Nat):Int)-1)]) (.int u6)=My (.int k):=by
  obtain⟨d,D,e⟩:=ix4 (x0:= .int ((js (wB B cs) cs.length 0 rs:Nat):Int)) (x1:= .int (0-1-u4)) (x2:= .int (((js (wB B cs) cs.length 0 rs:Nat):Int)+u5)) (x3:= .int (((js (wB B cs) cs.length 0 rs:Nat):Int)-1)) y5 y6;rcases D with rfl|rfl|rfl|rfl<;>exact⟨_,by lia,e⟩
 refine aC (d:= .int k2) (β1:=S) (dq (ai (aa rfl (aa (dq (dq rfl rfl rfl) (ak rfl p7) rfl) (aa (dq rfl (ak rfl p8) rfl) (aa (dq rfl rfl rfl) rfl)))) J1) (ak rfl p9) W) ?_;refine xN hB (YT n.nt V i) (mW rfl) λd D=>?_;refine am (aJ (dq rfl (KN (dq rfl rfl rfl) (dq rfl (bA rfl rfl lz) rfl)) (Mw _ _)) ?_);rw[n9 D j,M3 rfl]
end
end Law
namespace L2.Pu
open PySem.W
section
variable{j:String->Option Builtin}{p:Ny}{w:NC}{f:Nat}{g:Option MO}{i:TZ}{q:Ri}
theorem bQ(k:Nat){n N:Nat}{s E r:MQ}{b:a0R}{c:Code}{D a:Ri}(h:segRun j p w f g 1 n s (piecesOf (b.take k) i c D [VC q])=My (.next,E,c,a))
  (d:topRun j p w f g N E (restOf (b.drop k) i c a [VC q])=My r):topRun j p w f g (n+N) s (restOf b i c D [VC q])=My r:=by
 have:=piece_app h d;rwa[Qd]at this
theorem Fl{N:Nat}{s r:MQ}{b:a0R}{c:Code}{D:Ri}(e:b=[])(k:topRun j p w f g N s ⟨doneF .next,c,D,[VC q]⟩=My r):topRun j p w f g N s (restOf b i c D [VC q])=My r:=by
 subst e;exact piece_nil k
end
end L2.Pu
namespace Law
open L2 L2.Pu
noncomputable abbrev E(P:UJ)(n:NA)(t:Nat)(v:MO):QZ:=⟨PyData.keyHash P (n),.str (n) t,v⟩
noncomputable abbrev FN(x q:NA)(s:N3)(b c a d:MO)(e:a0B)(w D:MO):Nk:=QP x q (jd s) (cA s) (af s) b c a d e w D
noncomputable abbrev fO(f:Nk):Oa:=⟨.type "function",ME,.func f,#[]⟩
noncomputable abbrev tO(l:a0f):Oa:=⟨.type "tuple",ME,.seq l.toArray 0,#[]⟩
noncomputable abbrev cO(l:a0f):Oa:=⟨.type "code",ME,.fields l.toArray,#[]⟩
noncomputable abbrev eR(P:UJ)(n:NA)(t r:Nat):QZ:=E P n t (.ref r)
noncomputable abbrev nO(l:a0f):Oa:=⟨.none,ME,.fields l.toArray,#[]⟩
noncomputable abbrev fB(x q:NA)(s:N3):Oa:=⟨.none,ME,.func ⟨x,q,jd s,.stmts (cA s),af s,0,[],.none,.none,.none,.none,ME,.none,.none,0⟩,#[]⟩
noncomputable abbrev cC(n q:NA)(t l a D c fl r:Nat)(b:Bool)(d e:Nat)(x y z w:MO)(u f v:Nat):Oa:=cO [.str n t,.str q (t+1),.str "/claim/cut.py" (t+2),.int l 0,.int a 0,.int D 0,.int c 0,.int fl 0,.ref r,.bool b,.int d 0,.ref e,x,y,z,w,.int u 0,.int f 0,.str "/claim/cut.py" v]
abbrev Zj:a0f:=[(.ref 38),(.type "ValueError"),(.type "Exception"),(.type "BaseException"),(.type "object")]
noncomputable abbrev xOo(x:NA)(a d b t u:Nat):Oa:=⟨(.type "type"),ME,(.cls ⟨x,[(.ref 38)],(.ref a)::Zj,d,x,MH,[],[],ML,ME,ML⟩),#[(My (.ref b)),ME,(My (.str x t)),(My (.str x u)),(My (.builtin "ValueError.__new__")),(My (.bool MH))]⟩
noncomputable abbrev Y_(n:Nat):Oa:=⟨(.type "builtin_function_or_method"),ME,(.fields #[(.builtin "object.__init_subclass__"),(.ref n)]),#[]⟩
noncomputable abbrev p_:MO:= .str "edgetally.errors" 194
noncomputable abbrev I_:MO:= .str "edgetally.net" 495
noncomputable abbrev PC:MO:= .str "EdgeError" 204
noncomputable abbrev WV:MO:= .str "EdgeError" 196
noncomputable abbrev ZV:MO:= .str "__main__" 164
noncomputable def ZW:a0a->a0f
 |a::b::c::l=> .int a 0:: .int b 0:: .ref c::ZW l
 |_=>[]
noncomputable abbrev nT(l:a0a):Oa:=nO (ZW l)
noncomputable def ZZ:Nat->a0h->a0f
 |_,[]=>[]
 |t,x::l=> .str x t::ZZ (t+1) l
noncomputable abbrev tS(t:Nat)(l:a0h):Oa:=tO (ZZ t l)
noncomputable def fD(o:Oa):Nk:=match o.data with
 | .func f=>f
 |_=>FN "" "" (dk 0) .none .none .none .none ME .none .none
abbrev T5:=NA×NA×Nat×Nat×a0h
noncomputable abbrev h5(x:NA)(l a:Nat)(n:a0h):T5:=(x,x,l,a,n)
def zN:a0h->Nat
 |[]=>4
 |_=>6
def uN(d k:MO)(b:Nat)(v:MO)(s:N3)(x q:NA)(r t l a:Nat)(n:a0h):a0N:=[tO [],nO []]++(match n with|[]=>[]|_=>[tS (t+3) n,tO []])++[fB x q s,match n with|[]=>cC x q t l a 0 b 3 r MH 181 (r+1) .none .none .none (.ref (r+2)) (t+3) l (t+4)|_=>cC x q t l a 0 b 3 r MH 181 (r+1) .none (.ref (r+2)) (.ref (r+3)) (.ref (r+4)) (t+3+n.length) l (t+4+n.length),fO (FN x q s d k .none v ME (.ref (r+zN n-1)) .none)]
def gO(v:MO)(s:Nat->N3):Nat->Nat->Nat->List T5->a0N
 |i,r,t,(x,q,l,a,n)::L=>uN .none .none 0 v (s i) x q r t l a n++gO v s (i+1) (r+zN n+1) (t+n.length+6) L
 |_,_,_,_=>[]
def gM(P:UJ):Nat->Nat->List T5->List QZ
 |r,t,(x,_,_,_,n)::L=>E P x (t+n.length+5) (.ref (r+zN n))::gM P (r+zN n+1) (t+n.length+6) L
 |_,_,_=>[]
def gA:Nat->List T5->a0n
 |r,(_,_,_,_,n)::L=>(r+zN n-1)::(r+zN n)::gA (r+zN n+1) L
 |_,_=>[]
noncomputable def fk(L:a0N)(i:Nat):Nk:=fD (L.getD i (tO []))
noncomputable abbrev XR(a b:Nat)(v:MO):Oa:=⟨(.type "frame"),ME,.plain,#[(My (.ref a)),(My (.ref 3)),(My (.ref b)),ME,(My v),ME,(My (.ref 0))]⟩
noncomputable abbrev Ym(a:Nat):Oa:=⟨(.type "super"),ME,(.fields #[(.ref a),(.ref a),(.ref a)]),#[]⟩
noncomputable def ZE:Oa:=⟨(.type "builtin_function_or_method"),ME,(.fields #[(.builtin "type.__prepare__"),(.type "type")]),#[]⟩
def uE(P:UJ)(i R T l:Nat)(x q:NA)(d n c:a0h):a0N:=let M:=R+7+d.length;let t:=T+12+d.length;let u:=t+5+n.length;let y:=E P "__module__" (T+7) p_;let z:=[E P "__firstlineno__" (T+11) (.int l (T+10)),eR P "__init__" u (M+6),eR P "__static_attributes__" (u+1+c.length) (M+7)];[tO [.ref 38],ZE,⟨.type "dict",ME,.dict (y::E P "__qualname__" (T+9) (.str x (T+8))::z).toArray 5,#[]⟩,tO [],nT [l+2,4,M+5],cC x x (T+2) l 0 0 0 0 (R+3) ML 181 (R+4) .none .none .none .none (T+5) l (T+6),XR (R+5) (R+2) p_]++(match d with|[]=>[]|_=>[tS (T+12) d])++uN (match d with|[]=> .none|_=> .ref (R+7)) .none 0 p_ (cz (dk i) 0) "__init__" q M t (l+2) n.length n++[tS (u+1) c,⟨.type "dict",ME,.dict (y::z++[E P "__doc__" (u+2+c.length) .none]).toArray 2,#[]⟩,xOo x (M+9) (M+8) R T (T+8),Ym (M+9),Y_ (M+9)]
section
variable(P:UJ)
def Z6:List T5:=[h5 "_wall" 1 1 ["k"]]
def rrA:a0N:=gO ZV dk 0 15 187 Z6
def XM:List T5:=[("__init__","EdgeError.__init__",7,3,["self","word","why"])]
def Z5:a0N:=gO p_ (cz (dk 2)) 0 29 208 XM
def YL:List T5:=[h5 "check_sums" 44 2 [],h5 "check_pair" 55 1 ["pair","low","high"],h5 "settled_bounds" 59 3 [],h5 "rows_turned" 68 1 []]
def Xk:a0N:=gO (.str "edgetally.bounds" 376) dk 15 167 393 YL
def YK:List T5:=[h5 "factorial" 71 1 ["number","product","factor"],h5 "ways" 76 1 ["parts","part","told"],h5 "fillings" 84 3 []]
def XI:a0N:=gO (.str "edgetally.counts" 420) dk 20 189 422 YK
def YJ:List T5:=[h5 "need_of" 94 2 [],h5 "room_inside" 96 4 [],h5 "room_beside" 99 3 [],h5 "room_of" 101 4 [],h5 "narrowest" 103 3 [],h5 "choices" 105 1 [],h5 "check_fit" 110 3 ["rowsums","columnsums","bounds","over","into"]]
def R_:a0N:=gO (.str "edgetally.fits" 446) dk 24 208 448 YJ
def YI:List T5:=[h5 "check_wide" 117 1 ["rowsums","wide","many"],h5 "settled_for_net" 123 3 ["rowsums","columnsums","bounds","settled"],h5 "column_fillings" 128 4 [],h5 "rests_behind" 130 2 [],h5 "nodes_by_level" 132 3 [],h5 "node_counts" 140 3 ["rests","filled","behind","tables","dealings","counts","tables_behind","dealings_behind"],h5 "counted_nodes" 148 3 []]
def Q_:a0N:=gO I_ dk 33 245 499 YI
def YH:List T5:=[("__eq__","Net.__eq__",168,2,["self","other"]),("__len__","Net.__len__",171,1,["self"]),("rowsums","Net.rowsums",174,1,["self"]),("columnsums","Net.columnsums",177,1,["self"]),("bounds","Net.bounds",180,1,[]),("counts_at","Net.counts_at",183,3,["self","level","rests"]),("tables","Net.tables",186,1,["self"]),("dealings","Net.dealings",189,1,["self"]),("steps","Net.steps",192,3,[]),("paper","Net.paper",197,1,["self"])]
def WY:a0N:=gO I_ (cz (dk 40)) 1 301 580 YH
def YG:List T5:=[h5 "check_number" 200 2 ["k","many"],h5 "steps_counted" 203 3 ["net","level","rests","told","counts","tables","dealings"],h5 "falls_to" 209 2 ["numbered","k","at"],h5 "kth_table" 215 2 [],h5 "kth_dealing" 225 2 [],h5 "columns_asked" 236 2 [],h5 "counted_ahead" 241 4 ["net","level","rests","filling","tables_ahead","dealings_ahead","counts","tables","dealings"],h5 "number_of" 250 2 ["net","rows","rests","number","level","filling"],h5 "stretch" 257 2 ["net","rows","rests","first","many","level","filling"]]
def Fv:a0N:=gO (.str "edgetally.order" 664) dk 42 374 666 YG
def YF:List T5:=[h5 "_law_bag" 267 1 [],h5 "_law_pull" 269 2 ["_law_bag_here","_law_lot","_law_cells","_law_at","_law_cell"],h5 "_law_grid" 279 4 [],h5 "_law_small" 286 1 ["_law_bag_here","_law_way","_law_block","_law_columns"],h5 "_law_turned" 297 1 [],h5 "_law_rowsums" 299 1 [],h5 "_law_columnsums" 301 1 [],h5 "_law_free" 303 2 [],h5 "_law_bounds" 305 2 ["_law_bag_here","_law_grid_here","_law_told","_law_at","_law_row","_law_to","_law_count","_law_way"],h5 "_law_copied" 317 1 [],h5 "_law_net" 319 2 ["_law_grid_here","_law_limits"],h5 "_law_good" 321 4 ["_law_block","_law_rowsums_here","_law_columnsums_here","_law_limits","_law_row","_law_count","_law_pairs","_law_duo"],h5 "_law_strange" 337 2 [],h5 "law" 361 1 ["_law_script","_law_bag_here","_law_grid_here","_law_limits","_law_net_here","_law_block","_law_due","_law_told","_law_k","_law_lot"]]
def sA:a0N:=gO (.str "law_edgetally_k25_numbers_refused" 754) dk 52 431 756 YF
def Z4:a0N:=uN .none (.ref 161) 1 (.str "edgetally.bounds" 376) (dk 14) "free" "free" 162 387 42 2 []
def Z3:a0N:=uN .none (.ref 293) 1 I_ (cz (dk 40) 0) "__init__" "Net.__init__" 294 569 160 3 ["self","rowsums","columnsums","bounds","settled"]
def mL:List QZ:=(E P "__name__" 165 (.str "law_edgetally_k25_numbers_refused" 754))::((match(V4 P).data with| .dict e _=>e.toList|_=>[]).drop 1)++gM P 15 187 Z6++[(eR P "EdgeError" 223 38),(eR P "BadSums" 248 59),(eR P "BadBounds" 273 79),(eR P "TooWide" 298 98),(eR P "Barred" 325 117),(eR P "BadNumber" 350 137),(eR P "NoTable" 375 157),(E P "MOST" 379 (.int 40 378)),(E P "MOST_ROWS" 381 (.int 4 380)),(E P "MOST_COLUMNS" 383 (.int 6 382)),(eR P "FREE" 385 160),(eR P "free" 392 166)]++gM P 167 393 YL++gM P 189 422 YK++gM P 208 448 YJ++[(E P "WIDE" 498 (.int 500 497))]++gM P 245 499 YI++[(eR P "Net" 663 369)]++gM P 374 666 YG++gM P 431 756 YF
def vr(n:Nat)(v:MO):Oa:=⟨.type "dict",ME,.dict (((mL P).take n).set 0 (E P "__name__" 165 v)).toArray n,#[]⟩
noncomputable def b3:Oa:=⟨(.type "dict"),ME,(.dict (mL P).toArray 68),#[]⟩
def b7:Oa:=tO []
def ro:a0a:=[1,0,20,5,0,27,10,0,47,14,0,67,18,0,87,23,0,106,29,0,125,33,0,145,42,0,165,44,0,170,55,0,177,59,0,182,68,0,187,71,0,194,76,0,201,84,0,206,94,0,211,96,0,216,99,0,221,101,0,226,103,0,231,105,0,236,110,0,243,117,0,250,123,0,257,128,0,262,130,0,267,132,0,272,140,0,279,148,0,284,158,0,291,200,0,379,203,0,386,209,0,393,215,0,398,225,0,403,236,0,408,241,0,415,250,0,422,257,0,429,267,0,434,269,0,441,279,0,446,286,0,453,297,0,458,299,0,463,301,0,468,303,0,473,305,0,480,317,0,485,319,0,492,321,0,499,337,0,504,361,0,511]
def b12:Oa:=nT ro
def b13:Oa:=cC "<module>" "<module>" 182 1 0 0 0 0 11 ML 181 12 .none .none .none .none 185 1 186
def b14:Oa:=XR 13 3 ZV
def b22:Oa:=tO [(.type "ValueError")]
def b24:Oa:=⟨(.type "dict"),ME,(.dict ([(E P "__module__" 203 p_),(E P "__qualname__" 205 PC),(E P "__firstlineno__" 207 (.int 5 206))]++gM P 29 208 XM++[(eR P "__static_attributes__" 218 36)]).toArray 5),#[]⟩
def b26:Oa:=nT [7,4,34]
def b27:Oa:=cC "EdgeError" "EdgeError" 198 5 0 0 0 0 25 ML 181 26 .none .none .none .none 201 5 202
def b28:Oa:=XR 27 24 p_
def b36:Oa:=tS 217 ["word"]
def b37:Oa:=⟨(.type "dict"),ME,(.dict ([(E P "__module__" 203 p_),(E P "__firstlineno__" 207 (.int 5 206))]++gM P 29 208 XM++[(eR P "__static_attributes__" 218 36),(eR P "__weakref__" 220 39),(E P "__doc__" 221 .none)]).toArray 3),#[]⟩
def b38:Oa:=⟨(.type "type"),ME,(.cls ⟨"EdgeError",[(.type "ValueError")],[(.ref 38),(.type "ValueError"),(.type "Exception"),(.type "BaseException"),(.type "object")],37,"EdgeError",MH,[],[(.ref 59),(.ref 79),(.ref 98),(.ref 117),(.ref 137),(.ref 157)],ML,ME,ML⟩),#[(My (.ref 22)),ME,(My WV),(My PC),(My (.builtin "ValueError.__new__")),(My (.bool MH))]⟩
noncomputable def b39:Oa:=⟨(.type "getset_descriptor"),ME,(.fields #[(.str "__weakref__" 219),(.ref 38),(.builtin "ExceptionGroup.__weakref__"),.none]),#[]⟩
def b40:Oa:=Ym 38
def b41:Oa:=Y_ 38
def b160:Oa:=tO [(.int 0 384),(.int 40 378)]
def ZF:Oa:=⟨(.type "dict"),ME,(.dict #[(eR P "pair" 386 160)] 1),#[]⟩
def ZD:Oa:=⟨(.type "dict"),ME,(.dict ([(E P "__module__" 563 I_),(E P "__qualname__" 565 (.str "Net" 564)),(E P "__firstlineno__" 567 (.int 158 566)),(eR P "__init__" 579 300)]++gM P 301 580 YH++[(eR P "__static_attributes__" 655 367)]).toArray 15),#[]⟩
def ZC:Oa:=nT [160,4,299,168,4,306,171,4,313,174,4,320,177,4,327,180,4,332,183,4,339,186,4,346,189,4,353,192,4,358,197,4,365]
def ZB:Oa:=cC "Net" "Net" 558 158 0 0 0 0 289 ML 181 290 .none .none .none .none 561 158 562
def ZA:Oa:=XR 291 288 I_
def Zz:Oa:=⟨(.type "dict"),ME,(.dict #[(E P "bounds" 568 .none)] 1),#[]⟩
def Zy:Oa:=tS 651 ["column_list","counted","pairs","row_list"]
def Zx:Oa:=⟨(.type "dict"),ME,(.dict ([(E P "__module__" 563 I_),(E P "__firstlineno__" 567 (.int 158 566)),(eR P "__init__" 579 300)]++gM P 301 580 YH++[(eR P "__static_attributes__" 655 367),(eR P "__dict__" 657 370),(eR P "__weakref__" 659 371),(E P "__doc__" 660 .none),(E P "__hash__" 661 .none)]).toArray 5),#[]⟩
noncomputable def Zw:Oa:=⟨(.type "type"),ME,(.cls ⟨"Net",[(.type "object")],[(.ref 369),(.type "object")],368,"Net",MH,[],[],ML,ME,ML⟩),#[ME,ME,(My (.str "Net" 556)),(My (.str "Net" 564)),(My (.builtin "object.__new__")),(My (.bool MH))]⟩
noncomputable def Zv:Oa:=⟨(.type "getset_descriptor"),ME,(.fields #[(.str "__dict__" 656),(.ref 369),(.builtin "function.__dict__"),(.builtin "function.__dict__#set")]),#[]⟩
noncomputable def Zu:Oa:=⟨(.type "getset_descriptor"),ME,(.fields #[(.str "__weakref__" 658),(.ref 369),(.builtin "ExceptionGroup.__weakref__"),.none]),#[]⟩
def Zt:Oa:=Ym 369
def Zs:Oa:=Y_ 369
def L6:Oa:=nT (ro.take 3)
def Y2:Oa:=vr P 10 p_
def L5:Oa:=nT (ro.take 6)
def Y1:Oa:=vr P 11 p_
def L0:Oa:=⟨(.type "type"),ME,(.cls ⟨"EdgeError",[(.type "ValueError")],[(.ref 38),(.type "ValueError"),(.type "Exception"),(.type "BaseException"),(.type "object")],37,"EdgeError",MH,[],[],ML,ME,ML⟩),#[(My (.ref 22)),ME,(My WV),(My PC),(My (.builtin "ValueError.__new__")),(My (.bool MH))]⟩
def LZ:Oa:=nT (ro.take 9)
def Y0:Oa:=vr P 12 p_
def LY:Oa:=⟨(.type "type"),ME,(.cls ⟨"EdgeError",[(.type "ValueError")],[(.ref 38),(.type "ValueError"),(.type "Exception"),(.type "BaseException"),(.type "object")],37,"EdgeError",MH,[],[(.ref 59)],ML,ME,ML⟩),#[(My (.ref 22)),ME,(My WV),(My PC),(My (.builtin "ValueError.__new__")),(My (.bool MH))]⟩
def LX:Oa:=nT (ro.take 12)
def YZ:Oa:=vr P 13 p_
def LW:Oa:=⟨(.type "type"),ME,(.cls ⟨"EdgeError",[(.type "ValueError")],[(.ref 38),(.type "ValueError"),(.type "Exception"),(.type "BaseException"),(.type "object")],37,"EdgeError",MH,[],[(.ref 59),(.ref 79)],ML,ME,ML⟩),#[(My (.ref 22)),ME,(My WV),(My PC),(My (.builtin "ValueError.__new__")),(My (.bool MH))]⟩
def LV:Oa:=nT (ro.take 15)
def YY:Oa:=vr P 14 p_
def LU:Oa:=⟨(.type "type"),ME,(.cls ⟨"EdgeError",[(.type "ValueError")],[(.ref 38),(.type "ValueError"),(.type "Exception"),(.type "BaseException"),(.type "object")],37,"EdgeError",MH,[],[(.ref 59),(.ref 79),(.ref 98)],ML,ME,ML⟩),#[(My (.ref 22)),ME,(My WV),(My PC),(My (.builtin "ValueError.__new__")),(My (.bool MH))]⟩
def LT:Oa:=nT (ro.take 18)
def YX:Oa:=vr P 15 p_
def LS:Oa:=⟨(.type "type"),ME,(.cls ⟨"EdgeError",[(.type "ValueError")],[(.ref 38),(.type "ValueError"),(.type "Exception"),(.type "BaseException"),(.type "object")],37,"EdgeError",MH,[],[(.ref 59),(.ref 79),(.ref 98),(.ref 117)],ML,ME,ML⟩),#[(My (.ref 22)),ME,(My WV),(My PC),(My (.builtin "ValueError.__new__")),(My (.bool MH))]⟩
def LR:Oa:=nT (ro.take 21)
def YW:Oa:=vr P 16 p_
def LQ:Oa:=⟨(.type "type"),ME,(.cls ⟨"EdgeError",[(.type "ValueError")],[(.ref 38),(.type "ValueError"),(.type "Exception"),(.type "BaseException"),(.type "object")],37,"EdgeError",MH,[],[(.ref 59),(.ref 79),(.ref 98),(.ref 117),(.ref 137)],ML,ME,ML⟩),#[(My (.ref 22)),ME,(My WV),(My PC),(My (.builtin "ValueError.__new__")),(My (.bool MH))]⟩
def LO:Oa:=nT (ro.take 24)
def YV:Oa:=vr P 17 p_
def LN:Oa:=nT (ro.take 42)
noncomputable def YU:Oa:=vr P 27 (.str "edgetally.counts" 420)
def Kk:Oa:=nT (ro.take 66)
noncomputable def Mc:Oa:=vr P 35 (.str "edgetally.fits" 446)
def Ki:Oa:=nT (ro.take 87)
def Mb:Oa:=vr P 43 I_
def Kg:Oa:=nT (ro.take 90)
def Ma:Oa:=vr P 44 I_
def Ke:Oa:=nT (ro.take 93)
def L9:Oa:=vr P 45 I_
def Kc:Oa:=nT (ro.take 114)
noncomputable def L8:Oa:=vr P 52 (.str "edgetally.order" 664)
def Ka:Oa:=nT (ro.take 138)
noncomputable def L7:Oa:=⟨(.type "dict"),ME,(.dict ((mL P).take 60).toArray 60),#[]⟩
def kL:a0N:=((VM P).objs.toList.set 3 (b3 P))++[b7,b12,b13,b14]++rrA++[b22,ZE,b24 P,b7,b26,b27,b28]++Z5++[b36,b37 P,b38,b39,b40,b41]++uE P 3 42 224 10 "BadSums" "BadSums.__init__" ["these sums are no table's"] ["self","why"] []++uE P 4 62 249 14 "BadBounds" "BadBounds.__init__" ["these bounds are no table's"] ["self","why"] []++uE P 5 82 274 18 "TooWide" "TooWide.__init__" [] ["self","wide"] ["wide"]++uE P 6 101 299 23 "Barred" "Barred.__init__" [] ["self","over","into"] ["into","over"]++uE P 7 120 326 29 "BadNumber" "BadNumber.__init__" ["this number is out of its bounds"] ["self","why"] []++uE P 8 140 351 33 "NoTable" "NoTable.__init__" ["the net has no such table"] ["self","why"] []++[b160,ZF P]++Z4++Xk++XI++R_++Q_++[b7,ZE,ZD P,b7,ZC,ZB,ZA,Zz P]++Z3++WY++[Zy,Zx P,Zw,Zv,Zu,Zt,Zs]++Fv++sA
abbrev W0:NS:=VM P
def XQ:NS:=⟨⟨(((kL P).take 15).set 3 (V4 P)).set 12 (nO [])⟩,{}⟩
def k1H:NS:=⟨⟨(((kL P).take 22).set 3 (Y2 P)).set 12 (L6)⟩,{}⟩
def k2H:NS:=⟨⟨((((kL P).take 42).set 3 (Y1 P)).set 12 (L5)).set 38 (L0)⟩,{}⟩
def k3H:NS:=⟨⟨((((kL P).take 62).set 3 (Y0 P)).set 12 (LZ)).set 38 (LY)⟩,{}⟩
def k4H:NS:=⟨⟨((((kL P).take 82).set 3 (YZ P)).set 12 (LX)).set 38 (LW)⟩,{}⟩
def k5H:NS:=⟨⟨((((kL P).take 101).set 3 (YY P)).set 12 (LV)).set 38 (LU)⟩,{}⟩
def Z_:NS:=⟨⟨((((kL P).take 120).set 3 (YX P)).set 12 (LT)).set 38 (LS)⟩,{}⟩
def Z9:NS:=⟨⟨((((kL P).take 140).set 3 (YW P)).set 12 (LR)).set 38 (LQ)⟩,{}⟩
def Z8:NS:=⟨⟨(((kL P).take 160).set 3 (YV P)).set 12 (LO)⟩,{}⟩
def Z7:NS:=⟨⟨(((kL P).take 196).set 3 (YU P)).set 12 (LN)⟩,{}⟩
def Kl:NS:=⟨⟨(((kL P).take 238).set 3 (Mc P)).set 12 (Kk)⟩,{}⟩
def Kj:NS:=⟨⟨(((kL P).take 281).set 3 (Mb P)).set 12 (Ki)⟩,{}⟩
def Kh:NS:=⟨⟨(((kL P).take 286).set 3 (Ma P)).set 12 (Kg)⟩,{}⟩
def Kf:NS:=⟨⟨(((kL P).take 374).set 3 (L9 P)).set 12 (Ke)⟩,{}⟩
def Kd:NS:=⟨⟨(((kL P).take 417).set 3 (L8 P)).set 12 (Kc)⟩,{}⟩
def Kb:NS:=⟨⟨(((kL P).take 465).set 3 (L7 P)).set 12 (Ka)⟩,{}⟩
noncomputable def vt:NS:=⟨⟨kL P⟩,{}⟩
end
noncomputable def aH:a0n:=[2,3]++gA 29 XM++[37,38,127,133,134,136,137,147,153,154,156,157,160,161,165,166]++gA 167 YL++gA 189 YK++gA 208 YJ++gA 245 YI++[293,299,300,320,321,327,328,339,340,346,347,353,354,358,359,368,369]++gA 374 YG++gA 431 YF
def KH(P:UJ):M9:=aH.map λi=>(i,(kL P).getD i (tO []))
theorem eH:∀P,aH=(KH P).map (·.1):=λ_=>by kernel_rfl
noncomputable def qH:Ny:={PySem.Challenge.pw_edgetally_k25_numbers_refused with main:={PySem.Challenge.pw_edgetally_k25_numbers_refused.main with body:=[dk 0,dk 2,dk 3,dk 4,dk 5,dk 6,dk 7,dk 8,dk 10,dk 11,dk 12,dk 13,dk 15,dk 16,dk 17,dk 18,dk 20,dk 21,dk 22,dk 24,dk 25,dk 26,dk 27,dk 28,dk 29,dk 30,dk 32,dk 33,dk 34,dk 35,dk 36,dk 37,dk 38,dk 39,dk 40,dk 42,dk 43,dk 44,dk 45,dk 46,dk 47,dk 48,dk 49,dk 50,dk 52,dk 53,dk 54,dk 55,dk 56,dk 57,dk 58,dk 59,dk 60,dk 61,dk 62,dk 63,dk 64,dk 65]}}
noncomputable abbrev lvH:List (NA×PySem.W.WData):=[("FREE",PySem.W.WData.tuple [UA 0,UA 40])]
noncomputable abbrev loH:a0h:=["BadSums","BadBounds","BadNumber","NoTable","FREE","free","Net"]
abbrev hkH:=PySem.W.kHook KH aH eH
def xtH(s:MQ):Bool:=PySem.W.xlAt qH lvH s&&PySem.W.recOk (PySem.W.RowW.records (O3 (Ph NE))) s
noncomputable abbrev pH:Ny:=UK (O3 (Ph NE))
noncomputable def ot:a0R:=PySem.W.behindTheImports pH
noncomputable def o4:TZ:={scope:=pH.main.scope,locals:=mainNs,globals:=mainNs,cells:=[],code:=(.ref 13),frame:=(My 14)}
def cH:Code:= .body ot o4
noncomputable abbrev oD:List Frame:=[PySem.W.topFrame ⟨0,0,0,0⟩]
theorem opH(w:NC):(PySem.W.fencedOpening NG pH w 7520).map (λs=>(s.heap,s.gens,s.drawn,s.toks))=My (W0 w.params,#[],{},181):=by kernel_rfl
theorem szH(w:NC):((W0 w.params).isNs O0&&(#[]:Array GenState).size==0,(W0 w.params).objs.size,(W0 w.params).nsMap O0 "__annotations__")=(MH,11,(My (.ref 6))):=by kernel_rfl
theorem r1H(w:NC)(D:Pi):PySem.W.topGo NG pH w 11 (My (.ref 6)) 12 ⟨W0 w.params,#[],{},181,D⟩ (Wt pH)=My (⟨XQ w.params,#[],{},187,D⟩,⟨denote NG (.body ot o4),cH,⟨0,0,0,0⟩,oD⟩):=by kernel_rfl
theorem r2H(w:NC)(D:Pi):N5 NG pH w 11 (My (.ref 6)) 1 1 ⟨XQ w.params,#[],{},187,D⟩ (PySem.W.blockOf ot o4 cH ⟨0,0,0,0⟩ oD)=My (.next,⟨XQ w.params,#[],{},187,D⟩,cH,⟨0,0,0,0⟩):=by kernel_rfl
theorem c1H(w:NC)(D:Pi):N5 NG pH w 11 (My (.ref 6)) 1 39 ⟨XQ w.params,#[],{},187,D⟩ (NY (ot.take 2) o4 cH ⟨0,0,0,0⟩ oD)=My (.next,⟨k1H w.params,#[],{},196,D⟩,cH,⟨4,0,4,8⟩):=by kernel_rfl
theorem c2H(w:NC)(D:Pi):N5 NG pH w 11 (My (.ref 6)) 1 220 ⟨k1H w.params,#[],{},196,D⟩ (NY ((ot.drop 2).take 1) o4 cH ⟨4,0,4,8⟩ oD)=My (.next,⟨k2H w.params,#[],{},224,D⟩,cH,⟨5,0,9,24⟩):=by kernel_rfl
theorem c3H(w:NC)(D:Pi):N5 NG pH w 11 (My (.ref 6)) 1 247 ⟨k2H w.params,#[],{},224,D⟩ (NY (((ot.drop 2).drop 1).take 1) o4 cH ⟨5,0,9,24⟩ oD)=My (.next,⟨k3H w.params,#[],{},249,D⟩,cH,⟨10,0,13,45⟩):=by kernel_rfl
theorem c4H(w:NC)(D:Pi):N5 NG pH w 11 (My (.ref 6)) 1 247 ⟨k3H w.params,#[],{},249,D⟩ (NY ((((ot.drop 2).drop 1).drop 1).take 1) o4 cH ⟨10,0,13,45⟩ oD)=My (.next,⟨k4H w.params,#[],{},274,D⟩,cH,⟨14,0,17,47⟩):=by kernel_rfl
theorem c5H(w:NC)(D:Pi):N5 NG pH w 11 (My (.ref 6)) 1 246 ⟨k4H w.params,#[],{},274,D⟩ (NY (((((ot.drop 2).drop 1).drop 1).drop 1).take 1) o4 cH ⟨14,0,17,47⟩ oD)=My (.next,⟨k5H w.params,#[],{},299,D⟩,cH,⟨18,0,22,24⟩):=by kernel_rfl
theorem c6H(w:NC)(D:Pi):N5 NG pH w 11 (My (.ref 6)) 1 248 ⟨k5H w.params,#[],{},299,D⟩ (NY ((((((ot.drop 2).drop 1).drop 1).drop 1).drop 1).take 1) o4 cH ⟨18,0,22,24⟩ oD)=My (.next,⟨Z_ w.params,#[],{},326,D⟩,cH,⟨23,0,28,30⟩):=by kernel_rfl
theorem c7H(w:NC)(D:Pi):N5 NG pH w 11 (My (.ref 6)) 1 247 ⟨Z_ w.params,#[],{},326,D⟩ (NY (((((((ot.drop 2).drop 1).drop 1).drop 1).drop 1).drop 1).take 1) o4 cH ⟨23,0,28,30⟩ oD)=My (.next,⟨Z9 w.params,#[],{},351,D⟩,cH,⟨29,0,32,47⟩):=by kernel_rfl
theorem c8H(w:NC)(D:Pi):N5 NG pH w 11 (My (.ref 6)) 1 247 ⟨Z9 w.params,#[],{},351,D⟩ (NY ((((((((ot.drop 2).drop 1).drop 1).drop 1).drop 1).drop 1).drop 1).take 1) o4 cH ⟨29,0,32,47⟩ oD)=My (.next,⟨Z8 w.params,#[],{},376,D⟩,cH,⟨33,0,36,45⟩):=by kernel_rfl
theorem c9H(w:NC)(D:Pi):N5 NG pH w 11 (My (.ref 6)) 1 232 ⟨Z8 w.params,#[],{},376,D⟩ (NY (((((((((ot.drop 2).drop 1).drop 1).drop 1).drop 1).drop 1).drop 1).drop 1).take 12) o4 cH ⟨33,0,36,45⟩ oD)=My (.next,⟨Z7 w.params,#[],{},431,D⟩,cH,⟨71,0,75,18⟩):=by kernel_rfl
theorem Zr(w:NC)(D:Pi):N5 NG pH w 11 (My (.ref 6)) 1 223 ⟨Z7 w.params,#[],{},431,D⟩ (NY ((((((((((ot.drop 2).drop 1).drop 1).drop 1).drop 1).drop 1).drop 1).drop 1).drop 12).take 9) o4 cH ⟨71,0,75,18⟩ oD)=My (.next,⟨Kl w.params,#[],{},484,D⟩,cH,⟨105,0,109,15⟩):=by kernel_rfl
theorem Zq(w:NC)(D:Pi):N5 NG pH w 11 (My (.ref 6)) 1 229 ⟨Kl w.params,#[],{},484,D⟩ (NY (((((((((((ot.drop 2).drop 1).drop 1).drop 1).drop 1).drop 1).drop 1).drop 1).drop 12).drop 9).take 9) o4 cH ⟨105,0,109,15⟩ oD)=My (.next,⟨Kj w.params,#[],{},550,D⟩,cH,⟨140,0,147,29⟩):=by kernel_rfl
theorem Zp(w:NC)(D:Pi):N5 NG pH w 11 (My (.ref 6)) 1 27 ⟨Kj w.params,#[],{},550,D⟩ (NY ((((((((((((ot.drop 2).drop 1).drop 1).drop 1).drop 1).drop 1).drop 1).drop 1).drop 12).drop 9).drop 9).take 1) o4 cH ⟨140,0,147,29⟩ oD)=My (.next,⟨Kh w.params,#[],{},556,D⟩,cH,⟨148,0,157,112⟩):=by kernel_rfl
theorem Zo(w:NC)(D:Pi):N5 NG pH w 11 (My (.ref 6)) 1 547 ⟨Kh w.params,#[],{},556,D⟩ (NY (((((((((((((ot.drop 2).drop 1).drop 1).drop 1).drop 1).drop 1).drop 1).drop 1).drop 12).drop 9).drop 9).drop 1).take 1) o4 cH ⟨148,0,157,112⟩ oD)=My (.next,⟨Kf w.params,#[],{},664,D⟩,cH,⟨158,0,198,16⟩):=by kernel_rfl
theorem Zn(w:NC)(D:Pi):N5 NG pH w 11 (My (.ref 6)) 1 221 ⟨Kf w.params,#[],{},664,D⟩ (NY ((((((((((((((ot.drop 2).drop 1).drop 1).drop 1).drop 1).drop 1).drop 1).drop 1).drop 12).drop 9).drop 9).drop 1).drop 1).take 8) o4 cH ⟨158,0,198,16⟩ oD)=My (.next,⟨Kd w.params,#[],{},729,D⟩,cH,⟨241,0,249,82⟩):=by kernel_rfl
theorem Zm(w:NC)(D:Pi):N5 NG pH w 11 (My (.ref 6)) 1 248 ⟨Kd w.params,#[],{},729,D⟩ (NY (((((((((((((((ot.drop 2).drop 1).drop 1).drop 1).drop 1).drop 1).drop 1).drop 1).drop 12).drop 9).drop 9).drop 1).drop 1).drop 8).take 9) o4 cH ⟨241,0,249,82⟩ oD)=My (.next,⟨Kb w.params,#[],{},801,D⟩,cH,⟨299,0,300,57⟩):=by kernel_rfl
theorem Zl(w:NC)(D:Pi):N5 NG pH w 11 (My (.ref 6)) 1 245 ⟨Kb w.params,#[],{},801,D⟩ (NY ((((((((((((((((ot.drop 2).drop 1).drop 1).drop 1).drop 1).drop 1).drop 1).drop 1).drop 12).drop 9).drop 9).drop 1).drop 1).drop 8).drop 9).take 8) o4 cH ⟨299,0,300,57⟩ oD)=My (.next,⟨vt w.params,#[],{},877,D⟩,cH,⟨361,0,397,75⟩):=by kernel_rfl
theorem e0H:((((((((((((((((ot.drop 2).drop 1).drop 1).drop 1).drop 1).drop 1).drop 1).drop 1).drop 12).drop 9).drop 9).drop 1).drop 1).drop 8).drop 9).drop 8)=[]:=by kernel_rfl
theorem r9H(w:NC)(D:Pi):WL NG pH w 11 (My (.ref 6)) 2 ⟨vt w.params,#[],{},877,D⟩ ⟨PySem.W.doneF .next,cH,⟨361,0,397,75⟩,oD⟩=My ⟨vt w.params,#[],{},877,D⟩:=by kernel_rfl
theorem rnH(w:NC)(D:Pi):WL NG pH w 11 (My (.ref 6)) (12+(1+(39+(220+(247+(247+(246+(248+(247+(247+(232+(223+(229+(27+(547+(221+(248+(245+2)))))))))))))))))) ⟨W0 w.params,#[],{},181,D⟩ (Wt pH)=My ⟨vt w.params,#[],{},877,D⟩:=PySem.W.go_top (r1H w D) (PySem.W.piece_block (r2H w D) (bQ 2 (c1H w D) (bQ 1 (c2H w D) (bQ 1 (c3H w D) (bQ 1 (c4H w D) (bQ 1 (c5H w D) (bQ 1 (c6H w D) (bQ 1 (c7H w D) (bQ 1 (c8H w D) (bQ 12 (c9H w D) (bQ 9 (Zr w D) (bQ 9 (Zq w D) (bQ 1 (Zp w D) (bQ 1 (Zo w D) (bQ 8 (Zn w D) (bQ 9 (Zm w D) (bQ 8 (Zl w D) (Fl e0H (r9H w D)))))))))))))))))))
theorem hlH:PySem.W.LeftO pH qH loH xtH (PySem.W.Hook.obs hkH) (PySem.W.Hook.val hkH) 7520:=PySem.W.LeftO.of_pieces (H₀:=W0) (H₁:=vt) opH szH rnH (by decide +kernel) λw=>by kernel_rfl
theorem wsH:PySem.W.OpenLaw.wellSaid NE=MH:=by decide +kernel
theorem okH:(PySem.W.chainsOk qH&&PySem.W.opensWell (UK (O3 (Ph NE)))&&(PySem.W.frees (O3 (Ph NE))&&(PySem.W.RowW.within (O3 (Ph NE))).isEmpty))=MH:=by decide +kernel
abbrev ZI:Ad:=⟨38,35,fk Z5 6,137,134,fk (uN (.ref 127) .none 0 p_ (cz (dk 7) 0) "__init__" "BadNumber.__init__" 128 339 31 2 ["self","why"]) 6,157,154,fk (uN (.ref 147) .none 0 p_ (cz (dk 8) 0) "__init__" "NoTable.__init__" 148 364 35 2 ["self","why"]) 6,369,166,fk Z4 4,171,fk Xk 4,178,fk Xk 11,183,fk Xk 16,188,fk Xk 21,195,fk XI 6,202,fk XI 13,207,fk XI 18,212,fk R_ 4,217,fk R_ 9,222,fk R_ 14,227,fk R_ 19,232,fk R_ 24,237,fk R_ 29,244,fk R_ 36,251,fk Q_ 6,258,fk Q_ 13,263,fk Q_ 18,268,fk Q_ 23,273,fk Q_ 28,280,fk Q_ 35,285,fk Q_ 40,380,fk Fv 6,387,fk Fv 13,394,fk Fv 20,399,fk Fv 25,404,fk Fv 30,409,fk Fv 35,416,fk Fv 42,423,fk Fv 49,430,fk Fv 56,435,fk sA 4,442,fk sA 11,447,fk sA 16,454,fk sA 23,459,fk sA 28,464,fk sA 33,469,fk sA 38,474,fk sA 43,481,fk sA 50,486,fk sA 55,493,fk sA 62,500,fk sA 69,505,fk sA 74,300,fk Z3 6,354,fk WY 53,340,fk WY 39,321,fk WY 20,328,fk WY 27,359,fk WY 58,347,fk WY 46,512,fk sA 81⟩
section
variable{P:UJ}{h:NS}{l:a0j}
theorem fH{x q:NA}{s:N3}{f:MK}{a b d e cd h:MO}{g:a0B}(l:(KH P).lookup f=My (fO (FN x q s a b d e g cd h)):=by kernel_rfl)(c:Ro (KH P) cd q=MH:=by kernel_rfl)(k:Sd (KH P) (.ref f)=MH:=by kernel_rfl):g_ (KH P) x q s f (FN x q s a b d e g cd h):=Id l c k
theorem mO(X:(KH P).In h)(G:h.Ns O0 l){n:NA}{v:MO}(e:PySem.W.nsIn (KH P) O0 n=My (My v):=by kernel_rfl):l n=My v:=mg_of X G e
theorem mN(X:(KH P).In h)(G:h.Ns O0 l){n:NA}(e:PySem.W.nsIn (KH P) O0 n=My ME:=by kernel_rfl):l n=ME:=PySem.W.mg_none_of X G e
theorem nH(X:(KH P).In h)(G:h.Ns O0 l):v_ (KH P) l ZI where
 Dz:=KP (aB (qO (u:=(.int 40 378)) (mO X G) m4) (aB (qO (u:=(.int 6 382)) (mO X G) m4) (aB (qO (u:=(.int 4 380)) (mO X G) m4) (aB (qO (u:=(.int 500 497)) (mO X G) m4) (aB (fH) (aB (mO X G) (aB (KG (us:=[(.ref 160)]) 2 rfl (λs us b a=>by obtain⟨c,d,rfl⟩:=Xm a;exact PySem.W.kp_binds b λS=>by kernel_rfl) (Ik (GX (p:=160) (q1:=(.type "tuple")) (q2:=ME) (q3:=#[(.int 0 384),(.int 40 378)]) (q4:=0) (q5:=#[]) (by kernel_rfl) rfl (by decide) (by repeat (first|exact trivial|refine⟨rfl,?_⟩))) KE)) (aB (⟨fH,mO X G,.all (s_ λ_ _=>rfl)⟩) (aB (⟨fH,mO X G,.all (r8 λ_=>rfl)⟩) (aB (⟨fH,mO X G,.all (xr λ_ _ _=>rfl)⟩) (aB (⟨fH,mO X G,.all (r8 λ_=>rfl)⟩) (aB (⟨fH,mO X G,.all (r8 λ_=>rfl)⟩) (aB (⟨fH,mO X G,.all (r8 λ_=>rfl)⟩) (aB (⟨fH,mO X G,.all (xr λ_ _ _=>rfl)⟩) (aB (⟨fH,mO X G,.all (s_ λ_ _=>rfl)⟩) (aB (⟨fH,mO X G,.all (Xf λ_ _ _ _=>rfl)⟩) (aB (⟨fH,mO X G,.all (xr λ_ _ _=>rfl)⟩) (aB (⟨fH,mO X G,.all (Xf λ_ _ _ _=>rfl)⟩) (aB (⟨fH,mO X G,.all (xr λ_ _ _=>rfl)⟩) (aB (⟨fH,mO X G,.all (r8 λ_=>rfl)⟩) (aB (⟨fH,mO X G,.all (xr λ_ _ _=>rfl)⟩) (aB (⟨fH,mO X G,.all (r8 λ_=>rfl)⟩) (aB (⟨fH,mO X G,.all (xr λ_ _ _=>rfl)⟩) (aB (⟨fH,mO X G,.all (Xf λ_ _ _ _=>rfl)⟩) (aB (⟨fH,mO X G,.all (s_ λ_ _=>rfl)⟩) (aB (⟨fH,mO X G,.all (xr λ_ _ _=>rfl)⟩) (aB (⟨fH,mO X G,.all (xr λ_ _ _=>rfl)⟩) (aB (⟨fH,mO X G,.all (xr λ_ _ _=>rfl)⟩) (aB (⟨fH,mO X G,.all (s_ λ_ _=>rfl)⟩) (aB (⟨fH,mO X G,.all (xr λ_ _ _=>rfl)⟩) (aB (⟨fH,mO X G,.all (s_ λ_ _=>rfl)⟩) (aB (⟨fH,mO X G,.all (s_ λ_ _=>rfl)⟩) (aB (⟨fH,mO X G,.all (s_ λ_ _=>rfl)⟩) (aB (⟨fH,mO X G,.all (s_ λ_ _=>rfl)⟩) (aB (⟨fH,mO X G,.all (Xf λ_ _ _ _=>rfl)⟩) (aB (⟨fH,mO X G,.all (s_ λ_ _=>rfl)⟩) (aB (⟨fH,mO X G,.all (s_ λ_ _=>rfl)⟩) (aB (⟨fH,mO X G,.all (r8 λ_=>rfl)⟩) (aB (⟨fH,mO X G,.all (s_ λ_ _=>rfl)⟩) (aB (⟨fH,mO X G,.all (Xf λ_ _ _ _=>rfl)⟩) (aB (⟨fH,mO X G,.all (r8 λ_=>rfl)⟩) (aB (⟨fH,mO X G,.all (r8 λ_=>rfl)⟩) (aB (⟨fH,mO X G,.all (r8 λ_=>rfl)⟩) (aB (⟨fH,mO X G,.all (r8 λ_=>rfl)⟩) (aB (⟨fH,mO X G,.all (s_ λ_ _=>rfl)⟩) (aB (⟨fH,mO X G,.all (s_ λ_ _=>rfl)⟩) (aB (⟨fH,mO X G,.all (r8 λ_=>rfl)⟩) (aB (⟨fH,mO X G,.all (s_ λ_ _=>rfl)⟩) (aB (⟨fH,mO X G,.all (Xf λ_ _ _ _=>rfl)⟩) (aB (⟨fH,mO X G,.all (s_ λ_ _=>rfl)⟩) (aB (fH) (aB (⟨by kernel_rfl,by kernel_rfl,by kernel_rfl,by kernel_rfl⟩) (aB (LM (sv:=[.kw 0]) (.kw .nil) rfl (by decide) λs us g b e f=>by obtain⟨c,d,i,rfl⟩:=YN e;obtain⟨j,rfl⟩:=YO f;exact .of_eq rfl) (aB (fH) (aB (⟨by kernel_rfl,by kernel_rfl,by kernel_rfl⟩) (aB (.all (r8 λ_=>rfl)) (aB (fH) (aB (⟨by kernel_rfl,by kernel_rfl,by kernel_rfl⟩) (aB (.all (xr λ_ _ _=>rfl)) (aB (fH) (aB (⟨by kernel_rfl,by kernel_rfl,by kernel_rfl⟩) (aB (.all (r8 λ_=>rfl)) (aB (fH) (aB (⟨by kernel_rfl,by kernel_rfl,by kernel_rfl⟩) (aB (.all (r8 λ_=>rfl)) (aB (fH) (aB (⟨by kernel_rfl,by kernel_rfl,by kernel_rfl⟩) (aB (.all (xr λ_ _ _=>rfl)) (aB (fH) (aB (⟨by kernel_rfl,by kernel_rfl,by kernel_rfl⟩) (aB (.all (r8 λ_=>rfl)) (aB (⟨by kernel_rfl,by kernel_rfl,by kernel_rfl,by kernel_rfl⟩) (aB (mO X G) (aB (show O8 (KH P) _ _=_ by kernel_rfl) (aB (show O8 (KH P) _ _=_ by kernel_rfl) (aB (show O8 (KH P) _ _=_ by kernel_rfl) (aB (show O8 (KH P) _ _=_ by kernel_rfl) (aB (fH) (aB (.all (xr λ_ _ _=>rfl)) (aB (mO X G) (aB (fH) (aB (λs us b a=>by rw[NJ]at a;obtain⟨_,_,rfl⟩:=Xm a;exact U8 (T:=127) rfl (b _ _ (show(KH P).lookup 127=My (tS 338 ["this number is out of its bounds"]) by kernel_rfl)) rfl rfl rfl) (aB (mO X G) (aB (⟨FV (N:=136) (nm:="BadNumber") (q:="BadNumber") (bs:=[(.ref 38)]) (bm:=Zj) (hdct:=MH) (sn:=[]) (sub:=[]) (ab:=ML) (col:=ME) (dd:=ME) (k0:=(My (.ref 120))) (k1:=ME) (k2:=(My (.str "BadNumber" 326))) (k3:=(My (.str "BadNumber" 334))) (k5:=(My (.bool MH))) (cd:=⟨"BadNumber",[(.ref 38)],[(.ref 137),(.ref 38),(.type "ValueError"),(.type "Exception"),(.type "BaseException"),(.type "object")],136,"BadNumber",MH,[],[],ML,ME,ML⟩) (by kernel_rfl) (by kernel_rfl) (by kernel_rfl) (by kernel_rfl),by kernel_rfl,by kernel_rfl,by kernel_rfl⟩) (aB (by kernel_rfl) (aB (fH) (aB (λs us b a=>by rw[NJ]at a;obtain⟨_,_,rfl⟩:=Xm a;exact U8 (T:=147) rfl (b _ _ (show(KH P).lookup 147=My (tS 363 ["the net has no such table"]) by kernel_rfl)) rfl rfl rfl) (aB (mO X G) (aB (⟨FV (N:=156) (nm:="NoTable") (q:="NoTable") (bs:=[(.ref 38)]) (bm:=Zj) (hdct:=MH) (sn:=[]) (sub:=[]) (ab:=ML) (col:=ME) (dd:=ME) (k0:=(My (.ref 140))) (k1:=ME) (k2:=(My (.str "NoTable" 351))) (k3:=(My (.str "NoTable" 359))) (k5:=(My (.bool MH))) (cd:=⟨"NoTable",[(.ref 38)],[(.ref 157),(.ref 38),(.type "ValueError"),(.type "Exception"),(.type "BaseException"),(.type "object")],156,"NoTable",MH,[],[],ML,ME,ML⟩) (by kernel_rfl) (by kernel_rfl) (by kernel_rfl) (by kernel_rfl),by kernel_rfl,by kernel_rfl,by kernel_rfl⟩) (aB (by kernel_rfl) (aB (⟨by kernel_rfl,by kernel_rfl,by kernel_rfl,by kernel_rfl⟩) trivial)))))))))))))))))))))))))))))))))))))))))))))))))))))))))))))))))))))))))))))))))))))))))))
 D0:=mN X G
 D3:=mN X G
 D4:=mN X G
 D5:=mN X G
 D6:=mN X G
 D7:=mN X G
 D8:=mN X G
 D9:=mN X G
 Ea:=mN X G
 Eb:=mN X G
 Ec:=mN X G
 Ed:=mN X G
 Ee:=mN X G
 Ef:=mN X G
 Eg:=mN X G
 Eh:=mN X G
 Ei:=mN X G
theorem wlkH:PySem.W.WalkO qH loH (PySem.W.XL qH lvH) (PySem.W.Hook.says hkH) (O3 (Ph NE)) (Option.get (PySem.W.defOf qH "law") rfl).1 [] (λf D=>V6 f D):=
 L2.walk_of (n:=63) (k:=10) (x:="_law_script") (CX:=λw=>fh _ w) (sp:=λw=>Gf (KH w.params)) rfl (by decide) rfl ⟨rfl,by decide,by decide,rfl⟩ (λw h Y=>PySem.W.kIn_of Y) (λw l i h c G b=>by
  have e:=b.symm.trans (mg_of c G (v:= .ref 512) (by kernel_rfl));cases e;exact⟨FN "law" "law" (dk 65) .none .none .none (.str "law_edgetally_k25_numbers_refused" 754) ME (.ref 511) .none,λs v=> .of_eq rfl,λbase _ _=>JQ (a:=ZI) (fH (by kernel_rfl) (by kernel_rfl) (by kernel_rfl)) (nH c G) λE M=>Fa (K:=KH w.params) (a:=ZI) (by kernel_rfl) (by kernel_rfl) E M⟩) (λ_ _ a P d _ g=>⟨a,P,rfl,g,d,λ_=>rfl⟩) λ_ _ _ _ _ h=>by obtain⟨x,C,j,_,fl⟩:=h;obtain⟨_,_,z⟩:=fl.wish;all_goals exact z
end
end Law
open PySem.W
set_option maxHeartbeats 0 in
theorem PySem.Challenge.cw_edgetally_k25_numbers_refused_holds : PySem.Challenge.rw_edgetally_k25_numbers_refused.Holds := by
 w_on
 refine holds_law Law.wsH λsaid=>?_;refine holds_open (q:=Law.qH) (loose:=Law.loH) (Xt:=Law.xtH) (XP:=XL Law.qH Law.lvH) (Yf:=Hook.obs Law.hkH) (Ya:=Hook.val Law.hkH) (YP:=Hook.says Law.hkH) (N:=7520) Law.hlH (Hook.of Law.hkH) (Hook.keeps Law.hkH) (λs e=>xl_of s (SM.mp e).1) XL.keeps (by rfl) (by rfl) (by rfl) (λs e=>recFacts_of (SM.mp e).2) (by rfl) said Law.okH ⟨rfl,rfl,rfl,rfl,rfl,by decide +kernel⟩ ?hw ?hc
 case hw=>w_witness2
 exact Law.wlkH
