import PyProof.Rows.All
import Wide.All
import OpenK.AllK
import Wide.FinOn
import Lean
import PyProof.EqAt
import PyProof.EqKinds
import PyProof.TupleCall
import PyProof.NsDelKeeps
import PyProof.ListRange
import PyProof.ExcArgsOwn
import PySem.Challenge.RW_edgetally_k47_whole_loops_lead_there
set_option Elab.async false
set_option linter.all false
set_option genSizeOf false
set_option compiler.extract_closed false
set_option bootstrap.genMatcherCode false
set_option maxHeartbeats 8000000
set_option maxRecDepth 100000
theorem Law.wsH:PySem.W.OpenLaw.wellSaid PySem.Challenge.rw_edgetally_k47_whole_loops_lead_there=true:=by decide +kernel
noncomputable section
open And renaming intro->WX
open Array renaming length_toList->Pq,getElem?_eq_some_iff->Qn,getD->RP,getElem?_eq_none->R6,getElem?_toList->Si,forIn_toList->SV,getElem_toList->Tq,getElem?_eq_getElem->Ud,getElem?_extract->WR,getElem?_push->Xu,append_assoc->XF,size_extract->XG,toList_push->X3
open Bool renaming true->OK,false->OO,false_ne_true->OY,false_eq_true->Pb,and_eq_true->Pr,not_true->Rr,true_and->RV,eq_iff_iff->Se,false_and->Tc,and_self->Ts,not_false->Wo,and_eq_true_iff->Xv
open Classical renaming byContradiction->Q7
open Except renaming ok->Qj
open False renaming elim->Ry
open ForInStep renaming yield->Uw
open Function renaming comp->Ua
open Int renaming toNat_natCast->Qu,natCast_add->Rq,add_zero->Rt,zero_add->Ru,emod_nonneg->TR,emod_lt_of_pos->Ug,natAbs_natCast->Uh,le_refl->Ux,le_trans->VI,fdiv_eq_ediv_of_nonneg->Wx,neg_neg->XM,natCast_nonneg->Ys
open List renaming length_map->OC,getElem?_eq_getElem->OE,mem_cons_of_mem->OF,getElem?_map->OI,getD_eq_getElem?_getD->OJ,mem_cons_self->OL,getElem?_eq_some_iff->OM,mem_cons->OQ,map_map->OU,range->OV,mem_of_getElem?->OW,mem_map->OZ,map_cons->O0,length_cons->O4,size_toArray->O7,length_append->O8,mem_range->O9,replicate->Pg,sum_cons->Pi,map_congr_left->Pk,length_range->Ps,map_append->Pw,nodup_cons->Pz,getElem_mem->PF,mem_singleton->PH,drop_eq_getElem_cons->PU,not_mem_nil->PV,length_singleton->PX,mem_append_right->PY,sum->P0,mem_append->P4,append_nil->P9,append_assoc->Ql,flatMap_cons->Qm,map->Qt,getElem?_range->QB,length_set->QC,ext_getElem->QE,getElem?_set->QH,replicate_succ->QN,getElem?_append_right->QR,drop_eq_nil_of_le->QT,filterMap_cons->QV,length_replicate->QZ,mem_flatMap->Q4,mem_filter->Q8,range_succ->Q9,mem_or_eq_of_mem_set->Ra,all_eq_true->Re,mem_replicate->Rf,zip_cons_cons->Rg,getElem?_replicate->Ro,length_take->Rv,map_flatMap->Rw,take_length->Rx,getElem?_append_left->RG,getElem?_zip_eq_some->RH,pairwise_iff_getElem->RI,length_zip->RK,nil_append->RM,flatten_cons->RN,mem_append_left->RO,getElem_of_mem->RY,flatMap_eq_nil_iff->R0,getElem_map->R1,getElem_range->R8,map_replicate->R9,take_of_length_le->Sa,find?_cons->Sf,forIn_cons->Sh,map_drop->Sj,take_append_drop->Sn,forIn_nil->Sz,cons_append->SE,drop_length->SF,exists_cons_of_length_eq_add_one->SG,map_set->SH,flatMap_append->SM,pairwise_cons->S3,pairwise_singleton->S5,any_eq_false->Td,getElem?_eq_none->Tk,getElem?_toArray->Tl,filter_cons->Tp,all_cons->Tu,lookup->TC,of_mem_zip->TL,sum_append->TM,map_nil->TZ,zipWith->T0,map_inj_right->Ub,mem_filterMap->Uc,getElem?_eq_none_iff->Ul,nodup_append->Uq,pairwise_map->Ur,reverse_cons->Us,take_add_one->Ut,any_cons->Uy,length_eq_zero_iff->UI,lookup_cons->UJ,nodup_range->UK,getElem?_append->U3,length->U4,nodup_nil->U5,filter_sublist->Ve,length_zipWith->Vf,map_take->Vl,foldl->Vr,map_singleton->Vs,findIdx?_eq_some_iff_getElem->Vu,zip_nil_left->VF,flatMap_map->VN,length_drop->VO,map_id->VV,length_nil->V6,getElem?_take_of_lt->WJ,getElem?_cons_succ->WT,any_map->W1,getElem?_set_self->W2,range_succ_eq_map->W3,countP_mono_left->W6,getElem?_zipWith->W7,getElem?_set_ne->Xy,getElem_reverse->Xz,mem_of_mem_tail->XA,mem_of_mem_take->XB,length_reverse->XN,mem_map_of_mem->XO,findIdx?_cons->X7,getElem?_drop->X8,sum_singleton->X9,ext_getElem?->Yt
open List.Pairwise renaming nil->US
open List.Perm renaming of_eq->Vt
open List.cons renaming injEq->R4,inj->X6
open Max renaming max->Vi
open Min renaming min->SL
open Nat renaming le_refl->OX,lt_of_lt_of_le->Pj,le_trans->Pl,ne_of_lt->PQ,lt_irrefl->P6,zero_le->Qf,zero_add->Qi,lt_of_le_of_lt->Qp,not_lt_zero->QS,le_add_right->Rj,lt_succ_of_lt->Rp,lt_succ_self->Rz,mul_comm->RQ,ne_of_gt->RT,lt_trichotomy->Sw,add_sub_cancel_left->S8,mul_left_comm->Tf,mul_assoc->TD,pow_le_pow_right->TH,min_le_left->TU,lt_or_ge->T7,lt_trans->T8,le_succ->Uz,le_of_lt->UT,min_self->UU,sub_self->UV,add_le_add->U6,add_le_add_right->U7,add_le_add_left->Vm,mod_lt->Vv,div_le_self->Wb,strongRecOn->Wc,le_mul_of_pos_right->W4,add_comm->W8,div_div_eq_div_mul->W9,pow_succ->Xa,succ_mul->Xb,add_mul->XQ,mul_le_mul_right->XR,mul_le_mul_left->Yc,le_min->Yu
open Option renaming some->on,none->OD,map_some->QI,map_eq_some_iff->S9,bind_some->Tj,getD_some->UA,isSome_iff_exists->Wr,bind_eq_some_iff->Wz,getD_none->Yd
open Option.some renaming inj->Pn,injEq->WK
open Or renaming inl->QY,inr->RC
open Prod renaming ext->R3,ext_iff->Te
open Pure renaming pure->Rm
open PyProof.Rows renaming callWith_type1->QJ,seqObj->SD,envOfC->Tg,AllBare->Um,listUpdate_at->UX,subscriptTail_builtinR->Vb,IntsAre->W0,subscriptTail->X0
open PySem renaming wpAny_bind->My,wpAny_pure->OG,Addr->ON,Value->OP,Shared->OT,starEach->O1,wpAny->O6,FuncData->Pd,sizeLine->Pe,model->Po,treeTable->Pp,Program->Py,World->PD,Str->PP,Heap->PZ,foldedSetIterable->P3,wpAny_call_entry->P5,wpAny_mono->Qa,SetTable->Qb,Around->Qc,Stmt->Qd,wpAny_truthy_bool->Qg,eval->Qh,Obj->Qk,compareOp->Qq,wpAny_newObj_type->Qy,mem_of_lookup->Qz,wpAny_holding->QA,wpAny_field->QK,wpAny_setField_rec->QL,OsState->QO,Comprehension->QU,cellsFrom->QX,wpAny_setState_of->Q1,wpAny_seqItems->Q3,backTo->Q5,keywordEach->Q6,mainGlobals->Rh,sizeLine_eq->Ri,wpAny_standAt->RE,wpAny_isInstance->RF,wpAny_specialOf->RW,binaryOp->RZ,wpAny_comprehension_free->R5,IsPair->Sb,backToKw->Sc,wpAny_typeNameOfWhole_itemiter->Sd,wpAny_of_eq->Ss,bootBuiltins->Su,codeAny_builtin->Sx,wpAny_passesOwn->Sy,attributeBase->SB,codeAny->SI,NameKind->SN,intItems->SQ,sliceBounds->SR,wpAny_rule->SS,codeAny_mono->SW,holding->SX,standAt->SY,wpAny_askSetting->SZ,wpAny_typeNameOf_itemiter->S4,pyNext->S7,DictEntry->Ti,firstArgMember->Tv,rawInt->Tw,wpAny_pyIter_list->Tx,wpAny_setField->Tz,Pos->TF,cLine->TN,swapsWith->TY,behindInMarks->T4,wpAny_attempt->T6,assign->Uj,letOwnedTupleGo->Uk,IsItemIter->UB,Fin->UD,isSubtype_type->UE,wpAny_Call_Name_kw->UG,wpAny_pyIter_tuple->UH,IsZip->UM,Keyword->UN,wpAny_pyIter_slot->UR,numAt->UZ,wpAny_forIn_list->U1,assignEach->U8,intKind->U9,pyIter->Va,wpAny_isOneOf_itemiter->Vc,wpAny_pyIter_rangeiter->Vd,codeAny_of_tree->Vh,wpAny_execs_nil->Vj,builtinLookup_eq_fast->Vo,isSubtype_tuple_tuple->Vp,Within->Vw,codeAny_call_builtin->Vy,intItems_at->Vz,wpAny_fieldsOf->VA,wpAny_updateSeq_pair->VB,BindsTo->VC,getMethod->VG,call->VL,wpAny_setEntries_of->VM,nums_intItems->VQ,plainId_quiet->VR,wpAny_onRaise->VS,Paired->VW,PyData->VX,call_meets->VY,isInstance->VZ,sysModules->V1,wpAny_tupleItemsOf->V2,Env->V3,boot_len->Wd,again->We,callerA->Wf,ofAClassStatement->Wg,searchCouldBeSeen->Wj,seqIndex_neg->Wl,wpAny_assign_Name->Wm,wpAny_dictEntries->Wn,Params->WA,checkBuiltinCall->WC,entryFor_of_tree->WD,noFill_tuple_add->WE,pickOrder->WF,Draws->WG,IsRangeIter->WI,atKey->WO,seqIndex_of->WP,wpAny_letGo->WQ,typeLookup_type->WV,wpAny_dictEpoch->WW,builtinsNs->Xg,compPost->Xi,entryFor->Xj,entryFor_alias->Xk,isSubtype_stop->Xl,newFunctionEnv->Xm,setField->Xn,wpAny_call->Xp,wpAny_newTuple->Xq,wpAny_runValue->Xr,call->XV,evalPart_none->XX,seq_tuple_add->XZ,wpAny_getItem_list_slice->X1,wpAny_handled->X2,PassesOwn->Ye,list_append->Yj,bindC->Yk,bindL->Yl,eqIsQuiet->Ym,field->Yn,lastMarks->Yo,slicePick->Yp,newExc->YA,wpAny_Call_method_late->YB,wpAny_getItem_list_neg->YC,wpAny_pyNext_range_end->YD
open PySem.Around renaming under_plainId->Sv,under->Vq,under_plain->Xs
open PySem.Builtin.Dict renaming showsAll->VT
open PySem.Builtin.Dict_items renaming ownsTuple->SU,ownedTupleFields->Ue,ownedTupleIsFree->Uf,pairFromOwner->Uv
open PySem.Builtin.Int renaming intBits->Wp
open PySem.Builtin.List renaming listTooLong->TK,listExtendWith->Vk,listSameRef->VD
open PySem.Builtin.Range renaming rangeFitsLong->Qs,rangeSize->VE
open PySem.Builtin.SmallTypes renaming nextOf->Q2,ownedTupleIsFree->Rc,ownedTupleHandOut->T9,refuseKeywords->Uo
open PySem.Builtin.Tuple renaming tupleHashOf->Tt
open PySem.Calls renaming callWith_builtin->UL,Name_function_global->V9,evalArgs_plain->W5,spliced_cons->XH,spliced_nil->X4
open PySem.Challenge renaming rw_edgetally_k47_whole_loops_lead_there->PM
open PySem.Code renaming isFrame->WY,quiet_builtin->X5
open PySem.Draws renaming list->XI
open PySem.F renaming plainAttrs_list->Qo,slot_list_append->Qv,type_list_append->Qw,slot_dict_itemiterator_next->Q0,slot_tuple_iterator_next->SJ,args_tuple_add_2->Ui,entry_tuple_add->Uu,slot_tuple_add->UC,slot_zip_next->U2,args_dict_itemiterator_next_1->V4,entry_dict_itemiterator_next->Wa,slot_dict_itemiterator_iter->Wq,plainAttrs_dict->Ws,slot_list_index->Wt,args_tuple_iterator_next_1->Ww,entry_tuple_iterator_next->WH,plain_set_new->WL,slot_dict_get->WM,slot_dict_items_iter->XJ,args_list_append_2->Yq
open PySem.Heap renaming get?_push_of_some->OH,get?_push_size->O5,lt_size->Ph,SameBut->PL,size_push->QD,get?_update_ne->RX,get?_update_self->Sm,ExtBut->VU,get?_update_other->WZ,get?_none_of_le->Xw,get?_push_ne->Yr
open PySem.Heap.IsSliceOf renaming new->V5
open PySem.Heap.SameBut renaming update->QP
open PySem.IntMulOk renaming of_bits->Xx
open PySem.IsTupleKey renaming typeIs->WS
open PySem.Manifest renaming find?->Yb
open PySem.NameKind renaming free->RJ,cell->V7
open PySem.Obj renaming mapSeq->QW,data_mapFields->Rk,putSet->UW,isFreed_of_fields->UY,cls_mapFields->VJ
open PySem.P renaming add_list->XS
open PySem.PyData renaming eqvAll->Qx,eqv->Rb,depth->SA,canLayAll0->Ta,canLay0->T1,int->Vg,depthAll->VP
open PySem.SeqAt renaming shaped->TW
open PySem.SetTable renaming fresh->UO,fits->V8
open PySem.Shared renaming TypeIs->Wv
open PySem.Str renaming ofString->RU,empty->SK
open PySem.Value renaming ref->Pc,none->P7,type->R7,int->SC,bool->Vn,isInt_shape->Vx,isInt->Xf,str->Yw
open PySem.W renaming Frag->Pa,piecesOf->Px,segRun->PN,fnOf->S6,findIn->Th,codeIn->TV,emptyDict->TX,keepIn->UF,kia_one->UQ,instObj->VH,methodCall_KW->WN,callWith_K->Xc,kitx_tuple->Xd,of_hideAll->Xe,cellsFrom_some->Xh,topFrame->Xo,boot_heap->XD,plainOver->XE,boot_o_3->XT,handedIn->XU,makesIn->Yg,takesIn->Yh,topStub->Yi,topRun->Yv,hideAll->Yy,hideAll_none->Yz
open PySem.W.OpenLaw renaming row->RA
open PySem.W.OpenRow renaming toRowW->Rl
open PySem.W.RowW renaming prog->WB
open PySem.W.WData renaming int->Wu
open PySem.pickOrder renaming go->Wh
open True renaming intro->UP
open PySem PySem.Spec PyProof PyProof.Rows
abbrev a1b:=List<|Int×Int
abbrev a1a:=List Bool
abbrev a0Z:=List UN
abbrev a0X:=Option ON
abbrev a0W:=Int->Int->Prop
abbrev a0U:=Nat->Nat
abbrev a0S:=Option Bool
abbrev a0R:=List Qd
abbrev a0P:=List QU
abbrev a0O:=List<|PP×SN
abbrev a0N:=Int->Int->Int
abbrev a0M:=Array OP
abbrev a0L:=Option Nat
abbrev a0K:=List Qk
abbrev a0D:=Nat->Int
abbrev a0C:=List V3
abbrev a0z:=Array Nat
abbrev a0y:=Array<|Int×OP
abbrev a0x:=Array a0L
abbrev a0u:=Nat->Nat->Int
abbrev a0t:=Option Int
abbrev a0q:=Option<|ON×ON
abbrev a0o:=List ON
abbrev a0m:=List<|PP×ON
abbrev a0j:=PP->Option OP
abbrev a0h:=List PP
abbrev a0g:=List OP
abbrev a0f:=OP->OT->Prop
abbrev a0d:=List<|ON×Qk
abbrev a0c:=List Int
abbrev a0l:=List<|a0c×ON
abbrev a0b:=List<|Nat×Nat
abbrev a0v:=List a0b
abbrev a0F:=List<|Int×a0b
abbrev a0a:=List Nat
abbrev a0n:=List a0a
abbrev OR:=@if_neg
abbrev OS:=@if_pos
abbrev O3:=@decide_eq_true
abbrev Pf:=@absurd
abbrev Pt:=@decide_eq_false
abbrev PR:=@decide_eq_true_eq
abbrev P8:=@if_true
abbrev Qe:=@if_false
abbrev Qr:=@congrArg
abbrev QG:=@of_decide_eq_true
abbrev RB:=@or_false
abbrev Sk:=@bne_self_eq_false
abbrev SO:=@beq_iff_eq
abbrev V0:=@not_or
abbrev WU:=@beq_eq_false_iff_ne
abbrev XW:=@decide_false
abbrev Yx:=@beq_self_eq_true
open PySem.W (Frag instObj methodObj hideAll hideAll_get hideAll_none lookIn plainGet hasDictIn findIn plainGet_of isFn takerIn emptyDict keepIn specialIn kitOne kia_one kitx_list cellsFrom_some mg_of)
abbrev LI:=List a0c
abbrev LP:=List a1b
--CHANGE:your row's module here,as the last of these ac
namespace L2
inductive V where
 |non|bl (b:Bool)|int (i:Int)|str (x:PP)|ref (a:ON)|ty (n:String)
 deriving DecidableEq
abbrev a0i:=List V
abbrev a0G:=List<|PP×V
def aR:V->OP->Prop
 | .non,u=>u=P7
 | .bl b,u=>u=Vn b
 | .int i,u=>∃t,u=SC i t
 | .str x,u=>∃t,u=Yw x t
 | .ref a,u=>u=Pc a
 | .ty n,u=>u=R7 n
abbrev aB:a0i->a0g->Prop:=VW aR
theorem aB.length{xs:a0i}{us:a0g}(r:aB xs us):xs.length=us.length:=Paired.length r
theorem aB.get:∀{xs:a0i} {D:a0g} {i:Nat} {x:V},aB xs D->xs[i]?=on x->∃u,D[i]?=on u/\aR x u
 |_,_,_,_,.nil,e=>by simp at e
 |_,_,0,_,.cons r _,e=>by simp at e;subst e;exact⟨_,rfl,r⟩
 |_,_,i+1,x,.cons _ t,e=>by
  obtain⟨u,a,b⟩:=aB.get (i:=i) (x:=x) t (by simpa using e);exact⟨u,by simpa using a,b⟩
theorem aB.set(r:aR x u):∀{xs:a0i} {D:a0g} (i:Nat),aB xs D->aB (xs.set i x) (D.set i u)
 |_,_,_,.nil=> .nil
 |_,_,0,.cons _ t=> .cons r t
 |_,_,i+1,.cons q t=> .cons q<|aB.set r i t
theorem aB.append:∀{xs D:a0i} {E a:a0g},aB xs E->aB D a->aB (xs++D) (E++a)
 |_,_,_,_,.nil,s=>s
 |_,_,_,_,.cons r t,s=> .cons r<|aB.append t s
theorem aB.take:∀{D:a0i} {E:a0g} (n:Nat),aB D E->aB (D.take n) (E.take n)
 |_,_,0,_=> .nil
 |_,_,_+1,.nil=> .nil
 |_,_,n+1,.cons r t=> .cons r<|aB.take n t
theorem aB.drop:∀{xs:a0i} {D:a0g} (n:Nat),aB xs D->aB (xs.drop n) (D.drop n)
 |_,_,0,r=>r
 |_,_,_+1,.nil=> .nil
 |_,_,n+1,.cons _ t=>aB.drop n t
def ju:Option V->Option OP->Prop
 |some v,on u=>aR v u
 |none,OD=>True
 |_,_=>False
inductive HO where
 |lst (xs:a0i)
 |tup (xs:a0i)
 |ins (C dx:ON) (fs:a0G)
 |own (x:ON)
 |xd (fs:a0G)
 |met (f x:ON)
 |rng (lo hi:Int)
 |frz (o:Qk) (u:HO)
 |tbl (ps:a0M)
 |ext (φ:PZ->Prop)
abbrev Hp:=ON->Option HO
abbrev a0V:=Bool->Hp->Prop
noncomputable def upd(H:Hp)(a:ON)(o:HO):Hp:=λb=>if b=a then on o else H b
theorem ax:upd H a o a=on o:=by unfold upd;rw[OS rfl]
theorem bb(h:b≠a):upd H a o b=H b:=by unfold upd;rw[OR h]
theorem NA{H:Hp}{a b:ON}{o u:HO}(h:H a=on o)(D:H b=on u)(d:o≠u):a≠b:=by
 intro e;subst e;rw[h]at D;exact d<|Pn D
theorem aI{H:Hp}{a b:ON}{o:HO}(h:H a=on o)(D:H b=OD):a≠b:=by
 intro e;subst e;rw[h]at D;cases D
section
variable(P:Py)(w:PD)
def cq(P:Py)(w:PD)(H:Hp)(h:PZ)(a:ON):HO->Prop
 | .lst xs=>xs.length<=Pe/\∃(D:a0g) (n:Nat),aB xs D/\h.get? a=on {cls:= .type "list",data:= .seq D.toArray n}
 | .tup xs=>xs.length<=Pe/\∃D:a0g,aB xs D/\IsTup h a D.toArray
 | .ins C dx fs=>H dx=on (.own a)/\fs.length<=1000/\dx≠a/\h.get? a=on (VH C dx)/\
   ∃b,h.Ns1 dx b/\(∀f,ju (fs.lookup f)<|b f)/\Vw b (fs.map (·.1))
 | .own _=>∃o,h.get? a=on o
 | .xd fs=>∃b,h.Ns1 a b/\∀f,ju (fs.lookup f)<|b f
 | .rng lo hi=>∃t u v,h.get? a=on {cls:= .type "range",data:= .fields #[.int lo t,.int hi u,.int 1 v]}
 | .frz o u=>h.get? a=on o/\cq P w H h a u
 | .tbl ps=>h.get? a=on {cls:= .none,data:= .fields ps}
 | .met f x=>h.get? a=on (methodObj (.ref f)<|.ref x)
 | .ext φ=>φ h/\(∃o,h.get? a=on o)/\∀c d:PZ,φ c->(∀o,c.get? a=on o->d.get? a=on o)->φ d
def k_(H:Hp)(h:PZ):Prop:=∀a o,H a=on o->cq P w H h a o
end
section
variable{P:Py}{w:PD}{H s:Hp}{h h':PZ}{a:ON}{o:HO}
theorem cq.lt(x:cq P w H h a o):a<h.objs.size:=by
 cases o with
 |lst xs=>obtain⟨_,_,_,_,e⟩:=x;exact Ph e
 |tup xs=>obtain⟨_,_,_,p⟩:=x;exact p.lt
 |ins C dx fs=>obtain⟨_,_,_,e,_⟩:=x;exact Ph e
 |own y=>obtain⟨_,e⟩:=x;exact Ph e
 |xd fs=>obtain⟨_,⟨_,_,_,e,_⟩,_⟩:=x;exact Ph e
 |rng lo hi=>obtain⟨_,_,_,e⟩:=x;exact Ph e
 |frz ob u=>obtain⟨e,_⟩:=x;exact Ph e
 |tbl ps=>exact Ph (show h.get? a=on _ from x)
 |met f y=>exact Ph (show h.get? a=on _ from x)
 |ext φ=>obtain⟨_,⟨_,e⟩,_⟩:=x;exact Ph e
theorem cq.stay(x:cq P w H h a o)(k:∀b u,(b=a\/H b=on (.own a))->h.get? b=on u->h'.get? b=on u)
  (l:∀b,H b=on (.own a)->s b=on (.own a)) (A:∀b E,H b=on (.tup E)->s b=on (.tup E)):cq P w s h' a o:=by
 induction o with
 |lst E=>obtain⟨z,D,n,r,e⟩:=x;exact⟨z,D,n,r,k _ _ (.inl rfl) e⟩
 |tup E=>obtain⟨z,D,r,g,e,c⟩:=x;exact⟨z,D,r,g,k _ _ (.inl rfl) e,c⟩
 |ins C dx fs=>
  obtain⟨d,z,S,e,i,⟨j,G,K,m,c⟩,r⟩:=x;exact⟨l _ d,z,S,k _ _ (.inl rfl) e,i,⟨j,G,K,k _ _ (.inr d) m,c⟩,r⟩
 |own y=>obtain⟨g,e⟩:=x;exact⟨g,k _ _ (.inl rfl) e⟩
 |xd fs=>obtain⟨i,⟨j,G,K,e,c⟩,r⟩:=x;exact⟨i,⟨j,G,K,k _ _ (.inl rfl) e,c⟩,r⟩
 |rng lo hi=>obtain⟨t,u,v,e⟩:=x;exact⟨t,u,v,k _ _ (.inl rfl) e⟩
 |frz g u ih=>obtain⟨e,q⟩:=x;exact⟨k _ _ (.inl rfl) e,ih q⟩
 |tbl ps=>
  have e:h.get? a=on {cls:= .none,data:= .fields ps}:=x;show h'.get? a=on {cls:= .none,data:= .fields ps};exact k a _ (.inl rfl) e
 |met f y=>
  have e:h.get? a=on (methodObj (.ref f)<|.ref y):=x;show h'.get? a=on (methodObj (.ref f)<|.ref y);exact k a _ (.inl rfl) e
 |ext φ=>obtain⟨p,⟨o,e⟩,M⟩:=x;exact⟨M _ _ p λo q=>k _ _ (.inl rfl) q,⟨o,k _ _ (.inl rfl) e⟩,M⟩
theorem k_.lt(x:k_ P w H h)(e:H a=on o):a<h.objs.size:=(x a o e).lt
theorem k_.fresh(x:k_ P w H h)(e:h.objs.size<=a):H a=OD:=by
 cases q:H a with
 |none=>rfl
 |some u=>exact Pf (Pj (x.lt q) e)<|P6 _
theorem k_.kept(x:k_ P w H h)(k:∀b u,h.get? b=on u->h'.get? b=on u):k_ P w H h':=λa o e=>
 (x a o e).stay (λb u _ q=>k b u q) (λ_ q=>q) λ_ _ q=>q
theorem k_.laid(x:k_ P w H h)(k:∀b u,h.get? b=on u->h'.get? b=on u)(f:h.objs.size<=a)(s:cq P w (upd H a o) h' a o):k_ P w (upd H a o) h':=λb u e=>by
 have D:=x.fresh f;by_cases d:b=a
 .subst d;rw[ax]at e;cases e;exact s
 .rw[bb d]at e
  exact(x b u e).stay (λc v _ q=>k c v q) (λc q=>by rw[bb<|aI q D];exact q) λc E q=>by rw[bb<|aI q D];exact q
def Rd(H:Hp)(a:ON)(u:HO):Prop:=H a=on u\/∃o,H a=on (.frz o u)
theorem Rd.ok{P:Py}{w:PD}{H:Hp}{h:PZ}{a:ON}(r:Rd H a u)(x:k_ P w H h):cq P w H h a u:=by
 rcases r with r|⟨o,r⟩
 .exact x a u r
 .obtain⟨_,q⟩:=x a _ r
  exact q
def ZK:Option HO->Prop
 |some (.lst _)=>True
 |some (.ins _ _ _)=>True
 |some (.ext _)=>True
 |_=>False
variable{x e:ON}{p:HO}
theorem k_.write(s:k_ P w H h)(mu:ZK<|H x)(l:e=x\/H e=on (.own x))(k:∀b u,b≠e->h.get? b=on u->h'.get? b=on u)(j:∃u,h'.get? e=on u)
  (o:cq P w (upd H x p) h' x p):k_ P w (upd H x p) h':=λb u q=>by
 have f:∀c y,H c=on (.own y)->c≠x:=λc y r z=>by subst z;rw[r]at mu;exact mu
 have g:∀c a,H c=on (.tup a)->c≠x:=λc a r z=>by subst z;rw[r]at mu;exact mu
 by_cases i:b=x
 .subst i;rw[ax]at q;cases q;exact o
 .rw[bb i]at q
  by_cases d:b=e
  .have m:H b=on (.own x):=by
    rcases l with z|z
    .exact Pf (d.trans z) i
    .rw[d];exact z
   rw[q]at m;cases m;obtain⟨v,n⟩:=j;exact⟨v,by rw[d];exact n⟩
  .refine(s b u q).stay (λc v hc r=>k c v ?_ r) (λc r=>by rw[bb<|f c b r];exact r) λc a r=>by rw[bb<|g c a r];exact r
   rcases hc with rfl|hc
   .exact d
   .rintro rfl
    rcases l with z|z
    .exact f c b hc z
    .rw[hc]at z;cases z;exact i rfl
structure Un (fs ex:a0o) (H s:Hp) (h h':PZ):Prop where
 keep:∀b o,h.get? b=on o->H b=OD->b∉fs->b∉ex->h'.get? b=on o
 slot:∀b o,h.get? b=on o->H b=OD->b∈fs->b∉ex->∃sl,h'.get? b=on {o with slots:=sl}
 free:∀b o,h.get? b=on o->H b=OD->b∉ex->s b=OD
 there:∀b o,h.get? b=on o->b∉ex->∃p,h'.get? b=on p
 tups:∀b xs,H b=on (.tup xs)->s b=on (.tup xs)
 frzs:∀b o u,H b=on (.frz o u)->s b=on (.frz o u)
 tbls:∀b ps,H b=on (.tbl ps)->∃more,s b=on (.tbl<|ps++more)
variable{m i ex j:a0o}{s u:Hp}{r t:PZ}
theorem Un.any(u:Un m ex H s h r)(q:h.get? b=on ob)(n:H b=OD)(c:b∉ex):∃f,r.get? b=on {ob with slots:=f}:=by
 by_cases d:b∈m
 .exact u.slot b ob q n d c
 .exact⟨ob.slots,u.keep b ob q n d c⟩
theorem Un.trans(a:Un m ex H s h r)(b:Un m ex s u r t):Un m ex H u h t where
 keep:=λc d q n i f=>b.keep c d (a.keep c d q n i f) (a.free c d q n f) i f
 slot:=λc d q n i f=>by
  obtain⟨l,g⟩:=a.slot c d q n i f;obtain⟨j,k⟩:=b.slot c _ g (a.free c d q n f) i f;exact⟨j,k⟩
 free:=λc d q n f=>by
  obtain⟨p,g⟩:=a.there c d q f;exact b.free c p g (a.free c d q n f) f
 there:=λc d q f=>by
  obtain⟨p,g⟩:=a.there c d q f;exact b.there c p g f
 tups:=λc e q=>b.tups c e (a.tups c e q)
 frzs:=λc d e q=>b.frzs c d e (a.frzs c d e q)
 tbls:=λc o q=>by
  obtain⟨w,g⟩:=a.tbls c o q;obtain⟨x,k⟩:=b.tbls c _ g;exact⟨w++x,by rw[k,XF]⟩
theorem Un.kept(k:∀b u,h.get? b=on u->h'.get? b=on u):Un m ex H H h h':=
 ⟨λb c q _ _ _=>k b c q,λb c q _ _ _=>⟨c.slots,k b c q⟩,λ_ _ _ n _=>n,λb c q _=>⟨c,k b c q⟩,λ_ _ q=>q,λ_ _ _ q=>q,λ_ a q=>⟨#[],by rw[q];simp⟩⟩
theorem Un.refl:Un m ex H H h h:=Un.kept λ_ _ q=>q
theorem Un.laid(k:∀b u,h.get? b=on u->h'.get? b=on u)(c:h.objs.size<=a)(e:H a=OD):Un m ex H (upd H a o) h h' where
 keep:=λb u q _ _ _=>k b u q
 slot:=λb u q _ _ _=>⟨u.slots,k b u q⟩
 free:=λb u q n _=>by rw[bb<|PQ<|Pj (Ph q) c];exact n
 there:=λb u q _=>⟨u,k b u q⟩
 tups:=λb i q=>by rw[bb<|aI q e];exact q
 frzs:=λb u i q=>by rw[bb<|aI q e];exact q
 tbls:=λb j q=>⟨#[],by rw[bb<|aI q e,q];simp⟩
theorem Un.write(mu:ZK<|H x)(i:e=x\/H e=on (.own x))(k:∀b u,b≠e->h.get? b=on u->h'.get? b=on u)(d:∃u,h'.get? e=on u):Un m ex H (upd H x o) h h':=by
 have f:∀b,H b=OD->b≠x:=λb n z=>by subst z;rw[n]at mu;exact mu
 have g:∀b,H b=OD->b≠e:=λb n z=>by
  subst z;rcases i with r|r
  .exact f b n r
  .rw[n]at r;cases r
 have a:∀b u,H b=on u->¬ZK (on u)->b≠x:=λb u q j z=>by subst z;rw[q]at mu;exact j mu
 refine⟨λb u q n _ _=>k b u (g b n) q,λb u q n _ _=>⟨u.slots,k b u (g b n) q⟩,λb u q n _=>by rw[bb<|f b n];exact n,λb u q _=>?_,
  λb p q=>by rw[bb<|a b _ q λz=>z];exact q,λb u p q=>by rw[bb<|a b _ q λz=>z];exact q,λb s q=>⟨#[],by rw[bb<|a b _ q λz=>z,q];simp⟩⟩
 by_cases c:b=e
 .subst c;exact d
 .exact⟨u,k b u c q⟩
theorem Un.mono(u:Un m ex H s h r)(a:∀b∈m,b∈i)(f:∀b∈ex,b∈j):Un i j H s h r:=
 ⟨λb d q n g c=>u.keep b d q n (λz=>g<|a b z) λz=>c<|f b z,λ_ _ q n _ c=>u.any q n λz=>c<|f _ z,λb d q n c=>u.free b d q n λz=>c<|f b z,λb d q c=>u.there b d q λz=>c<|f b z,u.tups,u.frzs,u.tbls⟩
noncomputable def Zp(h:PZ)(H:Hp):a0o:=(OV h.objs.size).filter λa=>(H a).isSome
noncomputable def mw(h:PZ)(H:Hp):PZ:=Yy h<|Zp h H
theorem ET(h:PZ)(H:Hp):(mw h H).objs.size=h.objs.size:=PySem.W.hideAll_size _ _
theorem GU{h:PZ}{H:Hp}{o:Qk}(e:h.get? b=on o)(n:H b=OD):(mw h H).get? b=on o:=
 hideAll_get _ e λa=>by
  have q:(H b).isSome=OK:=(Q8.mp a).2;rw[n]at q;simp at q
theorem Jq{h:PZ}{H:Hp}{o:Qk}(e:(mw h H).get? b=on o):h.get? b=on o/\H b=OD:=by
 have c:h.get? b=on o:=Xe (Zp h H) e;refine⟨c,?_⟩;cases q:H b with
 |none=>rfl
 |some x=>
  have a:b∈Zp h H:=Q8.mpr ⟨O9.mpr<|Ph c,by simp[q]⟩;have z:(mw h H).get? b=OD:=Yz (Zp h H) a;rw[z]at e;cases e
structure Mod (K:Pa) (mg:a0j) (base:PZ):Prop where
 kin:K.In base
 glob:base.Ns Rh mg
 blt:∃mb,base.Ns Xg mb/\∀x:PP,x≠"__name__"->mb x=Su x
 nolimit:base.NoLimit
structure Cx where
 prog:Py
 w:PD
 K:Pa
 mg:PP->Option OP
 base:PZ
 A:Qc
 N:a0h
 s₀:OT
 H₀:Hp
 env:V3
 outer:a0C
 stack:a0C
 ex:a0o
 fn:PP->Bool
 calm:Bool
 pn:a0d
 xe:OP->OT->Prop
abbrev b0a(X:Cx)(a:Expr)(b:List Expr):=O1 (a::b) X.env=(OO,Qh a X.env)::O1 b X.env
abbrev b0b(X:Cx)(a:TF)(b:List Expr):=(Q5 a<|O1 b X.env).any (·.1)=OO
abbrev b0c(a:PP):=(a==("__debug__":PP))=OO
abbrev b0d(X:Cx)(a:PP):=X.fn a=OK\/X.env.scope.names.lookup a=on .local
noncomputable def g8(l:a0C):a0o:=l.filterMap (·.frame)
end
noncomputable abbrev Cx.fs(X:Cx):a0o:=g8 X.outer
def Zd(a:Scope)(x:PP):Prop:=a.names.lookup x=on .local\/a.names.lookup x=on .cell\/a.names.lookup x=on .free
def x5(a:Scope)(x:PP):Prop:=a.names.lookup x=on .local\/a.names.lookup x=on .cell
def Look(D:V3)(h:PZ)(m:a0j)(x:PP)(u:OP):Prop:=
 (D.kindOf x=on .local/\m x=on u)\/((D.kindOf x=on .cell\/D.kindOf x=on .free)/\∃c,D.cells.lookup x=on c/\h.IsCell c (on u))
structure Cx.Ok (X:Cx):Prop where
 mod:Mod X.K X.mg X.base
 kind:X.env.scope.kind= .function
 glob:X.env.globals=Rh
 blt:X.env.builtins=Xg
 above:X.s₀.heap.objs.size<=X.env.locals
 inj:∀x y c,X.env.cells.lookup x=on c->X.env.cells.lookup y=on c->x=y
 has:∀x,(X.env.kindOf x=on .cell\/X.env.kindOf x=on .free)->∃c,X.env.cells.lookup x=on c
 cab:∀x c,X.fn x=OK->X.env.cells.lookup x=on c->X.s₀.heap.objs.size<=c
 hd:X.calm=OK->X.A.handled=OD
 frames:X.A.frames=on X.stack
 stk:X.stack=X.outer\/(X.stack=X.env::X.outer/\X.env.frame=on X.env.locals)
 exf:∀b∈X.ex,b≠X.env.locals/\∀x c,X.env.cells.lookup x=on c->c≠b
 bs:∀b o,X.base.get? b=on o->X.s₀.heap.get? b=on o/\X.H₀ b=OD
 bsz:X.base.objs.size<=X.s₀.heap.objs.size
 noex:∀b o,X.base.get? b=on o->b∉X.ex
 exfs:∀b∈X.ex,b∉X.fs
 funs:X.s₀.heap.FunFrames X.base X.outer
 frf:∀b∈X.fs,X.H₀ b=OD
structure b_ (X:Cx) (a_:a0d) (σ:List<|Option V) (H:Hp) (s:OT):Prop where
 ok:X.Ok
 os:s.os=X.s₀.os
 bare:Um s.gens
 base:Un X.fs X.ex X.H₀ H X.s₀.heap s.heap
 loc:∃m,s.heap.Ns X.env.locals m/\∀(i:Nat) (x:PP) (v:V),X.N[i]?=on x->σ[i]?=on (on v)->Zd X.env.scope x->∃u,aR v u/\Look X.env s.heap m x u
 cell:∀x c,X.env.cells.lookup x=on c->∃v,s.heap.IsCell c v
 free:H X.env.locals=OD
 freeC:∀x c,X.env.cells.lookup x=on c->H c=OD
 pin:∀p∈X.pn++a_,s.heap.get? p.1=on p.2/\H p.1=OD/\p.1≠X.env.locals/\p.1∉X.fs/\∀v,p.2.data≠ .cell v
 hok:k_ X.prog X.w H s.heap
 len:σ.length=X.N.length
section
variable{X:Cx}{a_:a0d}{σ:List (Option V)}{H T:Hp}{s:OT}{h':PZ}
theorem Cx.Ok.nofr(s:X.Ok)(e:X.base.get? b=on o):b∉X.fs:=λa=>by
 have:=(s.funs.mem a).1;rw[e]at this;cases this
theorem b_.bs(I:b_ X a_ σ H s):∀b o,X.base.get? b=on o->s.heap.get? b=on o/\H b=OD:=λb o e=>
 ⟨I.base.keep b o (I.ok.bs b o e).1 (I.ok.bs b o e).2 (I.ok.nofr e)<|I.ok.noex b o e,I.base.free b o (I.ok.bs b o e).1 (I.ok.bs b o e).2<|I.ok.noex b o e⟩
theorem b_.bk(I:b_ X a_ σ H s):∀b o,X.base.get? b=on o->s.heap.get? b=on o:=λb o e=>(I.bs b o e).1
theorem b_.mod(I:b_ X a_ σ H s):Mod X.K X.mg X.base:=I.ok.mod
theorem b_.kIn(I:b_ X a_ σ H s):X.K.In s.heap:=I.ok.mod.kin.keeps I.bk
theorem b_.lt(I:b_ X a_ σ H s):X.env.locals<s.heap.objs.size:=let ⟨_,hn,_⟩:=I.loc;hn.lt
theorem b_.sz(I:b_ X a_ σ H s):X.s₀.heap.objs.size<=s.heap.objs.size:=Pl I.ok.above<|UT I.lt
theorem b_.nofs(I:b_ X a_ σ H s){a:ON}(h:s.heap.objs.size<=a):a∉X.fs:=λb=>by
 obtain⟨_,o,c,_⟩:=I.ok.funs.mem b;exact Pf (Pj (Ph c)<|Pl I.sz h)<|P6 _
theorem b_.cne(I:b_ X a_ σ H s):∀x c,X.env.cells.lookup x=on c->c≠X.env.locals:=λx c e z=>by
 obtain⟨v,o,d,D⟩:=I.cell x c e;obtain⟨m,⟨f,E,G,a,b,_⟩,_⟩:=I.loc;rw[z,a]at d;cases d;rw[b]at D;cases D
theorem b_.funs(I:b_ X a_ σ H s):s.heap.FunFrames X.base X.outer:=by
 have D:∀(l:a0C),(∀b∈g8 l,b∈X.fs)->X.s₀.heap.FunFrames X.base l->s.heap.FunFrames X.base l:=by
  intro l
  induction l with
  |nil=>intro _ _;trivial
  |cons G r K=>
   intro E f;obtain⟨g,⟨L,o,a,M,h,S⟩,i⟩:=f;have c:L∈X.fs:=E L (by unfold g8;rw[QV,a];exact OL);obtain⟨j,e⟩:=I.base.slot L o h (I.ok.frf L c) c λz=>I.ok.exfs L z c;exact⟨g,⟨L,_,a,M,e,S⟩,K (λb d=>E b<|by unfold g8;rw[QV,a];exact OF _ d) i⟩
 exact D X.outer (λ_ d=>d) I.ok.funs
theorem b_.stack(I:b_ X a_ σ H s):s.heap.FunFrames X.base X.stack:=by
 rcases I.ok.stk with e|⟨e,a⟩
 .rw[e];exact I.funs
 .rw[e]
  obtain⟨m,D,_⟩:=I.loc;refine .cons (by rw[I.ok.kind];decide) a D ?_ I.funs;exact Xw<|Pl I.ok.bsz I.ok.above
theorem b_.stkSub(I:b_ X a_ σ H s):∀b∈g8 X.stack,b∈X.env.locals::X.fs:=λb a=>by
 rcases I.ok.stk with e|⟨e,c⟩
 .rw[e]at a;exact OF _ a
 .rw[e]at a
  unfold g8 at a;rw[QV,c]at a;exact a
theorem b_.stkFree(I:b_ X a_ σ H s):∀b∈g8 X.stack,H b=OD:=λb hb=>by
 rcases OQ.mp (I.stkSub b hb)with e|hb
 .rw[e];exact I.free
 .obtain⟨_,o,a,_⟩:=I.ok.funs.mem hb
  exact I.base.free b o a (I.ok.frf b hb) λz=>I.ok.exfs b z hb
theorem b_.step{ch:a0o}(I:b_ X a_ σ H s)
  (f:∀b∈ch,(b∈X.ex\/X.s₀.heap.objs.size<=b)/\b≠X.env.locals/\(∀x c,X.env.cells.lookup x=on c->c≠b)/\∀p∈X.pn++a_,p.1≠b)
  (E:∀b o,b≠X.env.locals->b∉X.fs->b∉ch->s.heap.get? b=on o->H b=OD->h'.get? b=on o)
  (G:∀b o,b≠X.env.locals->b∈X.fs->b∉ch->s.heap.get? b=on o->H b=OD->∃J,h'.get? b=on {o with slots:=J}) (D:∀b o,b∉ch->s.heap.get? b=on o->H b=OD->T b=OD)
  (M:∀b o,b∉ch->s.heap.get? b=on o->∃B,h'.get? b=on B)
  (S:∀b K,H b=on (.tup K)->T b=on (.tup K)) (V:∀b o u,H b=on (.frz o u)->T b=on (.frz o u)) (U:∀b Y,H b=on (.tbl Y)->∃W,T b=on (.tbl<|Y++W))
  (ns:∀m,s.heap.Ns X.env.locals m->h'.Ns X.env.locals m) (Z:k_ X.prog X.w T h') (P:Um g'):
  b_ X a_ σ T {s with heap:=h',gens:=g',drawn:=d',toks:=t'}:=by
 have C:∀b o,X.s₀.heap.get? b=on o->b≠X.env.locals:=λb o e=>PQ<|Pj (Ph e) I.ok.above;have j:∀b o,X.s₀.heap.get? b=on o->b∉X.ex->b∉ch:=λb o e a y=>by
  rcases(f b y).1 with z|z
  .exact a z
  .exact Pf (Pj (Ph e) z) (P6 _)
 have g:∀x c,X.env.cells.lookup x=on c->∀v,s.heap.IsCell c v->h'.IsCell c v:=λx c e v ⟨o,A,hd⟩=>by
  have h:c∉ch:=λz=>(f c z).2.2.1 x c e rfl;by_cases N:c∈X.fs
  .obtain⟨J,q⟩:=G c o (I.cne x c e) N h A<|I.freeC x c e
   exact⟨_,q,hd⟩
  .exact⟨o,E c o (I.cne x c e) N h A<|I.freeC x c e,hd⟩
 refine⟨I.ok,I.os,P,⟨λb o e n y a=>?_,λb o e n y a=>?_,λb o e n a=>?_,λb o e a=>?_,λb K e=>S b K<|I.base.tups b K e,λb o K e=>V b o K<|I.base.frzs b o K e,λb Y e=>?_⟩,?_,λx c e=>?_,?_,λx c e=>?_,λp O=>?_,Z,I.len⟩
 .exact E b o (C b o e) y (j b o e a) (I.base.keep b o e n y a) (I.base.free b o e n a)
 .obtain⟨J,t⟩:=I.base.slot b o e n y a
  obtain⟨L,F⟩:=G b _ (C b o e) y (j b o e a) t<|I.base.free b o e n a;exact⟨L,F⟩
 .obtain⟨B,t⟩:=I.base.there b o e a
  exact D b B (j b o e a) t<|I.base.free b o e n a
 .obtain⟨B,t⟩:=I.base.there b o e a
  exact M b B (j b o e a) t
 .obtain⟨m1,t⟩:=I.base.tbls b Y e
  obtain⟨m2,F⟩:=U b _ t;exact⟨m1++m2,by rw[F,XF]⟩
 .obtain⟨m,hn,Q⟩:=I.loc
  refine⟨m,ns m hn,λi x v t F R=>?_⟩;obtain⟨u,r,l⟩:=Q i x v t F R;refine⟨u,r,?_⟩;rcases l with l|⟨k,c,e,z⟩
  .exact .inl l
  .exact .inr ⟨k,c,e,g x c e _ z⟩
 .obtain⟨v,z⟩:=I.cell x c e
  exact⟨v,g x c e v z⟩
 .obtain⟨m,⟨o,_,_,A,_⟩,_⟩:=I.loc
  exact D _ o (λz=>(f _ z).2.1 rfl) A I.free
 .obtain⟨v,o,A,hd⟩:=I.cell x c e
  exact D c o (λz=>(f c z).2.2.1 x c e rfl) A<|I.freeC x c e
 .obtain⟨e,n,ne,nf,d⟩:=I.pin p O
  have h:p.1∉ch:=λz=>(f p.1 z).2.2.2 p O rfl;exact⟨E p.1 p.2 ne nf h e n,D p.1 p.2 h e n,ne,nf,d⟩
theorem b_.un(I:b_ X a_ σ H s)(u:Un X.fs [] H T s.heap h')(D:k_ X.prog X.w T h'):b_ X a_ σ T {s with heap:=h',toks:=t'}:=by
 obtain⟨m,⟨o,G,K,g,r⟩,_⟩:=id I.loc;obtain⟨j,h⟩:=u.any g I.free (by simp);exact I.step (g':=s.gens) (d':=s.drawn) (ch:=[]) (λ_ z=>nomatch z) (λb o _ c _ e n=>u.keep b o e n c<|by simp) (λb o _ c _ e n=>u.slot b o e n c<|by simp) (λb o _ e n=>u.free b o e n<|by simp) (λb o _ e=>u.there b o e<|by simp) u.tups u.frzs u.tbls (λk E=>by
  obtain⟨l,d,f,a,i⟩:=E;rw[g]at a;cases a;exact⟨_,d,f,h,i⟩) D I.bare
theorem b_.call{ch:a0o}(I:b_ X a_ σ H s)(u:Un (g8 X.stack) ch H T s.heap h')(D:k_ X.prog X.w T h')(k:Um g')
  (d:∀b∈ch,(b∈X.ex\/X.s₀.heap.objs.size<=b)/\b≠X.env.locals/\(∀x c,X.env.cells.lookup x=on c->c≠b)/\∀p∈X.pn++a_,p.1≠b):
  b_ X a_ σ T {s with heap:=h',gens:=g',drawn:=d',toks:=t'}:=by
 obtain⟨m,⟨o,G,K,j,r⟩,_⟩:=id I.loc;obtain⟨t,g⟩:=u.any j I.free λz=>(d _ z).2.1 rfl;exact I.step (ch:=ch) d (λb o g l a e n=>u.keep b o e n (λz=>(OQ.mp<|I.stkSub b z).elim g l) a) (λb o _ _ a e n=>u.any e n a) (λb o a e n=>u.free b o e n a) (λb o a e=>u.there b o e a) u.tups u.frzs u.tbls (λv E=>by
  obtain⟨y,h,i,f,q⟩:=E;rw[j]at f;cases f;exact⟨_,h,i,g,q⟩) D k
theorem b_.turned(I:b_ X a_ σ H s)(k:∀b o,b≠t->s.heap.get? b=on o->h'.get? b=on o)(D:H t=OD)(f:t≠X.env.locals)
  (g:t∈X.ex\/X.s₀.heap.objs.size<=t) (h:∀x c,X.env.cells.lookup x=on c->c≠t) (i:∀p∈X.pn++a_,p.1≠t):b_ X a_ σ H {s with heap:=h',toks:=t'}:=by
 have d:∀b u,H b=on u->b≠t:=λb u e z=>by rw[z,D]at e;cases e
 refine I.step (g':=s.gens) (d':=s.drawn) (ch:=[t]) (λb j=>?_) (λb o _ _ a e _=>k b o (λz=>a<|by simp[z]) e) (λb o _ _ a e _=>⟨o.slots,k b o (λz=>a<|by simp[z]) e⟩) (λ_ _ _ _ n=>n)
  (λb o a e=>⟨o,k b o (λz=>a<|by simp[z]) e⟩) (λ_ _ e=>e) (λ_ _ _ e=>e) (λb G e=>⟨#[],by rw[e];simp⟩) (λm E=>?_) (λb u e=>?_) I.bare
 .have e:b=t:=by simpa using j
  subst e;exact⟨g,f,h,i⟩
 .obtain⟨o,es,ep,l,r⟩:=E
  exact⟨o,es,ep,k _ o (Ne.symm f) l,r⟩
 .refine(I.hok b u e).stay (λc v a q=>k c v ?_ q) (λ_ q=>q) λ_ _ q=>q
  rcases a with z|z
  .rw[z];exact d b u e
  .exact d c _ z
theorem b_.tok(I:b_ X a_ σ H s)(t:Nat):b_ X a_ σ H {s with toks:=t}:=I.un (h':=s.heap) (t':=t) Un.refl I.hok
theorem b_.kept(I:b_ X a_ σ H s)(k:∀b u,s.heap.get? b=on u->h'.get? b=on u):b_ X a_ σ H {s with heap:=h',toks:=t'}:=I.un (Un.kept k)<|I.hok.kept k
theorem b_.laid{a:ON}{o:HO}{t':Nat}(I:b_ X a_ σ H s)(k:∀b u,s.heap.get? b=on u->h'.get? b=on u)(c:s.heap.objs.size<=a)(D:cq X.prog X.w (upd H a o) h' a o):
  b_ X a_ σ (upd H a o) {s with heap:=h',toks:=t'}:=I.un (Un.laid k c<|I.hok.fresh c)<|I.hok.laid k c D
theorem b_.write(I:b_ X a_ σ H s)(mu:ZK<|H x)(c:e=x\/H e=on (.own x))(k:∀b u,b≠e->s.heap.get? b=on u->h'.get? b=on u)(a:∃u,h'.get? e=on u)
  (D:cq X.prog X.w (upd H x o) h' x o):b_ X a_ σ (upd H x o) {s with heap:=h',toks:=d}:=I.un (Un.write mu c k a)<|I.hok.write mu c k a D
theorem b_.pins_of(I:b_ X a_ σ H s)(h:∀p∈pins',s.heap.get? p.1=on p.2/\H p.1=OD/\p.1≠X.env.locals/\p.1∉X.fs/\∀v,p.2.data≠ .cell v):b_ X pins' σ H s:=
 ⟨I.ok,I.os,I.bare,I.base,I.loc,I.cell,I.free,I.freeC,λp a=>(P4.mp a).elim (λz=>I.pin p<|RO _ z)<|h p,I.hok,I.len⟩
theorem v4{N:a0h}(c:N.Nodup){i j:Nat}{x:PP}(a:N[i]?=on x)(b:N[j]?=on x):i=j:=by
 obtain⟨f,d⟩:=OM.mp a;obtain⟨g,e⟩:=OM.mp b;exact(List.getElem_inj c).mp<|d.trans e.symm
theorem mQ{M:Model}{E:a0f}(I:b_ X a_ σ H s)(hN:X.N.Nodup)(O:X.N[i]?=on x)(l:x5 X.env.scope x)(r:aR v u)
  (h:∀K,b_ X a_ (σ.set i<|on v) H K->(∃a,PL a s.heap K.heap/\(a=X.env.locals\/X.env.cells.lookup x=on a))->Q () K) (hf:b0d X x:=by first|exact .inl rfl|exact .inr rfl|assumption):O6 M A (storeName X.env x u) Q E s:=by
 obtain⟨m,S,hl⟩:=id I.loc;have P:(X.env.scope.kind== .class||(X.env.scope.kind== .module&&X.env.locals !=X.env.globals))=OO:=by rw[I.ok.kind];rfl
 have C:i<σ.length:=by rw[I.len];exact(OM.mp O).1
 have G:=I.cne;have f:∀{a:ON} {h':PZ},(∃o,s.heap.get? a=on o/\H a=OD)->PL a s.heap h'->k_ X.prog X.w H h':=λ{a h'} ha D b ob e=>by
  obtain⟨_,_,t⟩:=ha;refine(I.hok b ob e).stay (λc Y hc q=>(D.2 c ?_).trans q) (λ_ q=>q) λ_ _ q=>q;rintro rfl;rcases hc with rfl|hc
  .rw[t]at e;cases e
  .rw[t]at hc;cases hc
 rcases l with hk|hk
 .refine wpAny_storeName_local hk S (λh' V D=>?_) P
  obtain⟨oL,_,_,aa,_⟩:=id S;refine h _ ⟨I.ok,I.os,I.bare,⟨λb o e n F l=>?_,λb o e n F l=>?_,I.base.free,λb o e l=>?_,I.base.tups,I.base.frzs,I.base.tbls⟩,⟨_,V,λj y v' g B e3=>?_⟩,λy c e=>?_,I.free,I.freeC,λp hp=>?_,f ⟨oL,aa,I.free⟩ D,by simpa using I.len⟩ ⟨_,D,.inl rfl⟩
  .exact(D.2 b<|PQ<|Pj (Ph e) I.ok.above).trans (I.base.keep b o e n F l)
  .obtain⟨sl,g⟩:=I.base.slot b o e n F l
   exact⟨sl,(D.2 b<|PQ<|Pj (Ph e) I.ok.above).trans g⟩
  .obtain⟨o',g⟩:=I.base.there b o e l
   exact⟨o',(D.2 b<|PQ<|Pj (Ph e) I.ok.above).trans g⟩
  .by_cases J:j=i
   .subst J
    rw[O]at g;cases g;rw[W2 C]at B;cases B;exact⟨u,r,.inl ⟨hk,by simp⟩⟩
   .rw[Xy<|Ne.symm J]at B
    obtain⟨u',r',q⟩:=hl j y v' g B e3;refine⟨u',r',?_⟩;rcases q with⟨k,e⟩|⟨k,c,e,z⟩
    .refine .inl ⟨k,?_⟩
     have:y≠x:=λe=>J<|v4 hN g<|e▸O;simp[this,e]
    .exact .inr ⟨k,c,e,z.sameBut D<|G y c e⟩
  .obtain⟨Y,z⟩:=I.cell y c e
   exact⟨Y,z.sameBut D<|G y c e⟩
  .obtain⟨e,n,ne,nf,d⟩:=I.pin p hp
   exact⟨(D.2 p.1 ne).trans e,n,ne,nf,d⟩
 .have L:X.fn x=OK:=by
   rcases hf with z|z
   .exact z
   .rw[z]at hk;cases hk
  obtain⟨c,hc⟩:=I.ok.has x<|.inl hk;obtain⟨Y,z⟩:=I.cell x c hc;refine wpAny_storeName_cell I.ok.kind hk hc z (λh' R D=>?_);obtain⟨oc,T,U⟩:=id z;refine h {s with heap:=h'} ⟨I.ok,I.os,I.bare,⟨λb o e n F l=>?_,λb o e n F l=>?_,I.base.free,λb o e l=>?_,I.base.tups,I.base.frzs,I.base.tbls⟩,⟨m,S.sameBut D<|Ne.symm<|G x c hc,λj y v' g B e3=>?_⟩,λy Z e=>?_,I.free,I.freeC,λp hp=>?_,f ⟨oc,T,I.freeC x c hc⟩ D,by simpa using I.len⟩ ⟨c,D,.inr hc⟩
  .exact(D.2 b<|PQ<|Pj (Ph e)<|I.ok.cab x c L hc).trans (I.base.keep b o e n F l)
  .obtain⟨sl,g⟩:=I.base.slot b o e n F l
   exact⟨sl,(D.2 b<|PQ<|Pj (Ph e)<|I.ok.cab x c L hc).trans g⟩
  .obtain⟨o',g⟩:=I.base.there b o e l
   exact⟨o',(D.2 b<|PQ<|Pj (Ph e)<|I.ok.cab x c L hc).trans g⟩
  .by_cases J:j=i
   .subst J
    rw[O]at g;cases g;rw[W2 C]at B;cases B;exact⟨u,r,.inr ⟨.inl hk,c,hc,R⟩⟩
   .rw[Xy<|Ne.symm J]at B
    obtain⟨u',r',q⟩:=hl j y v' g B e3;refine⟨u',r',?_⟩;rcases q with q|⟨k,Z,e,z'⟩
    .exact .inl q
    .refine .inr ⟨k,Z,e,z'.sameBut D ?_⟩
     rintro rfl;exact J<|v4 hN g<|I.ok.inj _ _ _ e hc▸O
  .by_cases W:Z=c
   .subst W;exact⟨_,R⟩
   .obtain⟨w2,z2⟩:=I.cell y Z e
    exact⟨w2,z2.sameBut D W⟩
  .obtain⟨e,n,ne,nf,d⟩:=I.pin p hp
   refine⟨(D.2 p.1 ?_).trans e,n,ne,nf,d⟩;intro q;rw[q,T]at e;have q':oc=p.2:=Pn e;exact d Y (by rw[<-q'];exact U)
theorem pJ{M:Model}{E:a0f}(I:b_ X a_ σ H s)(a:X.N.Nodup)(b:X.N[i]?=on x)(c:x5 X.env.scope x)(r:aR v u)
  (h:∀D,b_ X a_ (σ.set i<|on v) H D->Q () D) (d:b0d X x:=by first|exact .inl rfl|exact .inr rfl|assumption):O6 M A (storeName X.env x u) Q E s:=
 mQ I a b c r (λD e _=>h D e) d
theorem b_.call'{s':OT}{ch:a0o}(I:b_ X a_ σ H s)(d:s'.os=s.os)(u:Un (g8 X.stack) ch H T s.heap s'.heap)(D:k_ X.prog X.w T s'.heap)(f:Um s'.gens)
  (a:∀b∈ch,(b∈X.ex\/X.s₀.heap.objs.size<=b)/\b≠X.env.locals/\(∀x c,X.env.cells.lookup x=on c->c≠b)/\∀p∈X.pn++a_,p.1≠b):b_ X a_ σ T s':=by
 obtain⟨h',g',d',t',g⟩:=s';have e:g=s.os:=d;subst e;exact I.call (g':=g') (t':=t') (d':=d') u D f a
abbrev XK:=OP->a0X->Hp->Prop
abbrev St:=List<|Option V
abbrev a0s:=St->XK
abbrev a0H:=St->Hp->Prop
abbrev VK:=V->Hp->Prop
abbrev a0I:=a0i->Hp->VK->Prop
abbrev a0Q:=V->a0i->Hp->VK->Prop
abbrev TE:=St->Hp->VK->Prop
abbrev TT:=St->Hp->(Bool->Hp->Prop)->Prop
abbrev TA:=St->Hp->(a0i->Hp->Prop)->Prop
structure ot where
 nx:St->Hp->Prop
 rt:VK
 bk:St->Hp->Prop:=λ_ _=>False
 ct:St->Hp->Prop:=λ_ _=>False
abbrev TS:=ot->St->Hp->Prop
def EP(X:Cx)(a_:a0d)(σ:St)(Q:VK)(u:OP)(s:OT):Prop:=∃v T,b_ X a_ σ T s/\aR v u/\Q v T
def TP(X:Cx)(a_:a0d)(σ:St)(Q:a0V)(b:Bool)(s:OT):Prop:=∃T,b_ X a_ σ T s/\Q b T
def AP(X:Cx)(a_:a0d)(σ:St)(Q:a0i->Hp->Prop)(D:a0g)(E:OT):Prop:=∃s T,b_ X a_ σ T E/\aB s D/\Q s T
def SP(X:Cx)(a_:a0d)(D:ot)(f:Flow)(s:OT):Prop:=
 match f with
 | .next=>∃a T,b_ X a_ a T s/\D.nx a T
 | .brk=>∃a T,b_ X a_ a T s/\D.bk a T
 | .cont=>∃a T,b_ X a_ a T s/\D.ct a T
 | .ret u=>∃v a T,b_ X a_ a T s/\aR v u/\D.rt v T
def PE(X:Cx)(e:Expr)(t:TE):Prop:=
 ∀(a_:a0d) (s:OT) (σ:St) (H:Hp) (Q:VK),b_ X a_ σ H s->t σ H Q->O6 (Po X.prog X.w) X.A (Qh e X.env) (EP X a_ σ Q) X.xe s
def PT(X:Cx)(e:Expr)(t:TT):Prop:=
 ∀(a_:a0d) (s:OT) (σ:St) (H:Hp) (Q:a0V),b_ X a_ σ H s->t σ H Q->O6 (Po X.prog X.w) X.A (isTrue e X.env<|Qh e X.env) (TP X a_ σ Q) X.xe s
def PW(X:Cx)(e:Expr)(t:TT):Prop:=
 ∀(a:Sem OP) (a_:a0d) (s:OT) (σ:St) (H:Hp) (Q:a0V),b_ X a_ σ H s->t σ H Q->O6 (Po X.prog X.w) X.A (isTrue e X.env a) (TP X a_ σ Q) X.xe s
theorem PW.pt{X:Cx}(h:PW X e t):PT X e t:=h _
def PA(X:Cx)(E:List Expr)(t:TA):Prop:=
 ∀(D:TF) (a_:a0d) (s:OT) (σ:St) (H:Hp) (Q:a0i->Hp->Prop),b_ X a_ σ H s->t σ H Q->O6 (Po X.prog X.w) X.A (spliced<|Q5 D<|O1 E X.env) (AP X a_ σ Q) X.xe s
def PS(X:Cx)(E:Qd)(t:TS):Prop:=
 ∀(a_:a0d) (s:OT) (σ:St) (H:Hp) (D:ot),b_ X a_ σ H s->t D σ H->O6 (Po X.prog X.w) X.A (exec E X.env) (SP X a_ D) X.xe s
def PSs(X:Cx)(E:a0R)(t:TS):Prop:=
 ∀(a_:a0d) (s:OT) (σ:St) (H:Hp) (D:ot),b_ X a_ σ H s->t D σ H->O6 (Po X.prog X.w) X.A (execs E X.env) (SP X a_ D) X.xe s
theorem dt{D:Type}{t:Sem D}{Q b:D->OT->Prop}{M:Model}{A:Qc}{E:a0f}{s:OT}(h:O6 M A t Q E s)(c:∀a s,Q a s->b a s):O6 M A t b E s:=Qa h c λ_ _ x=>x
def pF(i:Nat):TE:=λσ H Q=>∃v,σ[i]?=on (on v)/\Q v H
def tC(v:V):TE:=λ_ H Q=>Q v H
theorem K1(f:X.N[i]?=on x)(g:Zd X.env.scope x)(E:b0c x:=by decide)(b:(x==("__classdict__":PP))=OO:=by decide):PE X (.Name x k) (pF i):=by
 intro a_ s σ H Q I h;obtain⟨v,e,h⟩:=h;obtain⟨m,G,j⟩:=I.loc;obtain⟨u,r,l⟩:=j i x v f e g;have D:EP X a_ σ Q u s:=⟨v,H,I,r,h⟩;rcases l with⟨hk,K⟩|⟨hk,c,d,a⟩
 .exact wpAny_Name (wpAny_loadName_local I.ok.kind hk G K D) E
 .rcases hk with hk|hk
  .exact wpAny_Name (wpAny_loadName_cell I.ok.kind hk d a D) E
  .exact wpAny_Name (wpAny_loadName_free I.ok.kind hk d a D b) E
theorem b9{i j a}:PE X (.Constant (.int i) j a) (tC<|.int i):=λ_ _ _ H _ I h=>wpAny_Constant_int ⟨.int i,H,I.tok _,⟨_,rfl⟩,h⟩
theorem Nq{b j a}:PE X (.Constant (.bool b) j a) (tC<|.bl b):=λ_ _ _ H _ I h=>Constant_bool ⟨.bl b,H,I,rfl,h⟩
theorem K6{j a}:PE X (.Constant .none j a) (tC .non):=λ_ _ _ H _ I h=>Constant_none ⟨.non,H,I,rfl,h⟩
def Gl(X:Cx)(x:PP):Prop:=X.env.kindOf x=on .globalImplicit
theorem sw{E:a0f}{a_:a0d}{s:OT}{σ:St}{H:Hp}(I:b_ X a_ σ H s)(a:Gl X x)(D:X.mg x=on u)(h:Q u s)
  (G:b0c x:=by decide):O6 (Po X.prog X.w) X.A (Qh (.Name x b) X.env) Q E s:=
 V9 I.ok.kind a (Calls.loadGlobal_global (by rw[I.ok.glob];exact I.mod.glob.keeps I.bk) D h) G
theorem ij{E:a0f}{a_:a0d}{s:OT}{σ:St}{H:Hp}(I:b_ X a_ σ H s)(a:Gl X x)(D:X.mg x=OD)(b:Su x=on u)(h:Q u s)
  (G:x≠"__name__":=by decide) (K:b0c x:=by decide):O6 (Po X.prog X.w) X.A (Qh (.Name x f) X.env) Q E s:=by
 obtain⟨e,c,d⟩:=I.mod.blt;exact V9 I.ok.kind a (Calls.loadGlobal_builtin (by rw[I.ok.glob];exact I.mod.glob.keeps I.bk) D (by rw[I.ok.blt];exact c.keeps I.bk) ((d x G).trans b) h) K
theorem Jh(a:Gl X x)(s:X.mg x=on u)(r:aR v u)(D:b0c x:=by decide):PE X (.Name x b) (tC v):=
 λ_ _ _ H _ I h=>sw I a s ⟨v,H,I,r,h⟩ D
theorem fA(a:Gl X x)(s:X.mg x=OD)(b:Su x=on u)(r:aR v u)(D:x≠"__name__":=by decide)(E:b0c x:=by decide):PE X (.Name x c) (tC v):=
 λ_ _ _ H _ I h=>ij I a s b ⟨v,H,I,r,h⟩ D E
variable{a b:Expr}{l o:TE}{k:TF}
variable{m p:TT}{j:List Expr}
def tOr(t u:TT):TT:=λσ H Q=>t σ H λc d=>if c=OK then Q OK d else u σ d Q
def ZV(t:TT):TT:=λσ H Q=>t σ H λc d=>Q (!c) d
theorem KS(b:PT X a m):PW X (.BoolOp .Or [a] k) m:=by
 intro d a_ s σ H Q I h;refine isTrue_or<|dt (b a_ s σ H Q I h) λc f e=>?_;cases c with
 |false=>exact isTrue_or_nil e
 |true=>exact e
theorem No(o:PT X a m)(f:PW X (.BoolOp .Or (b::j) k) p):PW X (.BoolOp .Or (a::b::j) k) (tOr m p):=by
 intro g a_ s σ H Q I h;refine isTrue_or<|dt (o a_ s σ H _ I h) λc i ⟨d,e,l⟩=>?_;cases c with
 |true=>exact⟨d,e,l⟩
 |false=>exact f g a_ i σ d Q e l
theorem KV(b:PT X a m):PT X (.UnaryOp .Not a k) (ZV m):=by
 intro a_ s σ H Q I h;exact isTrue_not<|b a_ s σ H (λc d=>Q (!c) d) I h
def Ng(l o:TE):TE:=λσ H Q=>l σ H λx d=>∃c,x= .bl c/\if c=OK then o σ d Q else Q (.bl OO) d
def Nb(l:TE):TE:=λσ H Q=>l σ H λx d=>∃c,x= .bl c/\Q (.bl<|!c) d
theorem K4{op}(h:PE X a t):PE X (.BoolOp op [a] k) t:=λa_ s σ H Q I c=>BoolOp_one<|h a_ s σ H Q I c
theorem K8(p:PE X a l)(f:PE X (.BoolOp .And (b::j) k) o):PE X (.BoolOp .And (a::b::j) k) (Ng l o):=by
 intro a_ s σ H Q I h;refine BoolOp_and<|dt (p a_ s σ H _ I h) λv g ⟨x,d,e,D,m⟩=>?_;obtain⟨c,rfl,m⟩:=m;cases D;refine Qg ?_;cases c with
 |true=>exact f a_ g σ d Q e m
 |false=>exact⟨.bl OO,d,e,rfl,m⟩
theorem K5(j:PE X a l):PE X (.UnaryOp .Not a k) (Nb l):=by
 intro a_ s σ H Q I h;refine UnaryOp_<|dt (j a_ s σ H _ I h) λv f ⟨x,d,e,m,b⟩=>?_;obtain⟨c,rfl,b⟩:=b;cases m;exact not_of<|Qg ⟨.bl<|!c,d,e,rfl,b⟩
def tIf(t:TT)(l o:TE):TE:=λσ H Q=>t σ H λc d=>if c=OK then l σ d Q else o σ d Q
theorem Gf(i:PT X c m)(D:PE X a l)(j:PE X b o):PE X (.IfExp c a b k) (tIf m l o):=by
 intro a_ s σ H Q I h;refine wpAny_IfExp<|dt (i a_ s σ H _ I h) λd e ⟨f,g,p⟩=>?_;cases d with
 |true=>exact D a_ e σ f Q g p
 |false=>exact j a_ e σ f Q g p
def eg(K:Pa)(H:Hp)(a:ON)(xs:a0i):Prop:=
 Rd H a (.lst xs)\/
  ∃(o:Qk) (b:a0M) (n:Nat),K.lookup a=on o/\o.cls= .type "list"/\o.dict=OD/\o.data= .seq b n/\b.size<=Pe/\aB xs b.toList
def g_(K:Pa)(H:Hp)(a:ON)(j:a0i):Prop:=
 Rd H a (.tup j)\/
  ∃(o:Qk) (b:a0M) (n:Nat),K.lookup a=on o/\o.cls= .type "tuple"/\o.data= .seq b n/\b.size<=Pe/\aB j b.toList
noncomputable def absV:OP->Option V
 | .none=>on .non
 | .bool b=>on<|.bl b
 | .int i _=>on<|.int i
 | .str x _=>on<|.str x
 | .ref a=>on<|.ref a
 | .type n=>on<|.ty n
 |_=>OD
theorem aR.abs(r:aR x u):absV u=on x:=by
 cases x with
 |non=>cases r;rfl
 |bl _=>cases r;rfl
 |int _=>obtain⟨t,rfl⟩:=r;rfl
 |str _=>obtain⟨t,rfl⟩:=r;rfl
 |ref _=>cases r;rfl
 |ty _=>cases r;rfl
theorem aR.inj(r:aR x u)(q:aR y u):x=y:=Pn<|r.abs.symm.trans q.abs
theorem aB.inj:∀{a b:a0i} {j:a0g},aB a j->aB b j->a=b
 |_,_,_,.nil,.nil=>rfl
 |_,_,_,.cons r t,.cons r' t'=>by rw[r.inj r',aB.inj t t']
end
section
variable{X:Cx}{a_:a0d}{σ:St}{H:Hp}{s:OT}{a:ON}{xs ys:a0i}
theorem eg.of{K:Pa}(h:H a=on (.lst xs)):eg K H a xs:= .inl<|.inl h
theorem b_.list(I:b_ X a_ σ H s)(h:eg X.K H a xs):∃its:a0g,aB xs its/\PlainL s.heap a its.toArray/\xs.length<=Pe:=by
 rcases h with h|⟨o,its,n,b,c,D,E,d,r⟩
 .obtain⟨z,its,n,r,e⟩:=h.ok I.hok
  exact⟨its,r,⟨_,n,e,rfl,rfl,rfl⟩,z⟩
 .refine⟨its.toList,r,⟨o,n,I.kIn a o b,c,D,by simpa using E⟩,?_⟩
  have e:=r.length;simp only[Pq]at e;lia
theorem b_.tuple(I:b_ X a_ σ H s)(h:g_ X.K H a xs):∃D:a0g,aB xs D/\IsTup s.heap a D.toArray/\xs.length<=Pe:=by
 rcases h with h|⟨o,D,n,b,c,E,d,r⟩
 .obtain⟨z,D,r,p⟩:=h.ok I.hok
  exact⟨D,r,p,z⟩
 .refine⟨D.toList,r,⟨o,I.kIn a o b,c,n,by simpa using E⟩,?_⟩
  have e:=r.length;simp only[Pq]at e;lia
theorem b_.list_inj(I:b_ X a_ σ H s)(h:eg X.K H a xs)(M:eg X.K H a ys):xs=ys:=by
 obtain⟨E,r,⟨o,n,e,_,_,d⟩,_⟩:=I.list h;obtain⟨D,c,⟨f,g,b,_,_,G⟩,_⟩:=I.list M;rw[e]at b;cases b;rw[d]at G
 injection G with S _
 have:E=D:=by simpa using Qr Array.toList S
 subst this;exact r.inj c
theorem b_.tuple_inj(I:b_ X a_ σ H s)(h:g_ X.K H a xs)(M:g_ X.K H a ys):xs=ys:=by
 obtain⟨E,r,⟨o,e,_,n,d⟩,_⟩:=I.tuple h;obtain⟨D,c,⟨f,b,_,g,G⟩,_⟩:=I.tuple M;rw[e]at b;cases b;rw[d]at G
 injection G with S _
 have:E=D:=by simpa using Qr Array.toList S
 subst this;exact r.inj c
noncomputable abbrev Cx.wish(X:Cx)(E:a0f):Cx:={X with xe:=E}
noncomputable abbrev Cx.nox(X:Cx):Cx:=X.wish λ_ _=>False
theorem Cx.Ok.wish{X:Cx}(a:X.Ok)(E:a0f):(X.wish E).Ok:=
 ⟨a.mod,a.kind,a.glob,a.blt,a.above,a.inj,a.has,a.cab,a.hd,a.frames,a.stk,a.exf,a.bs,a.bsz,a.noex,a.exfs,a.funs,a.frf⟩
theorem Cx.Ok.unwish{X:Cx}{E:a0f}(a:(X.wish E).Ok):X.Ok:=
 ⟨a.mod,a.kind,a.glob,a.blt,a.above,a.inj,a.has,a.cab,a.hd,a.frames,a.stk,a.exf,a.bs,a.bsz,a.noex,a.exfs,a.funs,a.frf⟩
variable{E:a0f}
theorem b_.wish(I:b_ X a_ σ H s)(E:a0f):b_ (X.wish E) a_ σ H s:=⟨I.ok.wish E,I.os,I.bare,I.base,I.loc,I.cell,I.free,I.freeC,I.pin,I.hok,I.len⟩
theorem b_.unwish(I:b_ (X.wish E) a_ σ H s):b_ X a_ σ H s:=⟨I.ok.unwish,I.os,I.bare,I.base,I.loc,I.cell,I.free,I.freeC,I.pin,I.hok,I.len⟩
theorem SP.unwish{D:ot}(h:SP (X.wish E) a_ D f d):SP X a_ D f d:=by
 cases f with
 |next=>obtain⟨b,c,I,q⟩:=h;exact⟨b,c,I.unwish,q⟩
 |brk=>obtain⟨b,c,I,q⟩:=h;exact⟨b,c,I.unwish,q⟩
 |cont=>obtain⟨b,c,I,q⟩:=h;exact⟨b,c,I.unwish,q⟩
 |ret u=>obtain⟨v,b,c,I,r,q⟩:=h;exact⟨v,b,c,I.unwish,r,q⟩
theorem PSs.nox{a:a0R}(h:PSs X.nox a t):PSs X a t:=λa_ s σ H D I b=>
 Qa (h a_ s σ H D (I.wish _) b) (λ_ _ q=>q.unwish) λ_ _ z=>Ry z
variable{Z:Qd}{rest:a0R}{t u:TS}{e:Expr}{a:TE}{aa:TF}
noncomputable def Nd:TS:=λD σ H=>D.nx σ H
def ZT(t u:TS):TS:=λD σ H=>t {D with nx:=u D} σ H
theorem se:PSs X [] Nd:=λ_ _ σ H _ I h=>Vj ⟨σ,H,I,h⟩
theorem dB(c:PS X Z t)(d:PSs X rest u):PSs X (Z::rest) (ZT t u):=by
 intro a_ s σ H D I h;refine wpAny_execs_cons<|dt (c a_ s σ H {D with nx:=u D} I h) λf g q=>?_;cases f with
 |next=>
  obtain⟨b,i,j,q⟩:=q;exact d a_ g b i D j q
 |ret v=>exact q
 |brk=>exact q
 |cont=>exact q
theorem oy(b:PS X Z t):PSs X [Z] t:=by
 intro a_ s σ H D I h;refine wpAny_execs_cons<|dt (b a_ s σ H D I h) λf c q=>?_;cases f with
 |next=>exact Vj q
 |ret v=>exact q
 |brk=>exact q
 |cont=>exact q
theorem b_.quiet{a_:a0d}{σ:St}{H:Hp}{s:OT}(I:b_ X a_ σ H s):interactive X.env=OO:=by simp[interactive,I.ok.kind]
def yX(a:TE):TS:=λD σ H=>a σ H λ_ b=>D.nx σ b
theorem cw(b:PE X e a)(t:TY e OD aa.line X.env=Rm OO:=by rfl):PS X (.Expr e aa) (yX a):=by
 intro a_ s σ H D I h;exact wpAny_Expr_any (dt (b a_ s σ H _ I h) λv f ⟨x,c,d,E,u⟩=>⟨σ,c,d,u⟩) I.quiet t
def FQ(a:TE):TS:=λD σ H=>a σ H D.rt
theorem au(b:PE X e a):PS X (.Return (on e) aa) (FQ a):=by
 intro a_ s σ H D I h;exact wpAny_Return_some<|dt (b a_ s σ H _ I h) λv f ⟨x,c,d,t,u⟩=>⟨x,σ,c,d,t,u⟩
def ZW(c:TT)(t u:TS):TS:=λD σ H=>c σ H λb d=>if b=OK then t D σ d else u D σ d
theorem HN{a b:a0R}(j:PT X c tc)(E:PSs X a t)(k:PSs X b u):PS X (.If c a b aa) (ZW tc t u):=by
 intro a_ s σ H D I h;refine wpAny_If<|dt (j a_ s σ H _ I h) λd f ⟨g,i,e⟩=>?_;cases d with
 |true=>exact E a_ f σ g D i e
 |false=>exact k a_ f σ g D i e
abbrev TG:=V->St->Hp->(St->Hp->Prop)->Prop
abbrev N_:=a0i->St->Hp->(St->Hp->Prop)->Prop
def PG(X:Cx)(b:Expr)(t:TG):Prop:=
 ∀(a_:a0d) (s:OT) (σ:St) (H:Hp) (v:V) (u:OP) (Q:a0H),b_ X a_ σ H s->aR v u->t v σ H Q->
  O6 (Po X.prog X.w) X.A (Uj b X.env u) (λ_ a=>∃c d,b_ X a_ c d a/\Q c d) X.xe s
def ZI(X:Cx)(d:List Expr)(t:N_):Prop:=
 ∀(a_:a0d) (s:OT) (σ:St) (H:Hp) (a:a0i) (e:a0g) (Q:a0H),b_ X a_ σ H s->aB a e->t a σ H Q->
  O6 (Po X.prog X.w) X.A (assignInOrder ((U8 d X.env).map (·.2)) e) (λ_ u=>∃b c,b_ X a_ b c u/\Q b c) X.xe s
abbrev xj:=V->V->V->Hp->(Hp->Prop)->Prop
def Hj(X:Cx)(t:xj):Prop:=
 ∀(a_:a0d) (s:OT) (σ:St) (H:Hp) (o i v:V) (b c u:OP) (Q:Hp->Prop),b_ X a_ σ H s->aR o b->aR i c->aR v u->t o i v H Q->
  O6 (Po X.prog X.w) X.A (setItem b c u) (λ_ a=>∃d,b_ X a_ σ d a/\Q d) X.xe s
abbrev Zf:=V->V->Hp->VK->Prop
def Y4(X:Cx)(a:Operator)(t:Zf):Prop:=
 ∀(a_:a0d) (s:OT) (σ:St) (H:Hp) (x y:V) (v u:OP) (Q:VK),b_ X a_ σ H s->aR x v->aR y u->t x y H Q->
  O6 (Po X.prog X.w) X.A (inplaceOp a v u) (EP X a_ σ Q) X.xe s
def gc(i:Nat):TG:=λv σ H Q=>Q (σ.set i<|on v) H
theorem xZ(b:X.N.Nodup)(c:X.N[i]?=on x)(d:x5 X.env.scope x)(f:b0d X x:=by first|exact .inl rfl|exact .inr rfl|assumption):PG X (.Name x aa) (gc i):=by
 intro a_ s σ H v u Q I r h;exact Wm<|pJ I b c d r (λa g=>⟨_,H,g,h⟩) f
noncomputable def gNil:N_:=λa σ H Q=>a=[]/\Q σ H
def z0(t:TG)(u:N_):N_:=λa σ H Q=>∃v r,a=v::r/\t v σ H λb c=>u r b c Q
theorem bq:ZI X [] gNil:=by
 intro a_ s σ H a t Q I r h;obtain⟨e,h⟩:=h;subst e;cases r;exact assignInOrder_nil ⟨σ,H,I,h⟩
theorem ar{e:Expr}{t:TG}{u:N_}(c:PG X e t)(d:ZI X m u)
  (a:(U8 (e::m) X.env).map (·.2)=Uj e X.env::(U8 m X.env).map (·.2):=by rfl):ZI X (e::m) (z0 t u):=by
 intro a_ s σ H E G Q I r h;obtain⟨v,l,f,h⟩:=h;subst f;cases r with
 |cons r g=>
  rw[a];refine assignInOrder_cons<|dt (c a_ s σ H _ _ _ I r h) λ_ i ⟨b,j,k,D⟩=>?_;exact d a_ i b j _ _ Q k g D
def GZ(K:Pa)(n:Nat)(t:N_):TG:=λv σ H Q=>∃a xs,v= .ref a/\g_ K H a xs/\xs.length=n/\t xs σ H Q
theorem bB{t:N_}(g:X.calm=OK)(h:ZI X x t)
  (D:(U8 x X.env).length=n:=by rfl) (c:(U8 x X.env).findIdx? (·.1)=OD:=by rfl):PG X (.Tuple x k aa) (GZ X.K n t):=by
 intro a_ s σ H v u Q I r d;obtain⟨a,xs,i,j,l,d⟩:=d;subst i;cases r;obtain⟨E,f,m,w⟩:=I.tuple j;refine assign_Tuple_tuple (I.ok.hd g) m (by simp[D,<-l,f.length]) c λG p=>?_;have q:b_ X a_ σ H {s with heap:=G}:=I.kept (t':=s.toks) λb o e=>p b o (PQ<|Ph e) e;exact h a_ _ σ H xs _ Q q (by simpa using f) d
def Mx(a b:TE)(t:xj):TG:=λv σ H Q=>a σ H λo c=>b σ c λi d=>t o i v d λf=>Q σ f
theorem lH{t:xj}(d:PE X o to)(f:PE X i z)(a:Hj X t)
  (e:∀v,Uj (.Subscript o i aa) X.env v=(do
   let b <-SX [v] (Qh o X.env)
   let c <-SX [v,b] (Qh i X.env)
   SY aa
   SX [v,b,c] (setItem b c v)
   release [v,b,c] []):=by intro _;rfl):PG X (.Subscript o i aa) (Mx to z t):=by
 intro a_ s σ H v u Q I r h;rw[e];refine My<|QA<|dt (d a_ s σ H _ I h) λb g ⟨x,j,k,D,E⟩=>?_;refine My<|QA<|dt (f a_ g σ j _ k E) λc l ⟨y,m,n,p,G⟩=>?_;refine My<|RE<|My<|QA<|dt (a a_ l σ m x y v b c u _ n D p r G) λ_ A ⟨q,w,K⟩=>?_;exact wpAny_release ⟨σ,q,w,K⟩
def kY(a:TE)(g:TG):TS:=λD σ H=>a σ H λx b=>g x σ b D.nx
theorem fW{t e:Expr}{a:TE}(b:PE X e a)(c:PG X t g)(u:swapsWithSole [t] e aa.line X.env=Rm OO:=by rfl)(d:swappedStores [t] e X.env=Rm OD:=by rfl)
  (f:(U8 [t] X.env).map (·.2)=[Uj t X.env]:=by rfl):PS X (.Assign [t] e aa) (kY a g):=by
 intro a_ s σ H D I h;refine wpAny_Assign_stores (dt (b a_ s σ H _ I h) λv i ⟨x,j,k,E,G⟩=>?_) u d;rw[f];exact dt (c a_ i σ j x v _ k E G) λ_ l q=>q
theorem qP{e:Expr}{a:TE}(b:X.N.Nodup)(c:X.N[i]?=on x)(d:x5 X.env.scope x)(f:PE X e a)(t:TY e (on<|.Name x pos') aa.line X.env=Rm OO:=by rfl)(g:b0d X x:=by first|exact .inl rfl|exact .inr rfl|assumption):
  PS X (.Assign [.Name x pos'] e aa) (kY a<|gc i):=by
 intro a_ s σ H D I h;refine wpAny_Assign_Name (dt (f a_ s σ H _ I h) λv m ⟨y,j,k,u,E⟩=>?_) t;exact pJ k b c d u (λn l=>⟨_,j,l,E⟩) g
def Ks(i:Nat)(a:TE)(b:Zf):TS:=λD σ H=>∃x,σ[i]?=on (on x)/\a σ H λy c=>b x y c λz d=>D.nx (σ.set i<|on z) d
theorem gu{e:Expr}{a:TE}(o:X.N.Nodup)(n:X.N[i]?=on x)(g:x5 X.env.scope x)(p:PE X e a)(q:Y4 X op ti)(B:b0d X x:=by first|exact .inl rfl|exact .inr rfl|assumption):
  PS X (.AugAssign (.Name x pos') op e aa) (Ks i a ti):=by
 intro a_ s σ H D I h;obtain⟨v,C,h⟩:=h;obtain⟨m,E,F⟩:=I.loc;have j:Zd X.env.scope x:=by rcases g with k|k;exact .inl k;exact .inr (.inl k)
 obtain⟨u,r,l⟩:=F i x v n C j;refine wpAny_AugAssign_Name ?_;have t:O6 (Po X.prog X.w) X.A (Qh e X.env) (λw d=>O6 (Po X.prog X.w) X.A (inplaceOp op u w) (λr f=>O6 (Po X.prog X.w) X.A (storeName X.env x r) (λ_=>SP X a_ D .next) X.xe f) X.xe d) X.xe s:=by
  refine dt (p a_ s σ H _ I h) λw J ⟨y,L,O,G,K⟩=>?_;refine dt (q a_ J σ L v y u w _ O r G K) λz W ⟨Y,P,Q,R,M⟩=>?_;exact pJ Q o n g R (λZ T=>⟨_,P,T,M⟩) B
 rcases l with⟨hk,S⟩|⟨hk,c,U,b⟩
 .exact wpAny_loadName_local I.ok.kind hk E S t
 .rcases hk with hk|hk
  .exact wpAny_loadName_cell I.ok.kind hk U b t
  .rcases g with k|k
   .have:X.env.scope.names.lookup x=on .free:=hk
    rw[k]at this;cases this
   .have:X.env.scope.names.lookup x=on .free:=hk
    rw[k]at this;cases this
def HD(e f a:TE)(b:V->V->Hp->VK->Prop)(d:Zf)(c:xj):TS:=λD σ H=>e σ H λo g=>f σ g λi h=>b o i h λx j=>a σ j λy k=>d x y k λz l=>c o i z l λm=>D.nx σ m
def MW(X:Cx)(t:V->V->Hp->VK->Prop):Prop:=
 ∀(a_:a0d) (s:OT) (σ:St) (H:Hp) (o i:V) (b c:OP) (Q:VK),b_ X a_ σ H s->aR o b->aR i c->t o i H Q->
  O6 (Po X.prog X.w) X.A (getItem b c) (EP X a_ σ Q) X.xe s
theorem Ja{o i e:Expr}{u f a:TE}(l:PE X o u)(m:PE X i f)(n:MW X tget)(p:PE X e a)(q:Y4 X op tip)(G:Hj X tset)
  (K:∀b c t,augStore i b c t=(do SX [t,b,c] (setItem b c t);release [t,b,c] [];Rm .next):=by intros;rfl):PS X (.AugAssign (.Subscript o i x) op e aa) (HD u f a tget tip tset):=by
 intro a_ s σ H D I h;refine wpAny_AugAssign_SubscriptAny (dt (l a_ s σ H _ I h) λb r ⟨g,w,y,E,M⟩=>?_) K;refine dt (m a_ r σ w _ y M) λc A ⟨j,B,C,k,S⟩=>?_;refine dt (n a_ A σ B g j b c _ C E k S) λd F ⟨J,L,N,O,V⟩=>?_;refine dt (p a_ F σ L _ N V) λv P ⟨Q,R,T,U,z⟩=>?_;refine dt (q a_ P σ R J Q d v _ T O U z) λt W ⟨Y,Z,I5,r5,q5⟩=>?_;exact dt (G a_ W σ Z g j Y b c t _ I5 E k r5 q5) λ_ s6 ⟨H6,I6,q6⟩=>⟨σ,H6,I6,q6⟩
def ZA(f:a0N):Zf:=λx y H Q=>∃i j,x= .int i/\y= .int j/\Q (.int<|f i j) H
theorem j9:Y4 X .Add (ZA λi j=>i+j):=by
 intro a_ s σ H x y v u Q I a b h;obtain⟨i,j,c,d,q⟩:=h;subst c;subst d;obtain⟨t,rfl⟩:=a;obtain⟨e,rfl⟩:=b;exact iadd_int ⟨.int _,H,I.tok _,⟨_,rfl⟩,q⟩
theorem Mo:Y4 X .Sub (ZA λi j=>i-j):=by
 intro a_ s σ H x y v u Q I a b h;obtain⟨i,j,c,d,q⟩:=h;subst c;subst d;obtain⟨t,rfl⟩:=a;obtain⟨e,rfl⟩:=b;exact isub_int ⟨.int _,H,I.tok _,⟨_,rfl⟩,q⟩
def Km(c:TT)(i:TS):TS:=λD σ H=>∃W:Nat->St->Hp->Prop,(∃m,W m σ H)/\∀m σ H,W m σ H->
 c σ H λb f=>if b=OK then ∃N:St->Hp->Prop,(∀d g,N d g->∃h,h<m/\W h d g)/\i {D with nx:=N,ct:=N,bk:=D.nx} σ f else D.nx σ f
theorem F8(q:Ye (Po X.prog X.w) X.A X.env X.xe)(J:PT X c tc)(L:PSs X body x):PS X (.While c body [] aa) (Km tc x):=by
 intro a_ s σ H D I h;obtain⟨W,⟨u,O⟩,i⟩:=h;refine wpAny_While<|codeAny_whileLoop (λn E=>∃j r,b_ X a_ j r E/\W n j r) ?_ u ⟨σ,H,I,O⟩;rintro n P ⟨g,y,Q,R⟩;refine Sy q<|dt (J a_ P g y _ Q<|i n g y R) λb T ⟨B,C,a⟩=>?_;cases b with
 |true=>
  obtain⟨N,F,a⟩:=a;rw[OS rfl];refine Sy q<|dt (L a_ T g B _ C a) λf U e=>?_;cases f with
  |next=>
   obtain⟨d,k,l,m⟩:=e;obtain⟨o,t,p⟩:=F d k m;exact⟨o,t,d,k,l,p⟩
  |cont=>
   obtain⟨d,k,l,m⟩:=e;obtain⟨o,t,p⟩:=F d k m;exact⟨o,t,d,k,l,p⟩
  |brk=>exact e
  |ret v=>exact e
 |false=>
  rw[OR OY];exact Vj ⟨g,B,C,a⟩
structure It where
 go:Nat->Hp->Prop
 yld:Nat->Hp->V->Hp->Prop
 stop:Nat->Hp->Prop
def gj(X:Cx)(a_:a0d)(H:Hp)(b:ON):Prop:=
 H b=OD/\b≠X.env.locals/\b∉X.fs/\(b∈X.ex\/X.s₀.heap.objs.size<=b)/\(∀x c,X.env.cells.lookup x=on c->c≠b)/\∀p∈X.pn++a_,p.1≠b
theorem b_.fpOk{X:Cx}{a_:a0d}{σ:St}{H f:Hp}{s:OT}{b:ON}(I:b_ X a_ σ H s)(d:s.heap.objs.size<=b)(a:f b=OD):gj X a_ f b:=by
 refine⟨a,RT<|Pj I.lt d,I.nofs d,.inr<|Pl I.sz d,λx c e z=>?_,λp g z=>?_⟩
 .obtain⟨v,q⟩:=I.cell x c e
  exact Pf (Pj q.lt<|by rw[z];exact d)<|P6 _
 .exact Pf (Pj (Ph (I.pin p g).1)<|by rw[z];exact d) (P6 _)
structure ml (P:Py) (w:PD) (K:Pa) (tg:Expr) (J:It) (fp:a0o) (it:ON) (tn:Nat->PZ->Prop):Prop where
 mem:it∈fp
 obj:∀i h,tn i h->∀b∈fp,∃o,h.get? b=on o/\∀v,o.data≠ .cell v
 keep:∀i h h',tn i h->(∀b∈fp,∀o,h.get? b=on o->h'.get? b=on o)->tn i h'
 item:∀(X:Cx),X.prog=P->X.w=w->X.K=K->X.calm=OK->∀(i:Nat) (a_:a0d) (s:OT) (σ:St) (H:Hp) (E:a0f),b_ X a_ σ H s->(∀b∈fp,gj X a_ H b)->tn i s.heap->J.go i H->
  O6 (Po P w) X.A (S7<|.ref it) (λr s1=>∃u,r=on u/\
   O6 (Po P w) X.A (Uk tg (.ref it) u) (λ_ s2=>∃x H',b_ X a_ σ H' s2/\aR x u/\J.yld i H x H'/\tn (i+1) s2.heap/\∀b∈fp,H' b=OD) E s1) E s
 done:∀(X:Cx),X.prog=P->X.w=w->X.K=K->X.calm=OK->∀(i:Nat) (a_:a0d) (s:OT) (σ:St) (H:Hp) (E:a0f),b_ X a_ σ H s->(∀b∈fp,gj X a_ H b)->tn i s.heap->J.stop i H->
  O6 (Po P w) X.A (S7<|.ref it) (λr s1=>r=OD/\b_ X a_ σ H s1) E s
 self:∀(A:Qc) (i:Nat) (s:OT) (Q:a0f) (E:a0f),tn i s.heap->Q (.ref it) s->O6 (Po P w) A (Va<|.ref it) Q E s
abbrev TI:=St->Hp->(It->Hp->Prop)->Prop
def PIE(X:Cx)(a_:a0d)(σ:St)(e:Expr)(R:It->Hp->Prop)(c:OP)(f:OT):Prop:=
 ∃(a:ON) (g:a0o) (h:Nat->PZ->Prop) (J:It) (d:Hp),c= .ref a/\b_ X a_ σ d f/\ml X.prog X.w X.K e J g a h/\h 0 f.heap/\(∀b∈g,gj X a_ d b)/\R J d
def PI(X:Cx)(a b:Expr)(c:TI):Prop:=
 ∀(a_:a0d) (s:OT) (σ:St) (H:Hp) (R:It->Hp->Prop),b_ X a_ σ H s->c σ H R->
  O6 (Po X.prog X.w) X.A (Qh b X.env) (λv d=>O6 (Po X.prog X.w) X.A (Va v) (PIE X a_ σ a R) X.xe d) X.xe s
theorem uP{M:Model}{E:a0f}{s:OT}{u:OP}{o:Qk}(c:s.heap.get? f=on o)(d:o.cls= .type n)(a:o.data= .fields g)
  (e:["enumerate","zip","dict_itemiterator","dict_reverseitemiterator","odict_iterator","itertools.zip_longest","itertools.pairwise"].contains n=OO) (b:Q () s):O6 M A (Uk i (.ref f) u) Q E s:=by
 unfold Uk;cases i<;>first
  |exact OG b
  |(cases u<;>first
   |exact OG b
   |(refine My (wpAny_load c ?_)
     rw[d,a];show O6 M A (if(["enumerate","zip","dict_itemiterator","dict_reverseitemiterator","odict_iterator","itertools.zip_longest","itertools.pairwise"].contains n&&g[0]?==on (Tw _))=OK then _ else _) Q E s;rw[OR<|by intro h;rw[e,Tc]at h;cases h];exact OG b))
noncomputable def Zh(K:Pa)(a:ON):It:=
 ⟨λi H=>∃xs x,eg K H a xs/\xs[i]?=on x,λi H x b=>b=H/\∀xs,eg K H a xs->xs[i]?=on x,λi H=>∃xs,eg K H a xs/\xs.length<=i⟩
noncomputable def Itt(K:Pa)(a:ON):It:=
 ⟨λi H=>∃xs x,g_ K H a xs/\xs[i]?=on x,λi H x b=>b=H/\∀xs,g_ K H a xs->xs[i]?=on x,λi H=>∃xs,g_ K H a xs/\xs.length<=i⟩
noncomputable def Zg(a:Int)(n:Nat):It:=⟨λi _=>i<n,λi H x b=>b=H/\x= .int (a+i),λi _=>n<=i⟩
theorem sY{K:Pa}(a t:ON):ml P w K tg (Zh K a) [t] t (λi h=>h.IsListIter t a i) where
 mem:=by simp
 obj:=λi h Z b f=>by
  have e:b=t:=by simpa using f
  subst e;obtain⟨o,e,c,d⟩:=Z;exact⟨o,e,λv z=>by rw[d]at z;cases z⟩
 keep:=λi h D Z k=>Z.at λo e=>k t (by simp) o e
 item:=by
  intro X m n q L i a_ s σ H E I j Z r;subst m n q;obtain⟨xs,x,l,y⟩:=r;obtain⟨G,A,p,N⟩:=I.list l;obtain⟨u,O,Q⟩:=A.get y;obtain⟨B,f1,f2,C,F,J⟩:=j t (by simp);refine wpAny_pyNext_list_item Z p.isList (x:=u) (by simpa using O) λD g R=>?_;have T:b_ X a_ σ H {s with heap:=D}:=I.turned (t':=s.toks) (λb o f e=>(R.2 b f).trans e) B f1 C F J;obtain⟨o,e,c,d⟩:=id g;exact⟨u,rfl,uP (s:={s with heap:=D}) e c d (by decide) ⟨x,H,T,Q,⟨rfl,λys U=>by rw[I.list_inj U l];exact y⟩,g,λb f=>(j b f).1⟩⟩
 done:=by
  intro X m n q L i a_ s σ H E I j Z r;subst m n q;obtain⟨xs,l,y⟩:=r;obtain⟨G,A,p,N⟩:=I.list l;obtain⟨B,f1,f2,C,F,J⟩:=j t (by simp);have Y:=A.length;exact wpAny_pyNext_list_end (I.ok.hd L) Z p.isList (by simp;lia) λD W=>⟨rfl,I.turned (t':=s.toks) (λb o f e=>W b o f e) B f1 C F J⟩
 self:=λ_ _ _ _ _ Z h=>wpAny_pyIter_listiter Z h
theorem yS{K:Pa}(a t:ON):ml P w K tg (Itt K a) [t] t (λi h=>h.IsTupleIter t a i) where
 mem:=by simp
 obj:=λi h Z b f=>by
  have e:b=t:=by simpa using f
  subst e;obtain⟨o,e,c,d⟩:=Z;exact⟨o,e,λv z=>by rw[d]at z;cases z⟩
 keep:=λi h G Z k=>Z.at λo e=>k t (by simp) o e
 item:=by
  intro X m n q L i a_ s σ H E I j Z r;subst m n q;obtain⟨xs,x,l,y⟩:=r;obtain⟨D,A,p,N⟩:=I.tuple l;obtain⟨u,O,Q⟩:=A.get y;obtain⟨B,f1,f2,C,F,J⟩:=j t (by simp);refine wpAny_pyNext_tuple_item Z (show s.heap.IsTuple a D.toArray from p) (x:=u) (by simpa using O) λG g R=>?_;have T:b_ X a_ σ H {s with heap:=G}:=I.turned (t':=s.toks) (λb o f e=>(R.2 b f).trans e) B f1 C F J;obtain⟨o,e,c,d⟩:=id g;exact⟨u,rfl,uP (s:={s with heap:=G}) e c d (by decide) ⟨x,H,T,Q,⟨rfl,λys U=>by rw[I.tuple_inj U l];exact y⟩,g,λb f=>(j b f).1⟩⟩
 done:=by
  intro X m n q L i a_ s σ H E I j Z r;subst m n q;obtain⟨xs,l,y⟩:=r;obtain⟨D,A,p,N⟩:=I.tuple l;obtain⟨B,f1,f2,C,F,J⟩:=j t (by simp);have Y:=A.length;exact wpAny_pyNext_tuple_end (I.ok.hd L) Z (show s.heap.IsTuple a D.toArray from p) (by simp;lia) λG W=>⟨rfl,I.turned (t':=s.toks) (λb o f e=>W b o f e) B f1 C F J⟩
 self:=λ_ _ _ _ _ Z h=>wpAny_pyIter_tupleiter Z h
theorem yT{K:Pa}(a:ON)(u:Int)(n:Nat):ml P w K x (Zg u n) [a] a (λi h=>WI h a (u+(i:Nat)*1) ((n:Int)-(i:Nat)) 1) where
 mem:=by simp
 obj:=λi h Z b c=>by
  have e:b=a:=by simpa using c
  subst e;exact⟨_,Z,λv z=>by
   have C:Data.fields _=Data.cell v:=z;cases C⟩
 keep:=λi h D Z k=>k a (by simp) _ Z
 item:=by
  intro X g j l m i a_ s σ H E I f Z p;subst g j l;obtain⟨q,f1,f2,r,y,A⟩:=f a (by simp);have W:=Walks.range (prog:=X.prog) (w:=X.w) (I.ok.hd m) a u 1 n;refine W.item i s _ _ p Z λv D B F d J=>?_;obtain⟨t,rfl⟩:=F;have L:b_ X a_ σ H {s with heap:=D,toks:=B}:=I.turned (λb o c e=>J b o (by simpa using c) e) q f1 r y A;refine⟨_,rfl,uP (s:={s with heap:=D,toks:=B}) (n:="range_iterator") d rfl rfl (by decide) ⟨.int<|u+i,H,L,⟨t,?_⟩,⟨rfl,rfl⟩,d,λb c=>(f b c).1⟩⟩;rw[Int.mul_one]
 done:=by
  intro X g j l m i a_ s σ H E I f Z p;subst g j l;obtain⟨q,f1,f2,r,y,A⟩:=f a (by simp);exact YD (I.ok.hd m) Z (by have:n<=i:=p;lia) λD N=>⟨rfl,I.turned (t':=s.toks) (λb o c e=>N b o c e) q f1 r y A⟩
 self:=λ_ _ _ _ _ Z h=>Vd Z h
variable{z:Expr}
def Oo(K:Pa)(c:TE):TI:=λσ H R=>c σ H λx b=>∃a,x= .ref a/\(∃xs,eg K b a xs)/\R (Zh K a) b
theorem Jd(f:PE X l tl):PI X z l (Oo X.K tl):=by
 intro a_ s σ H R I h;refine dt (f a_ s σ H _ I h) λv c ⟨x,g,d,t,u⟩=>?_;obtain⟨a,e,⟨xs,i⟩,q⟩:=u;subst e;cases t;obtain⟨D,k,p,m⟩:=d.list i;refine Tx p.isList ?_;refine⟨c.heap.objs.size,[c.heap.objs.size],_,_,g,rfl,d.kept (t':=c.toks) λb o e=>OH _ e,sY a _,⟨_,O5 _ rfl,rfl,rfl⟩,λb j=>?_,q⟩;have e:b=c.heap.objs.size:=by simpa using j
 subst e;exact d.fpOk (OX _)<|d.hok.fresh<|OX _
theorem vP{a_:a0d}{σ:St}{H:Hp}{s:OT}{E:a0f}{a c:Int}{t u v:Tok}(I:b_ X a_ σ H s)(f:-(2^62)<=a)(g:a<2^62)(h:-(2^62)<=c)(i:c<2^62)
  (q:R (Zg a (c-a).toNat) H):O6 (Po X.prog X.w) X.A (Va<|.ref s.heap.objs.size) (PIE X a_ σ z R) E {s with heap:=s.heap.push {cls:= .type "range",data:= .fields #[.int a t,.int c u,.int 1 v]},toks:=m}:=by
 refine wpAny_pyIter_range (IsRange.new ..) (small_one f g h i) ?_;have d:b_ X a_ σ H {s with heap:=s.heap.push {cls:= .type "range",data:= .fields #[.int a t,.int c u,.int 1 v]},toks:=m}:=I.kept λb o e=>OH _ e;refine⟨(s.heap.push {cls:= .type "range",data:= .fields #[.int a t,.int c u,.int 1 v]}).objs.size,[(s.heap.push {cls:= .type "range",data:= .fields #[.int a t,.int c u,.int 1 v]}).objs.size],_,_,H,rfl,
  d.kept (t':=m) λb o e=>OH _ e,yT _ a (c-a).toNat,?_,λb j=>?_,q⟩
 .have k:a+((0:Nat):Int)*1=a:=by simp
  have l:(((c-a).toNat:Nat):Int)-((0:Nat):Int)=VE a c 1:=by rw[rangeSize_one];split<;>lia
  show WI _ _ (a+((0:Nat):Int)*1) ((((c-a).toNat:Nat):Int)-((0:Nat):Int)) 1;rw[k,l];exact O5 _ rfl
 .have e:b=(s.heap.push {cls:= .type "range",data:= .fields #[.int a t,.int c u,.int 1 v]}).objs.size:=by simpa using j
  subst e;exact d.fpOk (OX _)<|d.hok.fresh<|OX _
def Om(b:TA):TI:=λσ H R=>b σ H λa c=>∃j:Int,a=[.int j]/\-(2^62)<=j/\j<2^62/\R (Zg 0 j.toNat) c
def Ol(b:TA):TI:=λσ H R=>b σ H λa c=>∃i j:Int,a=[.int i,.int j]/\(-(2^62)<=i/\i<2^62/\-(2^62)<=j/\j<2^62)/\R (Zg i (j-i).toNat) c
theorem DF{a:Expr}{p aa:TF}(b:Gl X "range")(D:X.mg "range"=OD)(E:PA X [a] i)(G:O1 [a] X.env=[(OO,Qh a X.env)]:=by rfl):PI X z (.Call (.Name "range" p) [a] [] aa) (Om i):=by
 intro a_ s σ H R I h;refine Call_<|ij I b D boot_range<|QJ (dt (E aa a_ s σ H _ I h) λS f ⟨V,g,c,K,u⟩=>?_) G rfl;obtain⟨j,e,u,M,q⟩:=u;subst e;cases K with
 |cons r d=>
  cases d;obtain⟨t,rfl⟩:=r;exact call_range_1 (vP c (by lia) (by lia) u M<|by simpa using q)
theorem DE{a b:Expr}{p aa:TF}(f:Gl X "range")(D:X.mg "range"=OD)(E:PA X [a,b] n)(G:O1 [a,b] X.env=[(OO,Qh a X.env),(OO,Qh b X.env)]:=by rfl)(c:O1 [b] X.env=[(OO,Qh b X.env)]:=by rfl):
  PI X z (.Call (.Name "range" p) [a,b] [] aa) (Ol n):=by
 intro a_ s σ H R I h;refine Call_ (ij I f D boot_range<|QJ (dt (E aa a_ s σ H _ I h) λZ l ⟨o,m,g,K,u⟩=>?_) (by rw[G,c])<|by rw[c];rfl);obtain⟨i,j,e,⟨u,M,S,V⟩,q⟩:=u;subst e;cases K with
 |cons r d=>
  cases d with
  |cons k d=>
   cases d;obtain⟨t,rfl⟩:=r;obtain⟨v,rfl⟩:=k;exact call_range_2<|vP g u M S V q
def FS(h:TI)(g:TG)(j:TS):TS:=λD σ H=>h σ H λJ k=>∃W:Nat->Nat->St->Hp->Prop,(∃m,W 0 m σ k)/\∀i m σ H,W i m σ H->
 (J.stop i H/\D.nx σ H)\/(J.go i H/\∃N:St->Hp->Prop,(∀b c,N b c->∃f,f<m/\W (i+1) f b c)/\∀x c,J.yld i H x c->g x σ c λd l=>j {D with nx:=N,ct:=N,bk:=D.nx} d l)
noncomputable def nc(c:a0o)(h:PZ):a0d:=c.filterMap λb=>(h.get? b).map λo=>(b,o)
theorem jE{h:PZ}(c:b∈d)(e:h.get? b=on o):(b,o)∈nc d h:=Uc.mpr ⟨b,c,by rw[e];rfl⟩
theorem DN{h:PZ}{p:ON×Qk}(c:p∈nc g h):p.1∈g/\h.get? p.1=on p.2:=by
 obtain⟨b,d,e⟩:=Uc.mp c;cases q:h.get? b with
 |none=>rw[q]at e;cases e
 |some o=>
  rw[q]at e;have f:(b,o)=p:=Pn e;subst f;exact⟨d,q⟩
theorem b_.pinned{a_:a0d}{σ:St}{H:Hp}{s:OT}(I:b_ X a_ σ H s)(g:∀b∈k,gj X a_ H b)(h:∀b∈k,∃o,s.heap.get? b=on o/\∀v,o.data≠ .cell v):b_ X (a_++nc k s.heap) σ H s:=
 I.pins_of λp i=>(P4.mp i).elim (λz=>I.pin p<|PY _ z) λz=>by
  obtain⟨c,e⟩:=DN z;obtain⟨j,f1,f2,_⟩:=g p.1 c;obtain⟨o,f,d⟩:=h p.1 c;rw[e]at f;cases f;exact⟨e,j,f1,f2,d⟩
theorem b_.unpinned{a_ a:a0d}{σ:St}{H:Hp}{s:OT}(I:b_ X (a_++a) σ H s):b_ X a_ σ H s:=I.pins_of λp b=>I.pin p<|PY _<|RO _ b
theorem bx{aa:TF}(L:Ye (Po X.prog X.w) X.A X.env X.xe)(S:X.calm=OK)(hi:PI X z iter wi)(hg:PG X z g)(j:PSs X body tb)
  (hs:∀x,P3 iter X.env x=Rm x:=by intro _;rfl):PS X (.For z iter body [] aa) (FS wi g tb):=by
 intro a_ s σ H D I h;refine wpAny_For (dt (hi a_ s σ H _ I h) λv s1 h1=>dt h1 λab s2 h2=>?_) hs;obtain⟨it,O,V,J,H2,e,I2,T,Z,f2,W,⟨m0,w0⟩,P⟩:=h2;subst e
 --what stays OK of the iterator's objects through the loop
 have k:∀{B:Hp},(∀b∈O,B b=OD)->∀b∈O,gj X a_ B b:=λhn b j=>⟨hn b j,(f2 b j).2⟩;refine codeAny_forLoop_any (λn s'=>∃i l B,b_ X a_ l B s'/\V i s'.heap/\(∀b∈O,B b=OD)/\W i n l B) ?_ m0 ⟨0,σ,H2,I2,Z,λb j=>(f2 b j).1,w0⟩;rintro n s3 ⟨i,p,Y,I3,Q,R,w3⟩;rcases P i n p Y w3 with⟨a,qn⟩|⟨go,N,hN,step⟩
 .refine Sy L (dt (T.done X rfl rfl rfl S i a_ s3 p Y X.xe I3 (k R) Q a) λr s4 ⟨t,I4⟩=>?_)
  subst t;exact Vj ⟨p,Y,I4,qn⟩
 .refine Sy L (dt (T.item X rfl rfl rfl S i a_ s3 p Y X.xe I3 (k R) Q go) λr s4 ⟨u,t,h4⟩=>?_)
  subst t;refine Sy L<|dt h4 λ_ s5 ⟨x,H5,I5,r5,y5,F,E⟩=>?_;have G:=I5.pinned (k E)<|T.obj _ _ F;refine Sy L<|dt (hg _ s5 p H5 x u _ G r5<|step x H5 y5) λ_ s6 ⟨K,H6,I6,q6⟩=>?_;refine Sy L<|dt (j _ s6 K H6 _ I6 q6) λf M C=>?_;have We:∀{c:St} {q:Hp},b_ X (a_++nc O s5.heap) c q M->N c q->∃m,m<n/\∃i l B,b_ X a_ l B M/\V i M.heap/\(∀b∈O,B b=OD)/\W i m l B:=λ{c q} y U=>by
   obtain⟨m',hm,w7⟩:=hN c q U;refine⟨m',hm,i+1,c,q,y.unpinned,T.keep _ _ _ F λb j o e=>(y.pin (b,o)<|PY _<|PY _<|jE j e).1,λb j=>?_,w7⟩;obtain⟨o,e,d⟩:=T.obj _ _ F b j;exact(y.pin (b,o)<|PY _<|PY _<|jE j e).2.1
  cases f with
  |next=>obtain⟨c,q,y,U⟩:=C;exact We y U
  |cont=>obtain⟨c,q,y,U⟩:=C;exact We y U
  |brk=>obtain⟨c,q,y,C⟩:=C;exact⟨c,q,y.unpinned,C⟩
  |ret v=>obtain⟨x7,c,q,y,r7,C⟩:=C;exact⟨x7,c,q,y.unpinned,r7,C⟩
abbrev R2:=V->V->Hp->VK->Prop
def fX(X:Cx)(f:OP->OP->Sem OP)(r:R2):Prop:=
 ∀(a_:a0d) (s:OT) (σ:St) (H:Hp) (x y:V) (v u:OP) (Q:VK),b_ X a_ σ H s->aR x v->aR y u->r x y H Q->
  O6 (Po X.prog X.w) X.A (f v u) (EP X a_ σ Q) X.xe s
def ZG(X:Cx)(f:OP->Sem OP)(r:V->Hp->VK->Prop):Prop:=
 ∀(a_:a0d) (s:OT) (σ:St) (H:Hp) (x:V) (v:OP) (Q:VK),b_ X a_ σ H s->aR x v->r x H Q->
  O6 (Po X.prog X.w) X.A (f v) (EP X a_ σ Q) X.xe s
def cK(X:Cx)(f:OP)(r:a0I):Prop:=
 ∀(a_:a0d) (s:OT) (σ:St) (H:Hp) (xs:a0i) (a:a0g) (Q:VK),b_ X a_ σ H s->aB xs a->r xs H Q->
  O6 (Po X.prog X.w) X.A (VL f a) (EP X a_ σ Q) X.xe s
def TruR(X:Cx)(r:V->Hp->(Bool->Hp->Prop)->Prop):Prop:=
 ∀(a_:a0d) (s:OT) (σ:St) (H:Hp) (x:V) (v:OP) (Q:a0V),b_ X a_ σ H s->aR x v->r x H Q->
  O6 (Po X.prog X.w) X.A (truthy v) (TP X a_ σ Q) X.xe s
def YH(r:R2)(b c:TE):TE:=λσ H Q=>b σ H λx d=>c σ d λy f=>r x y f Q
def tUn(r:V->Hp->VK->Prop)(b:TE):TE:=λσ H Q=>b σ H λx c=>r x c Q
def rI(C:a0W)(g:Int->Int->V):R2:=λx y H Q=>∃i j,x= .int i/\y= .int j/\C i j/\Q (g i j) H
def o_(g:Int->Int->V):R2:=λx y H Q=>∃i j,x= .int i/\y= .int j/\Q (g i j) H
def rU(g:Int->V):V->Hp->VK->Prop:=λx H Q=>∃i,x= .int i/\Q (g i) H
end
section
variable{X:Cx}{a b c:Expr}{ta tb tc:TE}{aa:TF}
theorem He(c:PE X a ta)(m:PE X b tb){d:a0d}{s:OT}{e:St}{H:Hp}{R:V->V->Hp->Prop}(I:b_ X d e H s)
  (h:ta e H λx l=>tb e l λy g=>R x y g) {Q:a0f} {f:OP->OP->Sem OP}
  (n:∀v u k x y g,b_ X d e g k->aR x v->aR y u->R x y g->O6 (Po X.prog X.w) X.A (f v u) Q X.xe k):
  O6 (Po X.prog X.w) X.A (Qh a X.env) (λv i=>O6 (Po X.prog X.w) X.A (Qh b X.env) (λu j=>O6 (Po X.prog X.w) X.A (f v u) Q X.xe j) X.xe i) X.xe s:=by
 refine dt (c d s e H _ I h) λv o ⟨x,l,p,D,E⟩=>?_;refine dt (m d o e l _ p E) λu k ⟨y,g,q,r,G⟩=>?_;exact n v u k x y g q D r G
theorem eU(e:fX X (RZ op) r)(c:PE X a ta)(f:PE X b tb):PE X (.BinOp a op b aa) (YH r ta tb):=by
 intro d s g H Q I h;exact wpAny_BinOp<|He c f I h λv u i x y j k l m q=>e d i g j x y v u Q k l m q
theorem Np(f:ZG X (unaryOp op) r)(b:PE X a ta):PE X (.UnaryOp op a aa) (tUn r ta):=by
 intro d s e H Q I h;exact UnaryOp_<|dt (b d s e H _ I h) λv g ⟨x,i,j,c,D⟩=>f d g e i x v Q j c D
theorem ms{f:OP->OP->Sem OP}{C:a0W}{g:a0N}
  (d:∀(i j:Int) (t u:Tok) (s:OT) (Q:a0f) (E:a0f),C i j->Q (.int (g i j) s.toks) {s with toks:=s.toks+1}->O6 (Po X.prog X.w) X.A (f (.int i t)<|.int j u) Q E s):
  fX X f (rI C λi j=> .int<|g i j):=by
 intro e s n H x y v u Q I k l h;obtain⟨i,j,rfl,rfl,m,q⟩:=h;obtain⟨t,rfl⟩:=k;obtain⟨a,rfl⟩:=l;exact d i j t a s _ _ m ⟨.int<|g i j,H,I.tok _,⟨_,rfl⟩,q⟩
theorem Lh{f:OP->OP->Sem OP}{g:a0N}
  (d:∀(i j:Int) (t u:Tok) (s:OT) (Q:a0f) (E:a0f),Q (.int (g i j) s.toks) {s with toks:=s.toks+1}->O6 (Po X.prog X.w) X.A (f (.int i t)<|.int j u) Q E s):
  fX X f (o_ λi j=> .int<|g i j):=by
 intro e s m H x y v u Q I k l h;obtain⟨i,j,rfl,rfl,q⟩:=h;obtain⟨t,rfl⟩:=k;obtain⟨a,rfl⟩:=l;exact d i j t a s _ _ ⟨.int<|g i j,H,I.tok _,⟨_,rfl⟩,q⟩
theorem zm{f:OP->OP->Sem OP}{g:Int->Int->Bool}
  (d:∀(i j:Int) (t u:Tok) (s:OT) (Q:a0f) (E:a0f),Q (.bool<|g i j) s->O6 (Po X.prog X.w) X.A (f (.int i t)<|.int j u) Q E s):
  fX X f (o_ λi j=> .bl<|g i j):=by
 intro e s m H x y v u Q I k l h;obtain⟨i,j,rfl,rfl,q⟩:=h;obtain⟨t,rfl⟩:=k;obtain⟨a,rfl⟩:=l;exact d i j t a s _ _ ⟨.bl<|g i j,H,I,rfl,q⟩
def CDiv(i j:Int):Prop:=0<j/\j<1073741824
def CPow(i j:Int):Prop:=0<=j/\j<=1000000/\i.natAbs<2^64
def Hl(i j:Int):Prop:=(-(2^64)<i/\i<2^64)\/(-(2^64)<j/\j<2^64)
theorem Hl.ok(h:Hl i j):IntMulOk i j:=by
 rcases h with⟨d,e⟩|⟨d,e⟩
 .exact .of_left (intBits_le_64 d e)
 .exact .of_right (intBits_le_64 d e)
theorem qR:fX X (RZ .Add) (o_ λi j=> .int<|i+j):=Lh λ_ _ _ _ _ _ _ q=>add_int q
theorem fj:fX X (RZ .Sub) (o_ λi j=> .int<|i-j):=Lh λ_ _ _ _ _ _ _ q=>sub_int q
theorem Ld:fX X (RZ .Mult) (rI Hl λi j=> .int<|i*j):=ms λ_ _ _ _ _ _ _ d q=>mul_int q d.ok
theorem x9:fX X (RZ .FloorDiv) (rI CDiv λi j=> .int<|i/j):=ms λi j _ _ _ _ _ d q=>by
 have e:(0:Int)<j:=d.1;have f:j<1073741824:=d.2;exact floordiv_int (by lia) (by rw[Wx i<|by lia];exact q) (.inl<|PyProof.noPylong_small<|by lia)
theorem fY:fX X (RZ .Mod) (rI (λ_ j=>0<j) λi j=> .int<|i % j):=ms λi j _ _ _ _ _ d q=>by
 have e:(0:Int)<j:=d;exact mod_int' (by lia) (by rw[Int.fmod_eq_emod_of_nonneg i<|by lia];exact q)
theorem Lb:fX X (RZ .Pow) (rI CPow λi j=> .int<|i^j.toNat):=ms λ_ _ _ _ _ _ _ d q=>pow_int_small d.1 d.2.1 d.2.2 q
theorem unI{f:OP->Sem OP}{g:Int->Int}
  (d:∀(i:Int) (t:Tok) (s:OT) (Q:a0f) (E:a0f),Q (.int (g i) s.toks) {s with toks:=s.toks+1}->O6 (Po X.prog X.w) X.A (f<|.int i t) Q E s):
  ZG X f (rU λi=> .int<|g i):=by
 intro e s k H x v Q I j h;obtain⟨i,rfl,q⟩:=h;obtain⟨t,rfl⟩:=j;exact d i t s _ _ ⟨.int<|g i,H,I.tok _,⟨_,rfl⟩,q⟩
theorem u8:ZG X (unaryOp .USub) (rU λi=> .int<|-i):=unI λ_ _ _ _ _ q=>neg_int q
noncomputable def FY:V->V->Bool
 | .non,.non=>OK| .non,.int _=>OK| .int _,.non=>OK| .non,.bl _=>OK| .bl _,.non=>OK| .non,.str _=>OK| .str _,.non=>OK
 | .int _,.int _=>OK| .bl _,.bl _=>OK| .str _,.str _=>OK
 | .int _,.str _=>OK| .str _,.int _=>OK| .bl _,.str _=>OK| .str _,.bl _=>OK
 |_,_=>OO
noncomputable def Z9:R2:=λx y H Q=>FY x y=OK/\Q (.bl<|decide (x=y)) H
noncomputable def Z7:R2:=λx y H Q=>FY x y=OK/\Q (.bl<|!decide (x=y)) H
theorem yx:decide (V.int i=V.int j)=(i==j):=by
 rw[Se];simp
theorem B3{i j:Bool}:decide (V.bl i=V.bl j)=(i==j):=by
 rw[Se];simp
theorem yw:decide (V.str i=V.str j)=(i==j):=by
 rw[Se];simp
theorem c_{k d:Bool}(I:b_ X f g H s)(q:Q (.bl k) H)(e:k=d):EP X f g Q (.bool d) s:=by
 subst e;exact⟨.bl k,H,I,rfl,q⟩
theorem Nv:fX X (Qq .Eq) Z9:=by
 intro f s g H x y v u Q I e d h;obtain⟨b,q⟩:=h;cases x with
 |non=>
  cases e;cases y with
  |non=>cases d;exact PySem.EqNone.eq_none_none (c_ I q<|by simp)
  |bl j=>cases d;exact PySem.EqNone.eq_none_bool (c_ I q<|by simp)
  |int j=>obtain⟨a,rfl⟩:=d;exact PySem.EqNone.eq_none_int (c_ I q<|by simp)
  |str j=>obtain⟨a,rfl⟩:=d;exact PySem.EqNone.eq_none_str (c_ I q<|by simp)
  |_=>exact Pf (show OO=OK from b) OY
 |bl i=>
  cases e;cases y with
  |non=>cases d;exact PySem.EqNone.eq_bool_none (c_ I q<|by simp)
  |bl j=>cases d;exact eq_bool<|c_ I q B3
  |str j=>obtain⟨a,rfl⟩:=d;exact PySem.EqMixed.eq_bool_str (c_ I q<|by simp)
  |_=>exact Pf (show OO=OK from b) OY
 |int i=>
  obtain⟨t,rfl⟩:=e;cases y with
  |non=>cases d;exact PySem.EqNone.eq_int_none (c_ I q<|by simp)
  |int j=>obtain⟨a,rfl⟩:=d;exact eq_int<|c_ I q yx
  |str j=>obtain⟨a,rfl⟩:=d;exact PySem.EqMixed.eq_int_str (c_ I q<|by simp)
  |_=>exact Pf (show OO=OK from b) OY
 |str i=>
  obtain⟨t,rfl⟩:=e;cases y with
  |non=>cases d;exact PySem.EqNone.eq_str_none (c_ I q<|by simp)
  |bl j=>cases d;exact PySem.EqMixed.eq_str_bool (c_ I q<|by simp)
  |int j=>obtain⟨a,rfl⟩:=d;exact PySem.EqMixed.eq_str_int (c_ I q<|by simp)
  |str j=>obtain⟨a,rfl⟩:=d;exact eq_str<|c_ I q yw
  |_=>exact Pf (show OO=OK from b) OY
 |_=>cases y<;>exact Pf (show OO=OK from b) OY
theorem Nu:fX X (Qq .NotEq) Z7:=by
 intro f s g H x y v u Q I e d h;obtain⟨b,q⟩:=h;cases x with
 |non=>
  cases e;cases y with
  |non=>cases d;exact PySem.EqNone.ne_none_none (c_ I q<|by simp)
  |bl j=>cases d;exact PySem.EqNone.ne_none_bool (c_ I q<|by simp)
  |int j=>obtain⟨a,rfl⟩:=d;exact PySem.EqNone.ne_none_int (c_ I q<|by simp)
  |str j=>obtain⟨a,rfl⟩:=d;exact PySem.EqNone.ne_none_str (c_ I q<|by simp)
  |_=>exact Pf (show OO=OK from b) OY
 |bl i=>
  cases e;cases y with
  |non=>cases d;exact PySem.EqNone.ne_bool_none (c_ I q<|by simp)
  |bl j=>cases d;exact ne_bool<|c_ I q<|Qr not B3
  |str j=>obtain⟨a,rfl⟩:=d;exact PySem.EqMixed.ne_bool_str (c_ I q<|by simp)
  |_=>exact Pf (show OO=OK from b) OY
 |int i=>
  obtain⟨t,rfl⟩:=e;cases y with
  |non=>cases d;exact PySem.EqNone.ne_int_none (c_ I q<|by simp)
  |int j=>obtain⟨a,rfl⟩:=d;exact ne_int<|c_ I q<|Qr not yx
  |str j=>obtain⟨a,rfl⟩:=d;exact PySem.EqMixed.ne_int_str (c_ I q<|by simp)
  |_=>exact Pf (show OO=OK from b) OY
 |str i=>
  obtain⟨t,rfl⟩:=e;cases y with
  |non=>cases d;exact PySem.EqNone.ne_str_none (c_ I q<|by simp)
  |bl j=>cases d;exact PySem.EqMixed.ne_str_bool (c_ I q<|by simp)
  |int j=>obtain⟨a,rfl⟩:=d;exact PySem.EqMixed.ne_str_int (c_ I q<|by simp)
  |str j=>obtain⟨a,rfl⟩:=d;exact ne_str<|c_ I q<|Qr not yw
  |_=>exact Pf (show OO=OK from b) OY
 |_=>cases y<;>exact Pf (show OO=OK from b) OY
theorem f9:fX X (Qq .Lt) (o_ λi j=> .bl<|decide (i<j)):=zm λ_ _ _ _ _ _ _ q=>lt_int q
theorem gB:fX X (Qq .LtE) (o_ λi j=> .bl<|decide (i<=j)):=zm λ_ _ _ _ _ _ _ q=>le_int q
theorem jD:fX X (Qq .Gt) (o_ λi j=> .bl<|decide (j<i)):=zm λ_ _ _ _ _ _ _ q=>gt_int q
theorem uF:fX X (Qq .GtE) (o_ λi j=> .bl<|decide (j<=i)):=zm λ_ _ _ _ _ _ _ q=>ge_int q
theorem Le:fX X (Qq .Is) (λx y H Q=>y= .non/\Q (.bl<|decide (x= .non)) H):=by
 intro d s g H x y v u Q I e f h;obtain⟨rfl,q⟩:=h;cases f;refine is_none_gen<|c_ I q ?_;cases x<;>first
  |(cases e;rfl)
  |(obtain⟨t,rfl⟩:=e;rfl)
theorem Jl:fX X (Qq .IsNot) (λx y H Q=>y= .non/\Q (.bl<|!decide (x= .non)) H):=by
 intro d s g H x y v u Q I e f h;obtain⟨rfl,q⟩:=h;cases f;refine isnot_none_gen<|c_ I q ?_;cases x<;>first
  |(cases e;rfl)
  |(obtain⟨t,rfl⟩:=e;rfl)
theorem fX.or(h:fX X f r)(a:fX X f j):fX X f (λx y H Q=>r x y H Q\/j x y H Q):=by
 intro d s e H x y v u Q I g i q;rcases q with q|q
 .exact h d s e H x y v u Q I g i q
 .exact a d s e H x y v u Q I g i q
theorem v3(b:Expr)(h:op≠ .In:=by decide)(d:op≠ .NotIn:=by decide):T4 op b=OO:=by
 have e:(op==CmpOp.In)=OO:=by cases op<;>first|rfl|exact Pf rfl h
 have f:(op==CmpOp.NotIn)=OO:=by cases op<;>first|rfl|exact Pf rfl d
 cases b<;>simp[T4,e,f]
theorem Ji(e:fX X (Qq op) r)(c:PE X a ta)(f:PE X b tb)(D:T4 op b=OO):PE X (.Compare a [op] [b] aa) (YH r ta tb):=by
 intro d s g H Q I h;exact wpAny_Compare1 (He c f I h λv u i x y j k l m q=>e d i g j x y v u Q k l m q) D
def yV(t:TE):TT:=λd H Q=>t d H λx e=>∃k,x= .bl k/\Q k e
theorem xT(g:fX X (Qq op) r)(D:PE X a ta)(i:PE X b tb)(E:T4 op b=OO):PT X (.Compare a [op] [b] aa) (yV<|YH r ta tb):=by
 intro d s f H Q I h;refine wpAny_isTrue_Compare1 (dt (D d s f H _ I h) λv j ⟨x,l,m,G,K⟩=>dt (i d j f l _ m K) λu n ⟨y,o,p,q,M⟩=>
  dt (g d n f o x y v u _ p G q M) λc B ⟨z,t,w,A,k,e,S⟩=>?_) E
 subst e;cases A;exact Qg ⟨t,w,S⟩
def BS(r f:R2)(ta tb tc:TE):TE:=λd H Q=>ta d H λx g=>tb d g λy h=>r x y h λz e=>∃k,z= .bl k/\
 (if k=OK then tc d e λi j=>f y i j Q else Q (.bl OO) e)
theorem F7(n:fX X (Qq op) r)(i:fX X (Qq op') r')(E:PE X a ta)(o:PE X b tb)(p:PE X c tc)
  (G:Yo [op,op'] [b,c]=OO:=by with_unfolding_all rfl):PT X (.Compare a [op,op'] [b,c] aa) (yV<|BS r r' ta tb tc):=by
 intro f s g H Q I h;refine isTrue_chain (dt (E f s g H _ I h) λv q ⟨x,t,w,K,M⟩=>test_link (dt (o f q g t _ w M) λu A ⟨y,B,C,j,S⟩=>
  dt (n f A g B x y v u _ C K j S) λd F ⟨z,l,m,J,k,e,D⟩=>?_)) G
 subst e;cases J;refine Qg ?_;cases k with
 |false=>
  obtain⟨k',L,N⟩:=D;cases L;exact ite_ff ⟨l,m,N⟩
 |true=>
  refine ite_tt<|test_last<|dt (p f F g l _ m D) λO P ⟨R,T,U,W,V⟩=>dt (i f P g T y R u O _ U j W V) λd' s5 ⟨z2,Y,Z,r5,k2,e2,q5⟩=>?_;subst e2;cases r5;exact Qg ⟨Y,Z,q5⟩
def Hi(K:Pa)(x:V)(H:Hp)(k:Bool):Prop:=
 match x with
 | .non=>k=OO
 | .bl b=>k=b
 | .int i=>k=(i !=0)
 | .str y=>y.length<=Pe/\k=((y.length:Int) !=0)
 | .ref p=>(∃a,eg K H p a/\k=!a.isEmpty)\/∃a,g_ K H p a/\k=!a.isEmpty
 |_=>False
theorem rc(r:aB e d):(!d.toArray.isEmpty)=!e.isEmpty:=by
 cases r<;>simp
theorem j7:(Pe:Nat)<2^63:=by rw[Ri];decide
theorem Kj:TruR X (λx H Q=>∃k,Hi X.K x H k/\Q k H):=by
 intro l s n H x v Q I f h;obtain⟨k,e,q⟩:=h;have o:=j7;have E:Pe=16777216:=Ri;cases x with
 |non=>
  cases f;have d:k=OO:=e;subst d;exact truthy_none ⟨H,I,q⟩
 |bl b=>
  cases f;have d:k=b:=e;subst d;exact Qg ⟨H,I,q⟩
 |int i=>
  obtain⟨t,rfl⟩:=f;have d:k=(i !=0):=e;subst d;exact PySem.P.truthy_int ⟨H,I,q⟩
 |str y=>
  obtain⟨t,rfl⟩:=f;obtain⟨u,d⟩:y.length<=Pe/\k=((y.length:Int) !=0):=e;subst d;exact PySem.P.truthy_str (by lia) ⟨H,I.tok _,q⟩
 |ref p=>
  cases f;have d:(∃a,eg X.K H p a/\k=!a.isEmpty)\/∃a,g_ X.K H p a/\k=!a.isEmpty:=e;rcases d with⟨a,j,d⟩|⟨a,j,d⟩
  .subst d
   obtain⟨c,r,D,m⟩:=I.list j;have g:=r.length;exact wpAny_truthy_list D.isList (by simp only[O7];lia) ⟨H,I.tok _,by rw[rc r];exact q⟩
  .subst d
   obtain⟨c,r,D,m⟩:=I.tuple j;have g:=r.length;exact truthy_tuple D (by simp only[O7];lia) ⟨H,I.tok _,by rw[rc r];exact q⟩
 |_=>exact(show False from e).elim
theorem F6(b:PE X a ta)(i:∀d,isTrue a X.env d=(do let v <-d;SY a.pos;SX [v] (truthy v))):
  PT X a (λf H Q=>ta f H λx g=>∃k,Hi X.K x g k/\Q k g):=by
 intro e s f H Q I h;exact isTrue_plain (dt (b e s f H _ I h) λv j ⟨x,l,m,c,D⟩=>Kj e j f l x v Q m c D)<|i _
theorem hV(r:aB [x] e):∃u,e=[u]/\aR x u:=by
 cases r with
 |cons a d=>cases d;exact⟨_,rfl,a⟩
theorem uA(r:aB [x,y] h):∃u d,h=[u,d]/\aR x u/\aR y d:=by
 cases r with
 |cons a e=>
  cases e with
  |cons f g=>cases g;exact⟨_,_,rfl,a,f⟩
theorem w4:cK X (.builtin "abs") (λxs H Q=>∃i,xs=[.int i]/\Q (.int (if i<0 then -i else i)) H):=by
 intro d s e H xs a Q I r h;obtain⟨i,rfl,q⟩:=h;obtain⟨u,rfl,t,rfl⟩:=hV r;exact call_abs_int λu f=>⟨.int (if i<0 then -i else i),H,I.tok _,⟨_,rfl⟩,q⟩
theorem um(f:X.calm=OK):cK X (.builtin "max") (λa H Q=>∃i j,a=[.int i,.int j]/\Q (.int (if j>i then j else i)) H):=by
 intro e s g H a b Q I r h;obtain⟨i,j,rfl,q⟩:=h;obtain⟨u,l,rfl,⟨t,rfl⟩,⟨c,rfl⟩⟩:=uA r;refine max_two_ints (I.ok.hd f) λD m k=>⟨_,H,I.kept k,?_,q⟩;by_cases d:j>i
 .rw[OS d,OS d];exact⟨_,rfl⟩
 .rw[OR d,OR d];exact⟨_,rfl⟩
theorem nR(f:X.calm=OK):cK X (.builtin "min") (λa H Q=>∃i j,a=[.int i,.int j]/\Q (.int (if j<i then j else i)) H):=by
 intro e s g H a b Q I r h;obtain⟨i,j,rfl,q⟩:=h;obtain⟨u,l,rfl,⟨t,rfl⟩,⟨c,rfl⟩⟩:=uA r;refine min_two_ints (I.ok.hd f) λD m k=>⟨_,H,I.kept k,?_,q⟩;by_cases d:j<i
 .rw[OS d,OS d];exact⟨_,rfl⟩
 .rw[OR d,OR d];exact⟨_,rfl⟩
structure ss (h:PZ) (x dx C:ON) (mA:a0j):Prop where
 obj:h.get? x=on (VH C dx)
 ns:h.Ns1 dx mA
 ne:dx≠x
theorem DW{h:PZ}(n:h.Ns1 l mA):∃f,h.get? l=on f/\∀b,lookIn b f=on (mA b):=by
 obtain⟨o,c,G,g,D,i,_,E⟩:=n;refine⟨o,g,λb=>?_⟩;have e:=E b;unfold nsFind findBy at e;rw[<-Array.find?_toList]at e;unfold lookIn;rw[D]
 dsimp only
 split
 .rename_i y q
  rw[q]at e;exact Qr on e
 .rename_i q
  rw[q]at e;have a:c.toList.any (·.refKey)=OO:=by
   rw[Td];intro y j;obtain⟨z,t,d⟩:=i y<|Array.mem_toList_iff.mp j;simp[DictEntry.refKey,d]
  have k:¬c.toList.any (·.refKey)=OK:=by rw[a];exact OY
  rw[OR k];exact Qr on e
theorem ss.look(I:ss h x e C mA):∃d,PySem.W.InstAt h x (VH C e) C (on d)/\∀a,lookIn a d=on (mA a):=
 let ⟨d,ho,hl⟩:=DW I.ns
 ⟨d,⟨I.obj,rfl,rfl,ho⟩,hl⟩
variable{z:Py}{w:PD}{A:Qc}{E:a0f}{s:OT}{K:Pa}{x O C f:ON}{N:a0j}{c:PP}{v:OP}
theorem JO{d:Bool}(X:K.In s.heap)(I:ss s.heap x O C N)(g:plainGet K C c=OK)(i:hasDictIn K C=OK)
  (a:Th K (.ref C) c=on OD) (j:N c=on v) (e:XU v=OK) (h:Q v {s with toks:=s.toks+1}):
  O6 (Po z w) A (getAttr (.ref x) c d) Q E s:=by
 obtain⟨l,J,k⟩:=I.look;exact PySem.W.get_value X J (plainGet_of g).1 (PySem.W.findObj_own i a rfl<|by rw[k,j]) e h
theorem GX(X:K.In s.heap)(I:ss s.heap x O C N)(d:plainGet K C c=OK)
  (e:Th K (.ref C) c=on (on<|.ref f)) (g:isFn K (.ref f)=OK) (i:N c=OD) (h:Q (.ref f,[.ref x]) s):
  O6 (Po z w) A (VG (.ref x) c l) Q E s:=by
 obtain⟨j,J,k⟩:=I.look;exact PySem.W.method_fn X J (plainGet_of d).1 (plainGet_of d).2 e (beq_iff_eq.mp g) (by show(lookIn c j).map (·.isSome)=on OO;rw[k,i];rfl) h
theorem IQ{D:a0h}(X:K.In s.heap)(I:ss s.heap x O C N)
  (G:Th K (.ref C) "__setattr__"=on (on<|.builtin "object.__setattr__")) (l:XE K C=OK) (m:takerIn K C c=on OD) (n:hasDictIn K C=OK)
  (o:Vw N D) (p:D.length<=Pe)
  (h:∀f,ss f x O C (λy=>if y=c then on v else N y)->PL O s.heap f->Q () {s with heap:=f,toks:=s.toks+2}):
  O6 (Po z w) A (setAttr (.ref x) c v) Q E s:=by
 obtain⟨F,J,H⟩:=I.look;refine PySem.W.set_plain X J G<|PySem.W.osa_open (s:={s with toks:=s.toks+1}) (r:=OD) X J l m λb=>?_;obtain⟨M,q,g⟩:=PySem.W.any_some n;have t:s.heap.get? x=on ⟨.ref C,on O,.plain,#[]⟩:=I.obj;refine My<|OG<|My<|My<|wpAny_loadPart t<|My<|PySem.W.Looks.here (s:={s with toks:=s.toks+1}) (PySem.W.looks_clsIn X q) ?_;rw[g];refine OG (a:=on O)<|My<|OG<|My ?_;refine wpAny_nsSet1 (s:={s with toks:=s.toks+1}) I.ns λf d e=>?_;obtain⟨L,u,B,i,j,k⟩:=d.count<|Vw.cons c v o;refine My<|wpAny_lookBehind i (by rw[j];exact pastItsLine_dict<|Pl k<|by rw[O4];lia) ?_;exact OG<|h _ ⟨(e.2 _<|Ne.symm I.ne).trans I.obj,d,I.ne⟩ e
theorem Gu(X:K.In s.heap)(b:Yg K C=OK)
  (e:Th K (.ref C) "__init__"=on (on<|.ref f)) (i:PySem.W.typeIn K (.ref f)=on (.type "function"))
  (h:SI (Po z w) (A.under<|.builtin "type.__call__" ⟨.ref C::k,kw⟩) (.call (.ref f) ⟨.ref (s.heap.objs.size+1)::k,kw⟩) (PySem.W.InitBack (s.heap.objs.size+1) R)
   {s with heap:=(s.heap.push TX).push (VH C s.heap.objs.size)}):
  SI (Po z w) A (.call (.ref C) ⟨k,kw⟩) R s:=by
 obtain⟨j,g,d,t,c⟩:=s;exact PySem.W.make_core (PySem.W.makes_of X b) (PySem.W.looks_findIn X e) (λa=>PySem.W.bind_fn X a i) (.inl rfl) h
noncomputable def eE(f:PP)(v:V):a0G->a0G
 |[]=>[(f,v)]
 |(g,x)::r=>if g=f then(g,v)::r else(g,x)::eE f v r
theorem pp(f g:PP)(v:V):∀a:a0G,(eE f v a).lookup g=if g=f then on v else a.lookup g
 |[]=>by
  show TC g [(f,v)]=_;by_cases h:g=f
  .have d:(g==f)=OK:=beq_iff_eq.mpr h
   simp only[TC,d,OS h]
  .have d:(g==f)=OO:=beq_eq_false_iff_ne.mpr h
   simp only[TC,d,OR h]
 |(k,x)::r=>by
  have b:=pp f g v r;rw[show eE f v ((k,x)::r)=(if k=f then(k,v)::r else(k,x)::eE f v r)from rfl];by_cases i:k=f
  .rw[OS i]
   by_cases h:g=k
   .have d:(g==k)=OK:=beq_iff_eq.mpr h
    simp only[TC,d,OS<|h.trans i]
   .have d:(g==k)=OO:=beq_eq_false_iff_ne.mpr h
    simp only[TC,d,OR (λe:g=f=>h<|e.trans i.symm)]
  .rw[OR i]
   by_cases h:g=k
   .have d:(g==k)=OK:=beq_iff_eq.mpr h
    simp only[TC,d,OR (λe:g=f=>i<|h.symm.trans e)]
   .have d:(g==k)=OO:=beq_eq_false_iff_ne.mpr h
    simp only[TC,d];exact b
theorem nA(f:PP)(v:V):∀a:a0G,f∈(eE f v a).map (·.1)/\∀g,g∈a.map (·.1)->g∈(eE f v a).map (·.1)
 |[]=>⟨by simp[eE],λg h=>by simp at h⟩
 |(k,x)::r=>by
  obtain⟨i,j⟩:=nA f v r;rw[show eE f v ((k,x)::r)=(if k=f then(k,v)::r else(k,x)::eE f v r)from rfl];by_cases d:k=f
  .rw[OS d]
   subst d;exact⟨by simp,λg h=>by simpa using h⟩
  .rw[OR d]
   refine⟨?_,λg h=>?_⟩
   .rw[O0]
    exact OF _ i
   .rw[O0]at h⊢
    rcases OQ.mp h with e|e
    .exact OQ.mpr (.inl e)
    .exact OF _ (j g e)
theorem pq(f:PP)(v:V):∀a:a0G,(eE f v a).length<=a.length+1
 |[]=>by simp[eE]
 |(k,x)::r=>by
  have b:=pq f v r;rw[show eE f v ((k,x)::r)=(if k=f then(k,v)::r else(k,x)::eE f v r)from rfl];by_cases d:k=f
  .rw[OS d,O4,O4];lia
  .rw[OR d,O4,O4];lia
theorem ju.some_of{v:V}(r:ju (on v) o):∃u,o=on u/\aR v u:=by
 cases o with
 |none=>exact(show False from r).elim
 |some u=>exact⟨u,rfl,r⟩
theorem ju.none_of(r:ju OD o):o=OD:=by
 cases o with
 |none=>rfl
 |some u=>exact(show False from r).elim
theorem EU{v:V}(r:aR v u):XU u=OK:=by
 cases v with
 |non=>cases(show u=P7 from r);rfl
 |bl b=>cases(show u=Vn b from r);rfl
 |int i=>obtain⟨t,e⟩:=(show ∃t,u=SC i t from r);cases e;rfl
 |str x=>obtain⟨t,e⟩:=(show ∃t,u=Yw x t from r);cases e;rfl
 |ref a=>cases(show u=Pc a from r);rfl
 |ty n=>cases(show u=R7 n from r);rfl
end
section
variable{P:Py}{w:PD}{H l:Hp}{h h':PZ}{a C dx:ON}{N n:a0G}
theorem oQ(l:k_ P w H h)(e:H a=on (.ins C dx N)):∃b,ss h a dx C b/\(∀f,ju (N.lookup f)<|b f)/\Vw b (N.map (·.1))/\N.length<=1000/\H dx=on (.own a):=by
 obtain⟨d,z,D,c,b,n,r,q⟩:=(show cq P w H h a (.ins C dx N)from l a _ e);exact⟨b,⟨c,n,D⟩,r,q,z,d⟩
structure ro (K:Pa) (C:ON):Prop where
 pg:plainGet K C SK=OK
 hd:hasDictIn K C=OK
 po:XE K C=OK
 sa:Th K (.ref C) "__setattr__"=on (on<|.builtin "object.__setattr__")
theorem ro.get{K:Pa}{C:ON}(c:ro K C)(f:PP):plainGet K C f=OK:=c.pg
def fq(K:Pa)(C:ON)(f:PP):Prop:=Th K (.ref C) f=on OD
theorem fq.taker{K:Pa}{C:ON}(n:fq K C f):takerIn K C f=on OD:=by
 unfold takerIn;rw[show Th K (.ref C) f=on OD from n];rfl
structure mn (K:Pa) (C:ON) (m:PP) (f:ON):Prop where
 at_:Th K (.ref C) m=on (on<|.ref f)
 fn:isFn K (.ref f)=OK
 kp:UF K (.ref f)=OK
variable{X:Cx}{R:a0d}{L:St}{s:OT}{f:PP}{v:V}{A:Qc}{E:a0f}
theorem zZ{b:Bool}(I:b_ X R L H s)(e:H a=on (.ins C dx N))(c:ro X.K C)(n:fq X.K C f)(l:N.lookup f=on v)
  (h:∀u D,b_ X R L H D->aR v u->Q u D):O6 (Po X.prog X.w) A (getAttr (.ref a) f b) Q E s:=by
 obtain⟨g,O,r,_,_,_⟩:=oQ I.hok e;obtain⟨u,i,d⟩:=ju.some_of (v:=v) (o:=g f) (by rw[<-l];exact r f);exact JO I.kIn O (c.get f) c.hd n i (EU d)<|h u _ (I.tok _) d
theorem rj(I:b_ X R L H s)(e:H a=on (.ins C dx N))(c:ro X.K C)(k:mn X.K C m g)(l:N.lookup m=OD)
  (h:Q (.ref g,[.ref a]) s):O6 (Po X.prog X.w) A (VG (.ref a) m pl) Q E s:=by
 obtain⟨b,O,r,_,_,_⟩:=oQ I.hok e;have f:b m=OD:=ju.none_of (by rw[<-l];exact r m);exact GX I.kIn O (c.get m) k.at_ k.fn f h
theorem y8(I:b_ X R L H s)(e:H a=on (.ins C dx N))(c:ro X.K C)(n:fq X.K C f)(F:N.length<1000)(l:aR y u)
  (h:∀v,b_ X R L (upd H a<|.ins C dx<|eE f y N) v->Q () v):O6 (Po X.prog X.w) A (setAttr (.ref a) f u) Q E s:=by
 obtain⟨i,O,r,j,_,k⟩:=oQ I.hok e;have m:(N.map (·.1)).length<=Pe:=by rw[OC,Ri];lia
 refine IQ I.kIn O c.sa c.po n.taker c.hd j m λh' d p=>h _ ?_;have D:∃o,h'.get? dx=on o:=let ⟨o,_,_,e',_⟩:=d.ns;⟨o,e'⟩
 refine I.write (x:=a) (e:=dx) (by rw[e];exact UP) (.inr k) (λb q t z=>(p.2 b t).trans z) D ?_;refine⟨by rw[bb O.ne];exact k,?_,O.ne,d.obj,_,d.ns,λg=>?_,λg B=>?_⟩
 .have:=pq f y N;lia
 .show ju ((eE f y N).lookup g) (if g=f then on u else i g)
  rw[pp];by_cases q:g=f
  .rw[OS q,OS q];exact l
  .rw[OR q,OR q];exact r g
 .by_cases q:g=f
  .rw[q];exact(nA f y N).1
  .refine(nA f y N).2 g (j g λz=>B ?_)
   show(if g=f then on u else i g)=OD;rw[OR q];exact z
theorem b_.made(I:b_ X R L H s):b_ X R L (upd (upd H s.heap.objs.size<|.own<|s.heap.objs.size+1) (s.heap.objs.size+1)<|.ins C s.heap.objs.size [])
  {s with heap:=(s.heap.push TX).push (VH C s.heap.objs.size)}:=by
 have c:(s.heap.push TX).get? s.heap.objs.size=on TX:=O5 s.heap rfl;have d:((s.heap.push TX).push<|VH C s.heap.objs.size).get? (s.heap.objs.size+1)=on (VH C s.heap.objs.size):=by
  have:=O5 (s.heap.push TX) (o:=VH C s.heap.objs.size) rfl;rwa[QD]at this
 have g:(s.heap.push TX).Ns s.heap.objs.size (λ_=>OD):=⟨TX,#[],_,c,rfl,(λe i=>Pf i<|by simp),λ_=>rfl⟩;have j:=I.laid (a:=s.heap.objs.size) (o:= .own<|s.heap.objs.size+1) (h':=s.heap.push TX) (t':=s.toks) (λb u q=>OH _ q) (OX _) ⟨_,c⟩;refine j.laid (a:=s.heap.objs.size+1) (o:= .ins C s.heap.objs.size []) (t':=s.toks) (λb u q=>OH _ q) (Nat.le_of_eq<|QD _ _) ?_;have f:s.heap.objs.size≠s.heap.objs.size+1:=PQ<|Rz _;refine⟨by rw[bb f,ax],Qf _,f,d,λ_=>OD,(Heap.Ns1.of_empty g).at λo q=>OH _ q,λ_=>UP,λy k=>Pf rfl k⟩
theorem J7{w:PD}{f:PP}{s:OT}(c:SB e f d (Qh e d)=Qh e d)
  (h:O6 (Po prog w) A (Qh e d) (λo b=>O6 (Po prog w) A (getAttr o f OK) Q E b) E s):O6 (Po prog w) A (Qh (.Attribute e f g) d) Q E s:=
 Attribute_any_ h (by rw[arm_eval_Attribute,c])
def ZX(K:Pa)(c:TE)(f:PP):TE:=λL H Q=>c L H λx b=>∃a C dx N v,x= .ref a/\b a=on (.ins C dx N)/\ro K C/\fq K C f/\N.lookup f=on v/\Q v b
def KC(K:Pa)(c d:TE)(f:PP):TS:=λD L H=>d L H λy e=>c L e λx b=>∃a C dx N,x= .ref a/\b a=on (.ins C dx N)/\ro K C/\fq K C f/\N.length<1000/\
 D.nx L (upd b a<|.ins C dx<|eE f y N)
variable{o e v:Expr}{O T d:TF}{z U:TE}
theorem K7(b:PE X e z)(d:SB e f X.env (Qh e X.env)=Qh e X.env):PE X (.Attribute e f O) (ZX X.K z f):=by
 intro R s L H Q I h;refine J7 d<|dt (b R s L H _ I h) λu r ⟨x,g,i,j,a,C,dx,N,v,o,k,c,n,l,q⟩=>?_;subst o;obtain rfl:u=Pc a:=j;exact zZ i k c n l λt y m p=>⟨v,g,m,p,q⟩
theorem qQ(e:PE X o z)(b:PE X v U)(w:TY v (on<|.Attribute o f T) O.line X.env=Rm OO):PS X (.Assign [.Attribute o f T] v O) (KC X.K z U f):=by
 intro R s L H D I h;refine plainObj_wpAny_Assign_Attribute (dt (b R s L H _ I h) λu d ⟨y,g,i,j,q⟩=>dt (e R d L g _ i q) λk B ⟨x,F,m,p,a,C,dx,N,A,r,c,n,l,E⟩=>?_) w;subst A;obtain rfl:k=Pc a:=p;exact y8 m r c n l j λJ t=>⟨L,_,t,E⟩
variable{Q:a0f}{c:OP}{b:Bool}
inductive l_ (K:Pa) (H:Hp):V->OP->Prop where
 |non:l_ K H .non (.type "NoneType")
 |bl (x:Bool):l_ K H (.bl x) (.type "bool")
 |int (i:Int):l_ K H (.int i) (.type "int")
 |str (x:PP):l_ K H (.str x) (.type "str")
 |lst {a:ON} {xs:a0i} (e:H a=on (.lst xs)):l_ K H (.ref a) (.type "list")
 |frz {a:ON} {o:Qk} {xs:a0i} (e:H a=on (.frz o (.lst xs))):l_ K H (.ref a) (.type "list")
 |tup {a:ON} {xs:a0i} (e:H a=on (.tup xs)):l_ K H (.ref a) (.type "tuple")
 |ins {a C dx:ON} {N:a0G} (e:H a=on (.ins C dx N)) (cl:ro K C) (ha:Th K (.ref C) "__class__"=on (on (.builtin "object.__class__")))
  (hn:specialIn K (.builtin "object.__class__") "__get__"=on (on<|.builtin "getset_descriptor.__get__")) (htk:Yh K (.builtin "object.__class__")=on OK)
  (hm:PySem.W.mroIn K C (.type "object")=on OK):l_ K H (.ref a)<|.ref C
theorem EM(I:b_ X R L H s)(d:aR x u)(f:l_ X.K H x t)(e:kitOne X.K t c=on b)(h:∀j,Q (.bool b) {s with toks:=j}):
  O6 (Po X.prog X.w) A (VL (.builtin "isinstance") [u,c]) Q E s:=by
 cases f with
 |non=>cases(show u=P7 from d);exact UQ PySem.W.kitx_none I.kIn UP e (λz=>nomatch z) h
 |bl y=>cases(show u=Vn y from d);exact UQ PySem.W.kitx_bool I.kIn UP e (λz=>nomatch z) h
 |int i=>obtain⟨t,q⟩:=(show ∃t,u=SC i t from d);cases q;exact UQ PySem.W.kitx_int I.kIn UP e (λz=>nomatch z) h
 |str y=>obtain⟨t,q⟩:=(show ∃t,u=Yw y t from d);cases q;exact UQ PySem.W.kitx_str I.kIn UP e (λz=>nomatch z) h
 |@lst a xs ea=>
  cases(show u=Pc a from d);obtain⟨_,_,n,_,g⟩:=(show cq X.prog X.w H s.heap a (.lst xs)from I.hok a _ ea);exact UQ kitx_list I.kIn ⟨_,g,rfl⟩ e (λz=>nomatch z) h
 |@frz a ob xs ea=>
  cases(show u=Pc a from d);obtain⟨_,_,_,n,_,g⟩:=(show cq X.prog X.w H s.heap a (.frz ob<|.lst xs)from I.hok a _ ea);exact UQ kitx_list I.kIn ⟨_,g,rfl⟩ e (λz=>nomatch z) h
 |@tup a xs ea=>
  cases(show u=Pc a from d);obtain⟨_,_,_,p⟩:=(show cq X.prog X.w H s.heap a (.tup xs)from I.hok a _ ea);obtain⟨o,g,k,_⟩:=p;exact UQ Xd I.kIn ⟨o,g,k⟩ e (λz=>nomatch z) h
 |@ins a C dx N ea cl ha hn htk hm=>
  cases(show u=Pc a from d);obtain⟨l,O,_⟩:=oQ I.hok ea;obtain⟨m,J,_⟩:=O.look;exact UQ (PySem.W.kitx_own (cl.get _) cl.hd ha hn htk hm) I.kIn J e (λz=>nomatch z) h
structure dv (k:Nat) (A:Qc):Prop where
 hd:A.handled=OD
 dp:A.depth+3*k+5<recursionLimit
 un:A.units+16*k+200<TN
 gd:A.guards=on []
theorem dv.mono{A:Qc}(r:dv k A)(h:j<=k):dv j A:=⟨r.hd,by have:=r.dp;lia,by have:=r.un;lia,r.gd⟩
theorem dv.deeper{A:Qc}(r:dv (k+1) A)(a:V3):dv k (A.deeper a):=
 ⟨r.hd,by have:=r.dp;show A.depth+1+3*k+5<_;lia,by have:=r.un;show A.units+3+16*k+200<_;lia,r.gd⟩
theorem zG{A:Qc}{C:ON}:(A.under<|.builtin "type.__call__" ⟨.ref C::g,kw⟩).depth=A.depth+1:=by
 first|rfl|simp[Vq,Code.weight,Code.isCreation,Code.isGuard,Code.isCaller,Code.frames,WY,guardIds]
theorem zF{A:Qc}{C:ON}:(A.under<|.builtin "type.__call__" ⟨.ref C::g,kw⟩).units=A.units+1:=by
 first|rfl|simp[Vq,Code.cUnits,Code.frames,WY]
theorem dv.make{A:Qc}(r:dv (k+1) A)(C:ON)(a:a0g)(d:List<|PP×OP):dv k (A.under<|.builtin "type.__call__" ⟨.ref C::a,d⟩):=
 ⟨r.hd,by have:=r.dp;rw[zG];lia,by have:=r.un;rw[zF];lia,by first|exact r.gd|simp[Vq,Code.guards,Code.isGuard,guardIds,pushGuards,r.gd]⟩
theorem dv.depth{A:Qc}(r:dv k A):A.depth<recursionLimit:=by have:=r.dp;lia
theorem dv.units{A:Qc}(r:dv k A):A.units+64<TN:=by have:=r.un;lia
noncomputable def FR:TA:=λ_ H Q=>Q [] H
def HC(z:TE)(a:TA):TA:=λL H Q=>z L H λx d=>a L d λb g=>Q (x::b) g
variable{a:List Expr}{c:TE}{t:TA}
theorem ii:PA X [] FR:=λ_ _ _ _ H Q I h=>X4 ⟨[],H,I,.nil,h⟩
theorem eF(b:PE X e c)(d:PA X a t)(f:b0a X e a:=by rfl):PA X (e::a) (HC c t):=by
 intro O R s L H Q I h;rw[f];show O6 _ _ (spliced<|(OO,Qh e X.env)::Q5 O (O1 a X.env)) _ _ s;refine XH<|dt (b R s L H _ I h) λu g ⟨x,i,j,o,v⟩=>?_;exact dt (d O R g L i _ j v) λA n ⟨w,k,l,m,z⟩=>⟨x::w,k,l,.cons o m,z⟩
def ZS(t:TA):TE:=λL H Q=>t L H λa d=>a.length<=Pe/\∀p,d p=OD->Q (.ref p) (upd d p<|.tup a)
def Kq(t:TA):TE:=λL H Q=>t L H λa d=>a.length<=Pe/\∀p,d p=OD->Q (.ref p) (upd d p<|.lst a)
theorem K2{m}(h:PA X a t):PE X (.Tuple a m O) (ZS t):=by
 intro R s L H Q I j;refine wpAny_Tuple_spliced<|dt (h O R s L H _ I j) λc d ⟨f,g,i,r,z,q⟩=>⟨by rw[<-r.length];exact z,?_⟩;have k:g d.heap.objs.size=OD:=i.hok.fresh<|OX _;refine⟨.ref d.heap.objs.size,upd g d.heap.objs.size<|.tup f,i.laid (t':=d.toks) (λb u e=>OH _ e) (OX _) ?_,rfl,q _ k⟩;exact⟨z,c,r,⟨_,O5 _ rfl,rfl,_,rfl⟩⟩
theorem fi(h:PA X a t):PE X (.List a O) (Kq t):=by
 intro R s L H Q I j;refine wpAny_List_spliced<|dt (h O R s L H _ I j) λc d ⟨f,g,i,r,z,q⟩=>⟨by rw[<-r.length];exact z,?_⟩;have k:g d.heap.objs.size=OD:=i.hok.fresh<|OX _;refine⟨.ref d.heap.objs.size,upd g d.heap.objs.size<|.lst f,i.laid (t':=d.toks) (λb u e=>OH _ e) (OX _) ?_,rfl,q _ k⟩;exact⟨z,c,0,r,O5 _ rfl⟩
abbrev Sp:=a0i->Hp->VK->XK->Prop
abbrev G_:=a0C->Hp->OT->XK->OP->OT->Prop
structure sA (P:Py) (w:PD) (K:Pa) (mg:a0j) (base:PZ) (A:Qc) (outer:a0C) (s:OT) (H:Hp):Prop where
 frames:A.frames=on outer
 mod:Mod K mg base
 bs:∀b o,base.get? b=on o->s.heap.get? b=on o/\H b=OD
 bsz:base.objs.size<=s.heap.objs.size
 funs:s.heap.FunFrames base outer
 frf:∀b∈g8 outer,H b=OD
 hok:k_ P w H s.heap
 bare:Um s.gens
def CE(a:a0C)(P:Py)(w:PD)(H:Hp)(s:OT)(Q:VK)(u:OP)(b:OT):Prop:=
 ∃v l,b.os=s.os/\Um b.gens/\Un (g8 a) [] H l s.heap b.heap/\k_ P w l b.heap/\aR v u/\Q v l
def CR(c:G_)(a:a0C)(P:Py)(w:PD)(H:Hp)(s:OT)(Q:VK)(E:XK)(r:Result)(b:OT):Prop:=
 match r with
 | .ok (.ret u)=>CE a P w H s Q u b
 | .ok _=>False
 | .error e=>c a H s E e b
structure fw (P:Py) (w:PD) (K:Pa) (mg:a0j) (base:PZ) (CX:G_) (k:Nat) (f:ON) (fd:Pd) (ps:a0h) (sp:Sp):Prop where
 len:∀vs H Q E,sp vs H Q E->vs.length=ps.length
 run:∀(A:Qc) (outer:a0C) (s:OT) (H:Hp) (args:Args) (us:a0g) (vs:a0i) (Q:VK) (E:XK),dv k A->sA P w K mg base A outer s H->VC s fd args (ps.zip us)->aB vs us->sp vs H Q E->
  SI (Po P w) A (.call (.ref f) args) (CR CX outer P w H s Q E) s
theorem sA.make{P:Py}{w:PD}{K:Pa}{A:Qc}{s:OT}{H:Hp}(e:sA P w K j i A g s H)(C:ON)(a:a0g)(d:List<|PP×OP):
  sA P w K j i (A.under<|.builtin "type.__call__" ⟨.ref C::a,d⟩) g s H:=⟨by first|exact e.frames|(simpa[Vq,Code.envs,WY,pushEnvs]using e.frames),e.mod,e.bs,e.bsz,e.funs,e.frf,e.hok,e.bare⟩
variable{a:OT}
theorem b_.env0(I:b_ X R L H s):sA X.prog X.w X.K X.mg X.base X.A X.stack s H:=
 ⟨I.ok.frames,I.ok.mod,I.bs,Pl I.ok.bsz I.sz,I.stack,I.stkFree,I.hok,I.bare⟩
theorem b_.after{Q:VK}(I:b_ X R L H s)(h:CE X.stack X.prog X.w H s Q u a):EP X R L Q u a:=by
 obtain⟨v,l,f,c,n,e,r,q⟩:=h;obtain⟨j,g,d,t,i⟩:=a;obtain rfl:i=s.os:=f;exact⟨v,l,I.call (h':=j) (g':=g) (d':=d) (t':=t) (ch:=[]) n e c (λb z=>Pf z<|by simp),r,q⟩
def Nf(a:Sp)(d:a0i)(E:a0s)(t:TA):TE:=λL H Q=>t L H λb g=>a (b++d) g Q<|E L
def yW(C:ON)(m:PP)(b:Sp)(d:a0i)(E:a0s)(z:TE)(t:TA):TE:=λL H Q=>z L H λx g=>∃a dx N,x= .ref a/\g a=on (.ins C dx N)/\N.lookup m=OD/\
 t L g λc i=>b (x::(c++d)) i Q<|E L
def dH(K:Pa)(d:Pd)(b:a0h)(c:a0g):Prop:=
 ∀(s:OT) (a:a0g),K.In s.heap->(a++c).length=b.length->VC s d ⟨a,[]⟩ (b.zip<|a++c)
theorem dH.all{K:Pa}{a:a0h}(h:∀us:a0g,us.length=a.length->bindArgs g ⟨us,[]⟩=Rm (a.zip us)):dH K g a []:=λs us _ d=>by
 rw[P9]at d⊢;exact .of_eq<|h us d
def dT(b:G_)(X:Cx)(E:a0s):Prop:=∀(R:a0d) (L:St) (H:Hp) (s:OT) (e:OP) (a:OT),b_ X R L H s->b X.stack H s (E L) e a->X.xe e a
end
section
variable{X:Cx}{CX:G_}{k:Nat}{f C:ON}{fd:Pd}{ps:a0h}{sp:Sp}{Y:a0i}{ds:a0g}{E:a0s}{x m:PP}{p z Z:TF}{e o:Expr}{es:List Expr}{ta:TE}{t:TA}
theorem vL(F:fw X.prog X.w X.K X.mg X.base CX k f fd ps sp)(c:dv k X.A)(d:dH X.K fd ps ds)(m:aB Y ds)(g:dT CX X E)
  (I:b_ X l j H s) (r:aB vs us) (h:sp (vs++Y) H Q<|E j):O6 (Po X.prog X.w) X.A (VL (.ref f) us) (EP X l j Q) X.xe s:=by
 have b:aB (vs++Y) (us++ds):=r.append m;have i:(us++ds).length=ps.length:=by rw[<-b.length];exact F.len _ _ _ _ h
 refine Xp<|SW (F.run X.A X.stack s H ⟨us,[]⟩ (us++ds) (vs++Y) Q (E j) c I.env0 (d s us I.kIn i) b h) λr o a=>?_;cases r with
 |error e=>exact g l j H s e o I a
 |ok fl=>
  cases fl with
  |ret u=>exact I.after a
  |next=>exact Ry a
  |brk=>exact Ry a
  |cont=>exact Ry a
theorem oA(F:fw X.prog X.w X.K X.mg X.base CX k f fd ps sp)(g:dv k X.A)(i:Gl X x)(m:X.mg x=on (.ref f))(j:UF X.K (.ref f)=OK)(l:dH X.K fd ps ds)(o:aB Y ds)(n:dT CX X E)
  (C:PA X (e::es) t) (b:b0c x:=by decide) (u:b0a X e es:=by rfl) (c:b0b X z es:=by rfl):
  PE X (.Call (.Name x p) (e::es) [] z) (Nf sp Y E t):=by
 intro a s v H Q I h;refine UG<|sw I i m ?_ b;refine Xc (h₀:=X.base) I.ok.mod.kin j (dt (C z a s v H _ I h) λD y ⟨G,B,d,r,q⟩=>⟨d.kIn,?_⟩) u c;exact vL F g l o n d r q
theorem Jg(v:PE X o ta)(c:ro X.K C)(p:mn X.K C m f)(F:fw X.prog X.w X.K X.mg X.base CX k f fd ps sp)(y:dv k X.A)(B:dH X.K fd ps ds)(D:aB Y ds)(J:dT CX X E)(G:PA X (e::es) t)
  (d:b0a X e es:=by rfl) (g:b0b X z es:=by rfl)
  (L:Qh (.Call (.Attribute o m Z) (e::es) [] z) X.env=(do
   let ov <-Qh o X.env
   SY Z.atName
   let (f,first) <-SX [ov] (VG ov m pl)
   callWith z f first (Q5 z<|O1 (e::es) X.env) (Sc z<|Q6 [] X.env)):=by rfl):
  PE X (.Call (.Attribute o m Z) (e::es) [] z) (yW C m sp Y E ta t):=by
 intro b s i H Q I h;refine WN (pl:=pl) (dt (v b s i H _ I h) λu N ⟨x,O,j,P,a,T,V,M,R,l,q⟩=>?_) L;subst M;obtain rfl:u=Pc a:=P;refine rj j R c p l ?_;refine Xc (first:=[.ref a]) (h₀:=X.base) I.ok.mod.kin p.kp (dt (G z b N i O _ j q) λus U ⟨vs,W,n,r,S⟩=>⟨n.kIn,?_⟩) d g
 exact vL (us:= .ref a::us) (vs:= .ref a::vs) F y B D J n (.cons rfl r) S
theorem Gd(g:PE X o ta)(c:ro X.K C)(e:mn X.K C m f)(F:fw X.prog X.w X.K X.mg X.base CX k f fd ps sp)(i:dv k X.A)(j:dH X.K fd ps ds)(p:aB Y ds)(n:dT CX X E)
  (r:Qh (.Call (.Attribute o m Z) [] [] z) X.env=(do
   let O <-Qh o X.env
   SY Z.atName
   let (f,first) <-SX [O] (VG O m pl)
   callWith z f first (Q5 z<|O1 [] X.env) (Sc z<|Q6 [] X.env)):=by rfl):
  PE X (.Call (.Attribute o m Z) [] [] z) (yW C m sp Y E ta FR):=by
 intro b s v H Q I h;refine WN (pl:=pl) (dt (g b s v H _ I h) λu J ⟨x,L,d,y,a,N,D,t,B,l,q⟩=>?_) r;subst t;obtain rfl:u=Pc a:=y;refine rj d B c e l ?_;exact PySem.W.callWith_K0 (first:=[.ref a]) d.kIn e.kp<|vL (us:=[.ref a]) (vs:=[.ref a]) F i j p n d (.cons rfl .nil) q
structure Mk (K:Pa) (C f:ON):Prop where
 makes:Yg K C=OK
 init:Th K (.ref C) "__init__"=on (on<|.ref f)
 fn:isFn K (.ref f)=OK
 kp:UF K (.ref C)=OK
def PK(X:Cx)(b:a0Z)(t:TA):Prop:=
 ∀(z:TF) (a:a0d) (s:OT) (c:St) (H:Hp) (Q:a0i->Hp->Prop),b_ X a c H s->t c H Q->O6 (Po X.prog X.w) X.A (evalAll<|(Sc z<|Q6 b X.env).map (·.2)) (AP X a c Q) X.xe s
variable{a:a0h}{k:TF}{f:a0Z}{m:TE}{o:TA}{A:Option PP}
theorem KY:PK X [] FR:=λ_ _ _ _ H Q I h=>wpAny_evalAll_nil ⟨[],H,I,.nil,h⟩
theorem Jc(o:PE X e m)(c:PK X f t):PK X (⟨A,e,k⟩::f) (HC m t):=by
 intro z a s b H Q I h;show O6 _ _ (evalAll<|(do let v <-Qh e X.env;SY z;Rm v)::(Sc z<|Q6 f X.env).map (·.2)) _ _ s
 refine wpAny_evalAll_cons<|My<|dt (o a s b H _ I h) λu d ⟨x,g,i,p,C⟩=>My<|RE<|OG ?_;exact dt (c z a d b g _ i C) λG q ⟨D,j,l,n,E⟩=>⟨x::D,j,l,.cons p n,E⟩
structure B9 (K:Pa) (fd:Pd) (ps a:a0h) (g:a0g->a0g->a0g) (gV:a0i->a0i->a0i):Prop where
 to:∀(s:OT) (us ws:a0g),K.In s.heap->(g us ws).length=ps.length->VC s fd ⟨us,a.zip ws⟩ (ps.zip<|g us ws)
 rel:∀{vs:a0i} {us:a0g} {zs:a0i} {ws:a0g},aB vs us->aB zs ws->aB (gV vs zs) (g us ws)
variable{g:a0g->a0g->a0g}{a:a0i->a0i->a0i}
structure bt (N P:a0h) (sc:Scope):Prop where
 kind:sc.kind= .function
 co:sc.isCoroutine=OO
 gen:sc.isGenerator=OO
 nd:N.Nodup
 pre:N.take P.length=P
 par:∀x∈P,sc.names.lookup x=on .local\/sc.names.lookup x=on .cell
 nofree:∀y∈sc.names,y.2≠ .free
theorem uq{b:PP->Option SN}{x:PP}:∀{a:List (PP×OP)} {m:a0j},(∀v,(x,v)∉a)->Yl b a m x=m x
 |[],_,_=>rfl
 |(n,v)::r,m,h=>by
  unfold Yl;rw[uq λw c=>h w<|OF _ c];split
  .have:x≠n:=by rintro rfl;exact h v OL
   simp[this]
  .rfl
theorem ut{b:PP->Option SN}{x:PP}:∀{a:List (PP×OP)} {m:a0j},(∀v,(x,v)∉a)->Yk b a m x=m x
 |[],_,_=>rfl
 |(n,v)::r,m,h=>by
  unfold Yk;rw[ut λw c=>h w<|OF _ c];split
  .rfl
  .have:x≠n:=by rintro rfl;exact h v OL
   simp[this]
theorem ur{a:PP->Option SN}{x:PP}{v:OP}:∀{P:a0h} {e:a0g} {i:Nat} {m:a0j},P.Nodup->P[i]?=on x->e[i]?=on v->a x=on .local->
  Yl a (P.zip e) m x=on v
 |[],_,_,_,_,h,_,_=>by simp at h
 |_::_,[],_,_,_,_,h,_=>by simp at h
 |p::P,w::e,0,m,nd,h1,h2,hk=>by
  simp at h1 h2;subst h1;subst h2;show Yl a ((p,w)::P.zip e) m p=_;unfold Yl;rw[uq λv b=>(Pz.mp nd).1 (TL b).1,OS hk];simp
 |p::P,w::e,i+1,m,nd,h1,h2,hk=>by
  show Yl a ((p,w)::P.zip e) m x=_;unfold Yl;exact ur (i:=i) (Pz.mp nd).2 (by simpa using h1) (by simpa using h2) hk
theorem uu{a:PP->Option SN}{x:PP}{v:OP}:∀{P:a0h} {e:a0g} {i:Nat} {m:a0j},P.Nodup->P[i]?=on x->e[i]?=on v->a x≠on .local->
  Yk a (P.zip e) m x=on v
 |[],_,_,_,_,h,_,_=>by simp at h
 |_::_,[],_,_,_,_,h,_=>by simp at h
 |p::P,w::e,0,m,nd,h1,h2,hk=>by
  simp at h1 h2;subst h1;subst h2;show Yk a ((p,w)::P.zip e) m p=_;unfold Yk;rw[ut λv b=>(Pz.mp nd).1 (TL b).1,OR hk];simp
 |p::P,w::e,i+1,m,nd,h1,h2,hk=>by
  show Yk a ((p,w)::P.zip e) m x=_;unfold Yk;exact uu (i:=i) (Pz.mp nd).2 (by simpa using h1) (by simpa using h2) hk
noncomputable def gx(N:a0h)(a:a0i):St:=a.map on++Pg (N.length-a.length) OD
noncomputable def gi(CX:G_)(P:Py)(w:PD)(K:Pa)(mg:a0j)(base:PZ)(N:a0h)(a:PP)(g:Scope)(f:ON)(k:OP)(A:Qc)(outer:a0C)(s:OT)(H:Hp)(E:XK):Cx where
 prog:=P
 w:=w
 K:=K
 mg:=mg
 base:=base
 A:=A.deeper (Tg a g s.heap.objs.size f k)
 N:=N
 s₀:=s
 H₀:=H
 env:=Tg a g s.heap.objs.size f k
 outer:=outer
 stack:=Tg a g s.heap.objs.size f k::outer
 ex:=[]
 calm:=OK
 fn:=λ_=>OK
 pn:=[]
 xe:=λe m=>O6 (Po P w) (A.deeper<|Tg a g s.heap.objs.size f k) (leaving (Tg a g s.heap.objs.size f k) e) (λ_ b=>CX outer H s E e b) (λc b=>CX outer H s E c b) m
theorem wY{a:Scope}{x:PP}(h:a.names.lookup x=on .cell):∃c,(QX n a.names []).lookup x=on c:=by
 have q:=Xh a.names n []<|.inl h;exact Wr.mp q
theorem EQ{CX:G_}{K:Pa}{N ps:a0h}{g:Scope}{f:ON}{A:Qc}{s L:OT}{E:XK}{m:a0i}
  (S:bt N ps g) (t:A.handled=OD) (j:sA P w K mg base A outer s H) (U:m.length=ps.length) (r:aB m us)
  (x:InCallC s s.heap.objs.size (Yl (Tg qual g s.heap.objs.size f cd).kindOf (ps.zip us) λ_=>OD) (QX (s.heap.objs.size+1) g.names []) (Yk (Tg qual g s.heap.objs.size f cd).kindOf (ps.zip us) λ_=>OD) L):
  b_ (gi CX P w K mg base N qual g f cd A outer s H E) [] (gx N m) H L:=by
 have R:ps.length<=N.length:=by have:=Qr U4 S.pre;rw[Rv]at this;lia
 obtain⟨I,o,rfl,O⟩:=x.done;have l:∀b:ON,b∉(gi CX P w K mg base N qual g f cd A outer s H E).ex:=λb z=>Pf (show b∈([]:a0o)from z) (by simp);refine⟨⟨j.mod,S.kind,rfl,rfl,OX _,λy z c I d=>?_,λy hy=>?_,λy c _ h=>?_,λ_=>t,Around.frames_deeper j.frames,.inr ⟨rfl,rfl⟩,λb z=>Pf z<|l b,j.bs,j.bsz,λb _ _=>l b,λb z=>Pf z<|l b,j.funs,j.frf⟩,
  rfl,j.bare,Un.kept O,⟨_,x.toInCall.ns,λi y v I d W=>?_⟩,λy c h=>⟨_,x.cell y c h⟩,j.hok.fresh<|OX _,λy c h=>?_,λp B=>Pf (show p∈([]:a0d)from B) (by simp),j.hok.kept O,?_⟩
 .exact name_of_addr x.apart (Qz I) (Qz d)
 .have hy:g.names.lookup y=on .cell\/g.names.lookup y=on .free:=hy
  rcases hy with hy|hy
  .exact wY hy
  .exact Pf rfl (S.nofree _<|Qz hy)
 .exact UT (x.above y c<|Qz h)
 .have J:i<m.length:=by
   unfold gx at d;by_cases J:i<m.length
   .exact J
   .rw[QR<|by simpa using J]at d
    rw[Ro]at d;split at d<;>cases d
  have C:m[i]?=on v:=by
   unfold gx at d;rw[RG (by simpa using J),OI]at d;cases e:m[i]? with
   |none=>rw[e]at d;cases d
   |some a=>rw[e]at d;cases d;rfl
  obtain⟨u,Q,T⟩:=r.get C;have B:ps[i]?=on y:=by
   rw[<-S.pre,WJ<|by lia];exact I
  have F:ps.Nodup:=by rw[<-S.pre];exact S.nd.sublist<|List.take_sublist _ _
  refine⟨u,T,?_⟩;rcases S.par y (OW B)with k|k
  .exact .inl ⟨k,ur F B Q k⟩
  .obtain⟨c,e⟩:=wY (n:=s.heap.objs.size+1) k
   refine .inr ⟨.inl k,c,e,?_⟩;have q:=x.cell y c e;rw[uu F B Q (by show g.names.lookup y≠_;rw[k];decide)]at q;exact q
 .exact j.hok.fresh (UT<|x.above y c<|Qz h)
 .unfold gx
  show _=N.length;rw[O8,OC,QZ];lia
theorem Ih{CX:G_}{K:Pa}{k:Nat}{f:ON}
  {N ps:a0h} {sp:Sp} (R:K.lookup f=on ⟨oc,od,.func<|S6 name qual params body scope dV kV doc pm an cdv ct,osl⟩) (l:TV K cdv qual=OK) (S:bt N ps scope)
  (z:∀m H Q E,sp m H Q E->m.length=ps.length)
  (d:∀(A:Qc) (g:a0C) (s:OT) (H:Hp) (m:a0i) (Q:VK) (E:XK),dv k (A.deeper<|Tg qual scope s.heap.objs.size f cdv)->sp m H Q E->
   ∃t,PSs (gi CX P w K mg base N qual scope f cdv A g s H E) body t/\t {nx:=λ_ c=>Q .non c,rt:=Q} (gx N m) H):
  fw P w K mg base CX (k+1) f (S6 name qual params body scope dV kV doc pm an cdv ct) ps sp:=by
 refine⟨z,λA g s H M X m Q E B i T r j=>?_⟩;have U:=z _ _ _ _ j;have L:K.In s.heap:=i.mod.kin.keeps λb o e=>(i.bs b o e).1;have D:s.heap.NoLimit:=i.mod.nolimit.keeps λb o e=>(i.bs b o e).1;have h:∀y∈ps.zip X,scope.names.lookup y.1=on .local\/(scope.names.lookup y.1=on .cell/\((QX (s.heap.objs.size+1) scope.names []).lookup y.1).isSome=OK):=λ⟨n,v⟩ Y=>by
  rcases S.par n (TL Y).1 with q|q
  .exact .inl q
  .exact .inr ⟨q,Xh _ _ _<|.inl q⟩
 refine codeAny_call_function B.depth (L _ _ R) rfl S.co S.gen rfl (PySem.W.codeRec_of L l)<|T _ _ _ _ ?_;refine wpAny_newFunctionEnv_cells S.kind h λaa Z O x=>?_;subst Z;refine⟨D.keeps x.toInCall.keep,codeAny_func ?_⟩;obtain⟨t,ht,hq⟩:=d A g s H m Q E (B.deeper _) j;have I:b_ (gi CX P w K mg base N qual scope f cdv A g s H E) [] (gx N m) H O:=EQ S B.hd i U r x;refine Qa (ht [] O (gx N m) H _ I hq) (λfl G p=>?_) λe G p=>p;have C:∀{a:St} {c:Hp} {v:V} {u:OP},b_ (gi CX P w K mg base N qual scope f cdv A g s H E) [] a c G->aR v u->Q v c->CE g P w H s Q u G:=
  λ{a c v u} J F q=>⟨v,c,J.os,J.bare,J.base,J.hok,F,q⟩
 cases fl with
 |ret u=>
  obtain⟨v,a,c,J,F,q⟩:=p;exact C J F q
 |next=>
  obtain⟨a,c,J,q⟩:=p;exact C (v:=V.non) (u:=P7) J rfl q
 |brk=>
  obtain⟨_,_,_,q⟩:=p;exact Ry q
 |cont=>
  obtain⟨_,_,_,q⟩:=p;exact Ry q
variable{f T:String}{r:a0I}
def ZY(r:a0I)(t:TA):TE:=λa H Q=>t a H λe b=>r e b Q
theorem j3(i:cK X (.builtin f) r)(j:Gl X x)(g:X.mg x=OD)(l:Su x=on (.builtin f))(k:PA X (e::es) t)(m:x≠"__name__":=by decide)(b:b0c x:=by decide)
  (n:b0a X e es:=by rfl) (c:b0b X z es:=by rfl):PE X (.Call (.Name x p) (e::es) [] z) (ZY r t):=by
 intro a s d H Q I h;refine UG<|ij I j g l ?_ m b;exact Rows.callWith_builtin1 (dt (k z a s d H _ I h) λo q ⟨A,u,v,C,D⟩=>i a q d u A o Q v C D) n c
theorem ng(i:cK X (.type T) r)(j:Gl X x)(f:X.mg x=OD)(l:Su x=on (.type T))(g:PA X (e::es) t)(k:x≠"__name__":=by decide)(b:b0c x:=by decide)
  (n:b0a X e es:=by rfl) (c:b0b X z es:=by rfl):PE X (.Call (.Name x p) (e::es) [] z) (ZY r t):=by
 intro a s d H Q I h;refine UG<|ij I j f l ?_ k b;exact QJ (dt (g z a s d H _ I h) λm q ⟨o,u,v,A,C⟩=>i a q d u o m Q v A C) n c
end
end L2
namespace HT
section
open PySem.SeqAt
open PySem.AutoSeq1 (wpAny_loadPart')
open PySem.MeetsSeq PySem.MeetsSeq2 PySem.MeetsSeq3
end
section
variable{x:Py}{w:PD}{A:Qc}{E:a0f}{s:OT}
theorem cat_tup{D a:a0g}(v:IsTup s.heap t D.toArray)(y:IsTup s.heap b a.toArray)(m:D≠[])
  (B:a=[]->Q (.ref t) s) (C:a≠[]->Q (.ref s.heap.objs.size) {s with heap:=s.heap.push {cls:= .type "tuple",data:= .seq (D++a).toArray}})
  (k:D.length+a.length<=Pe):O6 (Po x w) A (RZ .Add (.ref t)<|.ref b) Q E s:=by
 obtain⟨⟨cls,o,data,p⟩,i,q,n,G⟩:=id v;obtain⟨⟨r,d,l,f⟩,c,g,u,h⟩:=id y;simp only at q G g h;subst q G g h;have e:D.toArray++a.toArray=(D++a).toArray:=by simp
 by_cases j:a=[]
 .exact concat_meets ⟨_,i,rfl⟩ ⟨_,c,rfl⟩ WE XZ UC Uu (Ui _ _)
   (tuple_addW1 t b D.toArray a.toArray n u o d p f (by simpa using m)<|by simp[j]) ⟨i,c,B j⟩
 .refine concat_meets ⟨_,i,rfl⟩ ⟨_,c,rfl⟩ WE XZ UC Uu (Ui _ _)
   (tuple_addW2 t b D.toArray a.toArray n u o d p f (by simpa using m) (by simpa using j)<|by rw[O7,O7];exact k) ⟨i,c,?_⟩
  rw[e];exact C j
noncomputable def sIx(n d:Nat):a0t->Nat
 |none=>d
 |some v=>if v<0 then(v+(n:Int)).toNat else SL v.toNat n
theorem sIx_none(n d:Nat):sIx n d OD=d:=rfl
theorem sIx_nat(n d k:Nat):sIx n d (on (k:Int))=SL k n:=by
 show(if(k:Int)<0 then((k:Int)+(n:Int)).toNat else SL (k:Int).toNat n)=SL k n;rw[OR (by lia),Qu]
end
end HT
namespace L2
abbrev TO:=St->Hp->(a0t->Hp->Prop)->Prop
def PO(X:Cx)(e:Option Expr)(t:TO):Prop:=
 ∀(a:a0d) (s:OT) (b:St) (H:Hp) (Q:a0t->Hp->Prop),b_ X a b H s->t b H Q->
  O6 (Po X.prog X.w) X.A (evalPart e X.env) (λu D=>∃o c,b_ X a b c D/\IsPart u o/\Q o c) X.xe s
noncomputable def IK:TO:=λ_ H Q=>Q OD H
def Na(t:TE):TO:=λa H Q=>t a H λx b=>∃i,x= .int i/\Q (on i) b
theorem jG{D:a0c}:∀{E:a0g},aB (D.map V.int) E->W0 E D:=by
 induction D with
 |nil=>intro E r;rw[TZ]at r;cases r;exact .nil
 |cons n D G=>
  intro E r;rw[O0]at r;cases r with
  |cons K a=>
   obtain⟨t,e⟩:=K;subst e;exact .cons n t<|G a
section
variable{X:Cx}{e:Expr}{te:TE}{Y Z:Option Expr}{tl th:TO}{aa p2:TF}
theorem xX:PO X OD IK:=by
 intro a s b H Q I h;rw[XX];exact OG ⟨OD,H,I,.none,h⟩
theorem xW(h:PE X e te):PO X (on e) (Na te):=by
 intro a s b H Q I c;rw[evalPart_some];refine dt (h a s b H _ I c) λu g ⟨x,d,f,D,E⟩=>?_;obtain⟨i,rfl,q⟩:=E;obtain⟨t,rfl⟩:=D;exact⟨on i,d,f,.int i t,q⟩
def SlR(X:Cx)(r:V->a0t->a0t->Hp->VK->Prop):Prop:=
 ∀(a:a0d) (s:OT) (b:St) (H:Hp) (x:V) (v c d:OP) (Y Z:a0t) (f:ON) (Q:VK),b_ X a b H s->aR x v->s.heap.IsSliceOf f c d .none->IsPart c Y->IsPart d Z->r x Y Z H Q->
  ∃T g,typeLookup (.type T) "__getitem__"=Rm (on<|.builtin g)/\s.TypeIs v T/\O6 (Po X.prog X.w) X.A (getItem v<|.ref f) (EP X a b Q) X.xe s
def tSl(r:V->a0t->a0t->Hp->VK->Prop)(te:TE)(tl th:TO):TE:=λa H Q=>te a H λx b=>tl a b λl c=>th a c λu d=>r x l u d Q
theorem vT(j:SlR X r)(k:PE X e te)(m:PO X Y tl)(n:PO X Z th):PE X (.Subscript e (.Slice Y Z OD p2) aa) (tSl r te tl th):=by
 intro a s d H Q I h;refine Subscript_<|dt (k a s d H _ I h) λv o ⟨x,p,t,D,E⟩=>?_;refine wpAny_Slice<|dt (m a o d p _ t E) λf y ⟨l,B,C,G,K⟩=>dt (n a y d B _ C K) λg c ⟨u,i,F,J,M⟩=>?_;rw[XX];refine OG ?_;have L:b_ X a d i {c with heap:=c.heap.push {cls:= .type "slice",data:= .fields #[f,g,.none]}}:=F.kept (t':=c.toks) λb R q=>OH _ q;obtain⟨T,U,N,O,P⟩:=j a {c with heap:=c.heap.push {cls:= .type "slice",data:= .fields #[f,g,.none]}} d i x v f g l u c.heap.objs.size Q L D (V5 ..) G J M;show O6 (Po X.prog X.w) X.A (X0 e (.Slice Y Z OD p2) v<|.ref c.heap.objs.size) (EP X a d Q) X.xe {c with heap:=c.heap.push {cls:= .type "slice",data:= .fields #[f,g,.none]}};exact tail_any (ops:=[.ref c.heap.objs.size,v]) O N P (by with_unfolding_all rfl)
noncomputable def nK(e:a0i)(Y Z:a0t):a0i:=(e.drop<|HT.sIx e.length 0 Y).take<|HT.sIx e.length e.length Z-HT.sIx e.length 0 Y
theorem xp(e:a0i)(Y Z:a0t):(nK e Y Z).length<=e.length:=by
 unfold nK;rw[Rv,VO];lia
def zf(K:Pa):R2:=λx y H Q=>∃a b D e,x= .ref a/\y= .ref b/\g_ K H a D/\g_ K H b e/\D≠[]/\D.length+e.length<=Pe/\
 (e=[]->Q (.ref a) H)/\(e≠[]->∀p,H p=OD->Q (.ref p) (upd H p<|.tup<|D++e))
theorem aB.nil_iff(r:aB a b):b=[]↔a=[]:=by
 cases r with
 |nil=>simp
 |cons _ _=>simp
theorem Jm:fX X (RZ .Add) (zf X.K):=by
 intro d s n H x y v u Q I i j h;obtain⟨a,b,D,E,rfl,rfl,G,k,l,f,M,S⟩:=h;cases i;cases j;obtain⟨V,e,m,_⟩:=I.tuple G;obtain⟨g,c,p2,_⟩:=I.tuple k;refine HT.cat_tup m p2 (λz=>l<|e.nil_iff.mp z) (λz=>⟨.ref a,H,I,rfl,M<|c.nil_iff.mp z⟩) (λz=>?_) (by rw[<-e.length,<-c.length];exact f);refine⟨.ref s.heap.objs.size,_,I.laid (t':=s.toks) (o:= .tup<|D++E) (λb p q=>OH _ q) (OX _) ?_,rfl,S (λw=>z<|c.nil_iff.mpr w) _<|I.hok.fresh<|OX _⟩;exact⟨by rw[O8];exact f,_,e.append c,IsTup.new _ _⟩
noncomputable def m_(n:Nat)(i:Int):a0L:=if 0<=i then(if i<n then on i.toNat else OD)else if -(n:Int)<=i then on (i+n).toNat else OD
def p0{e:Type}(xs:List e)(i:Int):Option e:=(m_ xs.length i).bind λj=>xs[j]?
theorem yi(h:m_ n i=on j):seqIndex? i n=on j/\j<n/\-(n:Int)<=i/\i<n:=by
 unfold m_ at h;by_cases b:0<=i
 .rw[OS b]at h
  by_cases a:i<n
  .rw[OS a]at h
   have e:i.toNat=j:=Pn h;exact⟨by rw[WP b a,e],by lia,by lia,a⟩
  .rw[OR a]at h;cases h
 .rw[OR b]at h
  by_cases a:-(n:Int)<=i
  .rw[OS a]at h
   have e:(i+n).toNat=j:=Pn h;exact⟨by rw[Wl (by lia) a,e],by lia,a,by lia⟩
  .rw[OR a]at h;cases h
theorem sQ{E:Type}{D:List E}{i:Int}{v:E}(h:p0 D i=on v):∃j,seqIndex? i D.length=on j/\D[j]?=on v/\j<D.length/\-(D.length:Int)<=i/\i<D.length:=by
 unfold p0 at h;cases e:m_ D.length i with
 |none=>rw[e]at h;cases h
 |some j=>
  rw[e]at h;obtain⟨a,b,c,d⟩:=yi e;exact⟨j,a,h,b,c,d⟩
theorem J8{E:Type}{D:List E}{j:Nat}{v:E}(h:D[j]?=on v):p0 D (j:Int)=on v:=by
 have a:j<D.length:=(OM.mp h).1;have e:m_ D.length (j:Int)=on j:=by
  unfold m_;rw[OS (by lia),OS<|by lia];simp
 unfold p0;rw[e];exact h
def sU(b:Expr):Prop:=∀o i,subscripted b OO o i=operate [o,i] (getItem o i)
def F0(X:Cx)(r:R2):Prop:=
 ∀(c a:Expr) (b:a0d) (s:OT) (d:St) (H:Hp) (x y:V) (v u:OP) (Q:VK),b_ X b d H s->aR x v->aR y u->r x y H Q->
  subscripted a OO v u=operate [v,u] (getItem v u)->O6 (Po X.prog X.w) X.A (X0 c a v u) (EP X b d Q) X.xe s
def MtR(X:Cx)(c:String)(r:a0Q):Prop:=
 ∀(a:a0d) (s:OT) (b:St) (H:Hp) (x:V) (e:a0i) (v:OP) (D:a0g) (Q:VK),b_ X a b H s->aR x v->aB e D->r x e H Q->
  O6 (Po X.prog X.w) X.A (VL (.builtin c)<|v::D) (EP X a b Q) X.xe s
variable{a b:Expr}{C B:TE}
theorem F0.or(h:F0 X r)(b:F0 X k):F0 X (λx y H Q=>r x y H Q\/k x y H Q):=by
 intro c d f s g H x y v u Q I i j q a;rcases q with q|q
 .exact h c d f s g H x y v u Q I i j q a
 .exact b c d f s g H x y v u Q I i j q a
theorem ig(d:F0 X r)(e:PE X a C)(f:PE X b B)(D:sU b):PE X (.Subscript a b aa) (YH r C B):=by
 intro c s g H Q I h;exact Subscript_<|He e f I h λv u i x y j k l m q=>d a b c i g j x y v u Q k l m q<|D _ _
def pS(K:Pa):R2:=λx y H Q=>∃p a i v,x= .ref p/\y= .int i/\eg K H p a/\p0 a i=on v/\Q v H
def F5(K:Pa):R2:=λx y H Q=>∃p a i v,x= .ref p/\y= .int i/\g_ K H p a/\p0 a i=on v/\Q v H
theorem eK:F0 X (pS X.K):=by
 intro f g c s m H x y v u Q I A B h D;obtain⟨p,G,i,z,rfl,rfl,C,F,q⟩:=h;cases A;obtain⟨t,rfl⟩:=B;obtain⟨b,r,e,O⟩:=I.list C;obtain⟨j,d,J,P,L,h5⟩:=sQ F;obtain⟨w,n,k⟩:=r.get J;have N:=r.length;have M:=j7;have a:EP X c m Q w s:=⟨z,H,I,k,q⟩;by_cases o:0<=i
 .have l:i.toNat=j:=by
   rw[WP o h5]at d;exact Pn d
  exact item_listR e.isList o (by lia) (by rw[l];simpa using n) a D
 .have l:(i+(b.toArray.size:Int)).toNat=j:=by
   rw[Wl (by lia) L]at d;rw[O7,<-N];exact Pn d
  exact Vb (x:=w) e.isList.typeIs slot_list_getitem.lookup
   (YC (Q:=λr E=>r=w/\EP X c m Q r E) e.isList (by lia) (by rw[O7]<;>lia) (by lia) (by rw[l];simpa using n) ⟨rfl,a⟩) D
theorem Ml:F0 X (F5 X.K):=by
 intro d f c s k H x y v u Q I l m h e;obtain⟨p,G,i,z,rfl,rfl,n,o,q⟩:=h;cases l;obtain⟨t,rfl⟩:=m;obtain⟨D,r,b,J⟩:=I.tuple n;obtain⟨j,A,B,L,N,h5⟩:=sQ o;obtain⟨w,C,g⟩:=r.get B;have F:=r.length;have M:=j7;have a:EP X c k Q w s:=⟨z,H,I,g,q⟩;exact Vb (x:=w) b.typeIs slot_tuple_getitem.lookup
  (getItem_tuple (j:=j) (Q:=λr E=>r=w/\EP X c k Q r E) b (by lia) (by lia) (by rw[O7,<-F];exact A) (by simpa using C) ⟨rfl,a⟩) e
theorem zE(a:a0g)(n j:Nat)(u:OP):QW (·.setIfInBounds j u) {cls:= .type "list",data:= .seq a.toArray n}={cls:= .type "list",data:= .seq (a.set j u).toArray n}:=by
 simp[QW]
theorem b_.lst{s:OT}{xs:a0i}(I:b_ X c d H s)(h:H p=on (.lst xs)):
  ∃(a:a0g) (n:Nat),aB xs a/\s.heap.get? p=on {cls:= .type "list",data:= .seq a.toArray n}/\xs.length<=Pe:=by
 obtain⟨z,a,n,r,e⟩:=I.hok p _ h;exact⟨a,n,r,e,z⟩
theorem b_.lstUpd{s:OT}{D C:a0i}{B a:a0g}(I:b_ X j k H s)(h:H p=on (.lst D))
  (d:s.heap.get? p=on {cls:= .type "list",data:= .seq B.toArray n}) (c:f {cls:= .type "list",data:= .seq B.toArray n}={cls:= .type "list",data:= .seq a.toArray n'}) (r:aB C a) (g:C.length<=Pe) (t:Nat):
  b_ X j k (upd H p<|.lst C) {s with heap:=s.heap.update p f,toks:=t}:=by
 have e:(s.heap.update p f).get? p=on {cls:= .type "list",data:= .seq a.toArray n'}:=by
  rw[Sm f d (by rw[c]<;>rfl),c]
 refine I.write (x:=p) (e:=p) (by rw[h];trivial) (.inl rfl) (λb u i q=>(WZ _ _<|Ne.symm i).trans q) ⟨_,e⟩ ?_;exact⟨g,a,n',r,e⟩
def qK:V->V->V->Hp->(Hp->Prop)->Prop:=λo i v H Q=>∃p a k j,o= .ref p/\i= .int k/\H p=on (.lst a)/\m_ a.length k=on j/\Q (upd H p<|.lst<|a.set j v)
theorem gL:Hj X qK:=by
 intro c s C H o i v P R u Q I F J L h;obtain⟨p,b,k,j,rfl,rfl,m,N,q⟩:=h;cases F;obtain⟨t,rfl⟩:=J;obtain⟨a,n,r,f,O⟩:=I.lst m;obtain⟨d,T,w,y⟩:=yi N;have g:=r.length;have e:=j7;have A:b_ X c C (upd H p<|.lst<|b.set j v) {s with heap:=s.heap.update p (QW (·.setIfInBounds j u))}:=
  I.lstUpd m f (zE a n j u) (r.set L j) (by rw[QC];exact O) s.toks
 by_cases B:0<=k
 .have l:k.toNat=j:=by
   rw[WP B y]at d;exact Pn d
  exact PySem.W.ki_setAt f B (by lia) (by rw[O7,<-g];exact y) (by rw[l];exact⟨_,A,q⟩)
 .have l:(k+(a.toArray.size:Int)).toNat=j:=by
   rw[Wl (by lia) w]at d;rw[O7,<-g];exact Pn d
  exact PySem.W.ki_setBack f (by lia) (by rw[O7,<-g];exact w) (by lia) (by rw[l];exact⟨_,A,q⟩)
theorem vp(Y Z:a0t)(n:Nat):(SR Y Z OD n).1=((HT.sIx n 0 Y:Nat):Int)/\(SR Y Z OD n).2.1=((HT.sIx n n Z:Nat):Int)/\(SR Y Z OD n).2.2=1:=by
 refine⟨?_,?_,rfl⟩
 .cases Y with
  |none=>simp[SR,HT.sIx]
  |some i=>
   simp only[SR,HT.sIx,Yd,show(1:Int)>0 by decide,P8];by_cases h:i<0
   .simp only[h,P8]<;>lia
   .simp only[h,Qe]<;>lia
 .cases Z with
  |none=>simp[SR,HT.sIx]
  |some i=>
   simp only[SR,HT.sIx,Yd,show(1:Int)>0 by decide,P8];by_cases h:i<0
   .simp only[h,P8]<;>lia
   .simp only[h,Qe]<;>lia
theorem uw(a:a0g)(Y Z:a0t):Yp a.toArray Y Z OD=((a.drop<|HT.sIx a.length 0 Y).take<|HT.sIx a.length a.length Z-HT.sIx a.length 0 Y).toArray:=by
 obtain⟨c,d,f⟩:=vp Y Z a.toArray.size;unfold Yp;rw[c,d,f];simp only[sliceRange_one,pick_run,O7]<;>rfl
def Z5(K:Pa):V->a0t->a0t->Hp->VK->Prop:=λx Y Z H Q=>∃a b,x= .ref a/\eg K H a b/\∀p,H p=OD->Q (.ref p) (upd H p<|.lst<|nK b Y Z)
theorem xH:SlR X (Z5 X.K):=by
 intro d s l H x v m n Y Z p Q I g B C i h;obtain⟨a,e,rfl,j,q⟩:=h;cases g;obtain⟨D,r,f,k⟩:=I.list j;have c:=r.length;refine⟨"list",_,slot_list_getitem.lookup,f.isList.typeIs,?_⟩;refine X1 f.isList B C i .none (by simp) ?_ (by rw[O7]<;>lia)
 rw[uw,<-c];refine⟨.ref s.heap.objs.size,_,I.laid (t':=s.toks) (o:= .lst<|nK e Y Z) (λb t q=>OH _ q) (OX _) ?_,rfl,q _<|I.hok.fresh<|OX _⟩;exact⟨Pl (xp e Y Z) k,_,0,(r.drop<|HT.sIx e.length 0 Y).take<|HT.sIx e.length e.length Z-HT.sIx e.length 0 Y,O5 _ rfl⟩
noncomputable def fL:V->Bool
 | .non=>OK
 | .bl _=>OK
 | .int _=>OK
 | .str _=>OK
 |_=>OO
noncomputable def x0:V->V->Bool
 | .non,.non=>OK
 | .bl a,.bl b=>a==b
 | .bl a,.int b=>(if a then 1 else 0)==b
 | .int a,.bl b=>a==(if b then 1 else 0)
 | .int a,.int b=>a==b
 | .str a,.str b=>a==b
 |_,_=>OO
theorem MF(d:aR y u)(c:aR x v)(g:fL y=OK)(f:fL x=OK):SeqAt.EqAt A s u v (x0 y x):=by
 cases y with
 |non=>
  cases d;cases x with
  |non=>cases c;exact SeqAt.EqAt.same _
  |bl b=>cases c;exact SeqAt.EqAt.none_bool b
  |int b=>obtain⟨t,rfl⟩:=c;exact SeqAt.EqAt.none_int b t
  |str b=>obtain⟨t,rfl⟩:=c;exact SeqAt.EqAt.none_str b t
  |_=>exact Pf (show OO=OK from f) OY
 |bl a=>
  cases d;cases x with
  |non=>cases c;exact SeqAt.EqAt.bool_none a
  |bl b=>cases c;exact SeqAt.EqAt.bool_bool a b
  |int b=>obtain⟨t,rfl⟩:=c;exact SeqAt.EqAt.bool_int a b t
  |str b=>obtain⟨t,rfl⟩:=c;exact SeqAt.EqAt.bool_str a b t
  |_=>exact Pf (show OO=OK from f) OY
 |int a=>
  obtain⟨e,rfl⟩:=d;cases x with
  |non=>cases c;exact SeqAt.EqAt.int_none a e
  |bl b=>cases c;exact SeqAt.EqAt.int_bool a e b
  |int b=>obtain⟨t,rfl⟩:=c;exact SeqAt.EqAt.int_int a e b t
  |str b=>obtain⟨t,rfl⟩:=c;exact SeqAt.EqAt.int_str a e b t
  |_=>exact Pf (show OO=OK from f) OY
 |str a=>
  obtain⟨e,rfl⟩:=d;cases x with
  |non=>cases c;exact SeqAt.EqAt.str_none a e
  |bl b=>cases c;exact SeqAt.EqAt.str_bool a e b
  |int b=>obtain⟨t,rfl⟩:=c;exact SeqAt.EqAt.str_int a e b t
  |str b=>obtain⟨t,rfl⟩:=c;exact SeqAt.EqAt.str_str a e b t
  |_=>exact Pf (show OO=OK from f) OY
 |_=>exact Pf (show OO=OK from g) OY
def pj(x:V)(u:OP):Bool:=match u with
 | .none=>x0 .non x
 | .bool b=>x0 (.bl b) x
 | .int i _=>x0 (.int i) x
 | .str z _=>x0 (.str z) x
 |_=>OO
theorem wP(r:aR y u)(f:fL y=OK):pj x u=x0 y x:=by
 cases y with
 |non=>cases r;rfl
 |bl b=>cases r;rfl
 |int i=>obtain⟨t,rfl⟩:=r;rfl
 |str z=>obtain⟨t,rfl⟩:=r;rfl
 |_=>exact Pf (show OO=OK from f) OY
theorem lP:∀{a:a0i} {b:a0g},aB a b->a.all fL=OK->b.any (pj x)=a.any λy=>x0 y x
 |_,_,.nil,_=>rfl
 |y::a,u::b,.cons r t,f=>by
  rw[Tu,Pr]at f;rw[Uy,Uy,wP r f.1,lP t f.2]
theorem iE(c:aR x v)(d:fL x=OK):∀{a:a0i} {b:a0g},aB a b->a.all fL=OK->∀u∈b,SeqAt.EqAt A s u v<|pj x u
 |_,_,.nil,_=>λu hu=>by cases hu
 |y::a,u::b,.cons r t,f=>λg hu=>by
  rw[Tu,Pr]at f;rcases OQ.mp hu with rfl|hu
  .rw[wP r f.1];exact MF r c f.1 d
  .exact iE c d t f.2 g hu
def ZB(x:V)(a:a0i):Bool:=a.any λy=>x0 y x
def Z8(K:Pa)(b:Bool):R2:=λx y H Q=>∃p a,y= .ref p/\(eg K H p a\/g_ K H p a)/\fL x=OK/\a.all fL=OK/\Q (.bl (if b then !ZB x a else ZB x a)) H
theorem DI:fX X (Qq .In) (Z8 X.K OO):=by
 intro d s k H x y v u Q I f i h;obtain⟨p,b,rfl,hq,g,a,q⟩:=h;cases i;rcases hq with hq|hq
 .obtain⟨its,r,pl,j⟩:=I.list hq
  refine SeqAt.in_listAt (pj x) pl.isList (λw c=>iE f g r a w<|by simpa using c) ⟨.bl _,H,I,rfl,?_⟩;rw[show its.toArray.any (pj x)=its.any (pj x) by simp,lP r a];exact q
 .obtain⟨its,r,pl,j⟩:=I.tuple hq
  refine SeqAt.in_tupleAt (pj x) pl (λw c=>iE f g r a w<|by simpa using c) ⟨.bl _,H,I,rfl,?_⟩;rw[show its.toArray.any (pj x)=its.any (pj x) by simp,lP r a];exact q
theorem nh:fX X (Qq .NotIn) (Z8 X.K OK):=by
 intro d s k H x y v u Q I f i h;obtain⟨p,b,rfl,hq,g,a,q⟩:=h;cases i;rcases hq with hq|hq
 .obtain⟨its,r,pl,j⟩:=I.list hq
  refine SeqAt.notIn_listAt (pj x) pl.isList (λw c=>iE f g r a w<|by simpa using c) ⟨.bl _,H,I,rfl,?_⟩;rw[show its.toArray.any (pj x)=its.any (pj x) by simp,lP r a];exact q
 .obtain⟨its,r,pl,j⟩:=I.tuple hq
  refine SeqAt.notIn_tupleAt (pj x) pl (λw c=>iE f g r a w<|by simpa using c) ⟨.bl _,H,I,rfl,?_⟩;rw[show its.toArray.any (pj x)=its.any (pj x) by simp,lP r a];exact q
theorem nU:cK X (.builtin "len") (λb H Q=>∃p a,b=[.ref p]/\(eg X.K H p a\/g_ X.K H p a)/\Q (.int a.length) H):=by
 intro f s j H b e Q I r h;obtain⟨p,a,rfl,hq,q⟩:=h;obtain⟨u,rfl,g⟩:=hV r;cases g;have B:=j7;rcases hq with hq|hq
 .obtain⟨its,d,pl,i⟩:=I.list hq
  have c:=d.length;exact Calls.call_len_list pl.isList (by simp only[O7]<;>lia) ⟨.int a.length,H,I.tok _,⟨s.toks+1,by rw[O7,c]⟩,q⟩
 .obtain⟨its,d,pl,i⟩:=I.tuple hq
  have c:=d.length;exact len_tuple pl (by simp only[O7]<;>lia) ⟨.int a.length,H,I.tok _,⟨s.toks+1,by rw[O7,c]⟩,q⟩
theorem dD:cK X (.type "list") (λM H Q=>∃p C,M=[.ref p]/\(eg X.K H p C\/g_ X.K H p C)/\∀l,H l=OD->Q (.ref l) (upd H l<|.lst C)):=by
 intro f s t H M S Q I r h;obtain⟨p,C,rfl,hq,q⟩:=h;obtain⟨u,rfl,v⟩:=hV r;cases v
 have D:∀(a:a0g),aB C a->C.length<=Pe->∀(B:PZ) (c:Nat),(∀b m,s.heap.get? b=on m->B.get? b=on m)->
   B.get? s.heap.objs.size=on {cls:= .type "list",dict:=OD,data:= .seq a.toArray c,slots:=#[]}->EP X f t Q (.ref s.heap.objs.size) {s with heap:=B}:=λa d g B c E e=>
  ⟨.ref s.heap.objs.size,_,I.laid (t':=s.toks) E (OX _) (show cq X.prog X.w _ B _ (.lst C)from⟨g,a,c,d,e⟩),rfl,q _<|I.hok.fresh<|OX _⟩
 rcases hq with hq|hq
 .obtain⟨a,d,pl,g⟩:=I.list hq
  have i:=d.length;obtain⟨o,j,k,n,G⟩:=pl.isList;exact call_list_seq p (.inl rfl) j k G (λB c E e=>D a d g B c E e) (by simp only[O7]<;>lia)
 .obtain⟨a,d,pl,g⟩:=I.tuple hq
  have i:=d.length;obtain⟨o,j,k,n,G⟩:=pl;exact call_list_seq p (.inr rfl) j k G (λB c E e=>D a d g B c E e) (by simp only[O7]<;>lia)
theorem dP:cK X (.type "tuple") (λC H Q=>∃p a,C=[.ref p]/\((eg X.K H p a/\∀l,H l=OD->Q (.ref l) (upd H l<|.tup a))\/(g_ X.K H p a/\Q (.ref p) H))):=by
 intro c s g H C E Q I r h;obtain⟨p,a,rfl,h⟩:=h;obtain⟨u,rfl,m⟩:=hV r;cases m;rcases h with⟨d,q⟩|⟨d,q⟩
 .obtain⟨its,f,pl,i⟩:=I.list d
  have j:=f.length;refine call_tuple_list pl.isList (λB D=>?_) (by simp only[O7]<;>lia)
  have k:b_ X c g H {s with heap:=B}:=I.kept (t':=s.toks) D;have n:b_ X c g (upd H B.objs.size<|.tup a) {s with heap:=B.push {cls:= .type "tuple",data:= .seq its.toArray}}:=
   k.laid (t':=s.toks) (λb o e=>OH _ e) (OX _) (show cq X.prog X.w _ _ _ (.tup a)from⟨i,its,f,IsTup.new _ _⟩)
  exact⟨.ref B.objs.size,_,n,rfl,q _<|k.hok.fresh<|OX _⟩
 .obtain⟨its,f,pl,i⟩:=I.tuple d
  exact call_tuple_same pl ⟨.ref p,H,I,rfl,q⟩
def tyV(K:Pa)(T:String)(x:V)(H:Hp):Prop:=match x with
 | .str _=>T="str"
 | .int _=>T="int"
 | .ref p=>(T="list"/\∃a,eg K H p a)\/(T="tuple"/\∃o,K.lookup p=on o/\o.cls= .type "tuple"/\o.dict=OD)
 |_=>False
theorem Kh{s:OT}(I:b_ X j k H s)(r:aR x v)(b:tyV X.K T x H):
  s.TypeIs v T/\∀a,v= .ref a->∃d,s.heap.get? a=on d/\d.dict=OD:=by
 cases x with
 |str z=>
  obtain⟨t,rfl⟩:=r;cases(show T="str"from b);exact⟨typeIs_str s z t,λ_ e=>nomatch e⟩
 |int i=>
  obtain⟨t,rfl⟩:=r;cases(show T="int"from b);exact⟨typeIs_int s i t,λ_ e=>nomatch e⟩
 |ref p=>
  cases r;rcases b with⟨rfl,C,g⟩|⟨rfl,o,f,h,B⟩
  .obtain⟨its,_,pl,_⟩:=I.list g
   refine⟨pl.isList.typeIs,λa e=>?_⟩;cases e;obtain⟨o,n,e,c,B,_⟩:=pl;exact⟨o,e,B⟩
  .refine⟨⟨o,I.kIn p o f,h⟩,λa e=>?_⟩
   cases e;exact⟨o,I.kIn _ o f,B⟩
 |_=>exact Ry b
def tBM(K:Pa)(T:String)(r:a0Q)(a:TE)(t:TA):TE:=λc H Q=>a c H λx d=>tyV K T x d/\t c d λb f=>r x b f Q
variable{o:Expr}{J:List Expr}{N:TE}{t:TA}{b:PP}{z a:TF}{T L:String}{r:a0Q}
theorem iU(n:PlainAttrs T)(D:Slot T b L)(j:typeOf (.builtin L)=Rm (.type "method_descriptor"))(G:MtR X L r)(p:PE X o N)(M:PA X (e::J) t)
  (f:SB o b X.env (Qh o X.env)=Qh o X.env:=by rfl)
  (i:((Q5 a<|O1 (e::J) X.env).all (λx=>!x.1)&&(Sc a<|Q6 [] X.env).all (λx=>x.1.isSome)
   &&decide ((e::J).length+([]:a0Z).length+(if([]:a0Z).isEmpty then 0 else 1)<30))=OK:=by rfl)
  (g:(z.endLine==a.line)=OK:=by rfl) (S:b0a X e J:=by rfl) (d:b0b X a J:=by rfl):
  PE X (.Call (.Attribute o b z) (e::J) [] a) (tBM X.K T r N t):=by
 intro c s k H Q I h;refine YB f i g rfl<|dt (p c s k H _ I h) λv q ⟨x,u,l,E,V,Y⟩=>?_;obtain⟨w,y⟩:=Kh l E V;refine⟨T,L,n,D,j,w,y,?_⟩;have m:=M a c q k u _ l Y;rw[S]at m⊢;refine UL (by show(OO||(Q5 a (O1 J X.env)).any (·.1))=OO;rw[d]<;>rfl) (W5 ?_)
 exact dt m λZ A ⟨O,B,C,F,P⟩=>G c A k B x O v Z Q C E F P
def MtM(X:Cx)(L:String)(r:a0Q):Prop:=
 ∀(c:a0d) (s:OT) (d:St) (H:Hp) (x:V) (a:a0i) (v:OP) (b:a0g) (Q:VK),b_ X c d H s->aR x v->aB a b->r x a H Q->
  O6 (Po X.prog X.w) X.A (VL (.builtin L)<|v::b) (EP X c d Q) X.xe s
theorem aB.one:∀{x:V} {a:a0g},aB [x] a->∃u,a=[u]/\aR x u
 |_,_,.cons r .nil=>⟨_,rfl,r⟩
theorem aB.reverse{a:a0i}{b:a0g}(h:aB a b):aB a.reverse b.reverse:=by
 induction h with
 |nil=>exact .nil
 |cons r t e=>rw[Us,Us];exact aB.append e<|.cons r .nil
theorem aB.rep(h:aB c d):∀k:Nat,aB (Pg k c).flatten (Pg k d).flatten
 |0=> .nil
 |k+1=>by
  rw[QN,QN,RN,RN];exact aB.append h<|aB.rep h k
theorem ub(a:a0g):∀(k:Nat) (b:a0g),
  Vr (λc d=>c++d) b.toArray (Pg k a.toArray)=(b++(Pg k a).flatten).toArray
 |0,b=>by simp
 |k+1,b=>by
  have e:b.toArray++a.toArray=(b++a).toArray:=by simp
  have f:(b++a)++(Pg k a).flatten=b++(Pg (k+1) a).flatten:=by
   rw[QN,RN,Ql]
  rw[<-f,<-ub a k (b++a),<-e,QN,List.foldl_cons]
end
section
variable{X:Cx}{R:a0d}{P:St}{H:Hp}{s:OT}{l b:ON}{xs ys B:a0i}
theorem b_.lset{b its':a0g}(I:b_ X R P H s)(a:H l=on (.lst xs))
  (e:s.heap.get? l=on {cls:= .type "list",data:= .seq b.toArray n}) (c:f b.toArray=its'.toArray) (d:aB ys its') (g:ys.length<=Pe):
  b_ X R P (upd H l<|.lst ys) {s with heap:=s.heap.update l<|QW f,toks:=k}:=by
 have q:=PySem.IsL.update e f;rw[c]at q;refine I.write (x:=l) (e:=l) (by rw[a];exact trivial) (.inl rfl) (λj u h i=>(WZ s.heap (QW f)<|Ne.symm h).trans i) ⟨_,q⟩ ?_;exact⟨g,its',_,d,q⟩
theorem b_.lnew{its:a0g}(I:b_ X R P H s)(a:aB ys its)(c:ys.length<=Pe):
  b_ X R P (upd H s.heap.objs.size<|.lst ys) {s with heap:=s.heap.push {cls:= .type "list",data:= .seq its.toArray},toks:=t'}:=
 I.laid (λ_ _ q=>OH _ q) (OX _) ⟨c,its,0,a,O5 _ rfl⟩
theorem b_.fresh(I:b_ X R P H s):H s.heap.objs.size=OD:=I.hok.fresh<|OX _
theorem b_.lstM(I:b_ X R P H s)(a:H l=on (.lst xs)):xs.length<=Pe/\∃(b:a0g) (n:Nat),aB xs b/\xs.length=b.length/\s.heap.get? l=on {cls:= .type "list",data:= .seq b.toArray n}:=by
 obtain⟨z,b,n,r,e⟩:=I.hok l _ a;exact⟨z,b,n,r,r.length,e⟩
theorem Gj(h:n<=Pe):TK n=OO:=by
 unfold TK;exact Pt (by lia)
def xR:V->a0i->Hp->VK->Prop:=λx b H Q=>∃l xs y,x= .ref l/\b=[y]/\H l=on (.lst xs)/\xs.length<Pe/\Q .non (upd H l<|.lst<|xs++[y])
theorem dQ:MtM X "list.append" xR:=by
 intro R s P H x B v D Q I c d h;obtain⟨l,xs,y,rfl,rfl,a,g,q⟩:=h;cases c;obtain⟨u,rfl,f⟩:=d.one;obtain⟨z,b,n,r,i,e⟩:=I.lstM a;refine VY F.slot_list_append ⟨_,e,rfl⟩ F.entry_list_append (Yq _ _) (Yj l b.toArray n u<|by rw[O7];lia) ⟨e,?_⟩;refine⟨.non,_,I.lset (its':=b++[u]) a e (by simp) (r.append<|.cons f .nil) ?_,rfl,q⟩;rw[O8,PX];lia
noncomputable def Z_:R2:=λx y H Q=>∃l b xs B,x= .ref l/\y= .ref b/\H l=on (.lst xs)/\H b=on (.lst B)/\xs.length+B.length<=Pe/\∀p,H p=OD->Q (.ref p) (upd H p<|.lst<|xs++B)
theorem Lg:fX X (RZ .Add) Z_:=by
 intro R s P H x y v u Q I c d h;obtain⟨l,b,xs,B,rfl,rfl,f,hB,m,q⟩:=h;cases c;cases d;obtain⟨z,D,n,r,o,e⟩:=I.lstM f;obtain⟨p,a,t,g,i,j⟩:=I.lstM hB;refine XS e j ?_ (by rw[O7,O7];lia);have k:D.toArray++a.toArray=(D++a).toArray:=by simp
 rw[k];exact⟨.ref _,_,I.lnew (t':=s.toks) (r.append g) (by rw[O8];lia),rfl,q _ I.fresh⟩
noncomputable def Z6:R2:=λx y H Q=>∃l k xs,x= .ref l/\y= .int k/\H l=on (.lst xs)/\-(2^63)<=k/\k<2^63/\xs.length*k.toNat<=Pe/\
 ∀p,H p=OD->Q (.ref p) (upd H p<|.lst (Pg k.toNat xs).flatten)
theorem JE{b:Type}(xs:List b)(k:Nat):(Pg k xs).flatten.length=k*xs.length:=by
 induction k with
 |zero=>simp
 |succ k l=>rw[QN,RN,O8,l,Xb,W8]
theorem La:fX X (RZ .Mult) Z6:=by
 intro R s P H x y v u Q I w A h;obtain⟨l,k,xs,rfl,rfl,B,C,J,p,q⟩:=h;cases w;obtain⟨t,rfl⟩:=A;obtain⟨z,b,n,r,L,e⟩:=I.lstM B;have d:b.toArray.size*k.toNat<=Pe:=by rw[O7,<-L];exact p
 have f:¬b.toArray.size*k.toNat>(2^63-1)/8:=by
  have:(Pe:Nat)<=(2^63-1)/8:=by decide
  lia
 have g:¬(!Builtin.List.listFitsIndex k)=OK:=by
  rw[fitsIndex_both C J];exact OY
 have c:¬TK (b.toArray.size*k.toNat)=OK:=by
  rw[Gj d];exact OY
 have i:Vr (λj o=>j++o) #[] (Pg (if b.toArray.isEmpty=OK then 0 else k.toNat) b.toArray)=(Pg k.toNat b).flatten.toArray:=by
  have N:∀m:Nat,Vr (λj o=>j++o) #[] (Pg m b.toArray)=(Pg m b).flatten.toArray:=λm=>by
   have:=ub b m [];rw[RM]at this;exact this
  rw[N];cases b with
  |nil=>simp
  |cons a O=>rw[OR<|by simp]
 refine wpAny_binaryOp_repeat_ref (T:="list") (U:="int") (by decide) ⟨_,e,rfl⟩ (λD=>typeIs_int D k t) noFill_list_mul F.fills_int_mul F.slot_int_rmul repeat_list F.slot_int_index.lookup
  (VY F.slot_int_rmul (typeIs_int s k t) F.entry_int_rmul (F.args_int_rmul_2 _ _) (int___rmul___int_list k t l b.toArray n)
   ⟨e,rfl,⟨_,e,rfl⟩,VY F.slot_list_mul ⟨_,e,rfl⟩ F.entry_list_mul (F.args_list_mul_2 _ _) (AutoListH.list___mul___list_int_3 l b.toArray n k t g f c) ⟨e,?_⟩⟩)
 rw[i];exact⟨.ref _,_,I.lnew (t':=s.toks) (r.rep k.toNat) (by rw[JE,RQ];exact p),rfl,q _ I.fresh⟩
variable{a:Py}{w:PD}{A:Qc}{E:a0f}
end
end L2
namespace Att
open PySem.W PySem.Calls
theorem rf:∀(D:a0c) (E:a0g),WellAll P h E (D.map WData.int)->W0 E D:=by
 intro D
 induction D with
 |nil=>
  intro E w;rw[TZ]at w;cases w;exact .nil
 |cons n D G=>
  intro E w;rw[O0]at w;cases w with
  |cons a b=>
   cases a;exact .cons _ _<|G _ b
theorem CH{l:OpenLaw}(G:l.most=on n){h:PZ}
  (b:l.row.toRowW.claim.pre args=OK) (f:WellAll P h vals args):
  ∃a E D,vals=[Pc a]/\args=[WData.list<|D.map WData.int]/\h.get? a=on {cls:= .type "list",data:= .seq E.toArray}/\W0 E D/\D.length<=n:=by
 have hsh:WShape.hasAll [] args [.list .int]=OK:=(pre_splitW b).1;have g:l.pre.holds [] {args:=args}=OK:=(pre_splitW b).2;obtain⟨d,r,rfl,i,j⟩:=hasAllW_cons hsh;obtain rfl:=hasAllW_nil j;obtain⟨K,rfl,k⟩:=hasW_list i;obtain⟨D,rfl⟩:=items_int k;have c:D.length<=n:=by
  unfold OpenLaw.pre at g;have e:(WTm.not<|.lt (.lit<|.int (n:Int))<|.len<|.arg 0).holds [] {args:=[.list<|D.map .int]}=OK:=by
   have e:=(holds_andW g).1;rw[G]at e;exact e
  have h5:=condW_of e<|w_not<|w_lt w_lit<|w_len_list<|w_arg rfl;rw[OC]at h5;refine Nat.le_of_not_lt λq=>?_;have m:(n:Int)<((D.length:Nat):Int):=by lia
  first
   |(rw[O3 m]at h5;exact Pf h5 (by decide))
   |(simp at h5;lia)
 cases f with
 |cons o p=>
  cases p;cases o with
  |list ho hall=>exact⟨_,_,D,rfl,rfl,ho,rf D _ hall,c⟩
theorem DB(l:OpenLaw)(args:List WData):l.row.toRowW.claim.post args (.bool OK) args=OK:=
 postW_of (r:=l.row.toRowW) (X:=(OK==OK))
  (show WShape.has [] (.bool OK) .bool=OK by first|rfl|decide|simp[WShape.has,WShape.arms,WShape.armsAll])
  (show(WTm.eq .res<|.lit<|.bool OK).value [] {args:=args,res:=on<|.bool OK,after:=args}=on (.bool<|OK==OK)from w_eq_bool (w_res rfl) w_lit) rfl
theorem attach_call{l:OpenLaw}{d:DefRec}
  (z:l.most=on n) (k:d.params.defaults=[])
  (VL:∀(w:PD) (D b:OT) (K m:a0j) (g:ON) (o:Qk) (p M c:OP) (a:ON) (E:a0g) (S:a0c),
   Ground q loose [] XP w D K m b.heap->YP w b.heap->
   b.heap.get? g=on o->o.data= .func (docDef d.name d.params d.body d.scope p M c)->b.heap.CodeRec M d.name->K d.name=on (.ref g)->
   b.heap.get? a=on {cls:= .type "list",data:= .seq E.toArray}->W0 E S->S.length<=n->b.gens=#[]->
   SI (Po l.prog w) Wf (.call (.ref g) ⟨[.ref a],[]⟩) (λr V=>r= .ok (.ret<|.bool OK)/\OldK b.heap V.heap/\V.os=b.os/\Um V.gens) b):
  WalkO q loose XP YP l.row.toRowW d [] (λf E=>XV f E):=by
 intro w D b K m G Y g o p M c B C F Q t y u H s x T h A I v J;obtain rfl:B= .none:=Dflts.none y k;obtain rfl:C= .none:=Dflts.noKw y;obtain⟨a,E,S,rfl,rfl,i,e,j⟩:=CH z h v;refine enter_call<|SW (VL w D b K m g o p M c a E S G Y F (fd_plain Q) t u i e j H) λr V L=>?_;obtain⟨rfl,N,O,P⟩:=L;exact⟨.inl ⟨.bool OK,.bool OK,[],rfl,λ_=>rfl,.bool OK,DB l _,λ_=>⟨US,λ_ R=>(nomatch R)⟩⟩,N,O,P⟩
section
variable{a:Py}{w:PD}{A:Qc}{E:a0f}{s:OT}{K:Pa}
end
end Att
namespace L2
theorem sX:∀{D:a0g} {E:a0c},W0 D E->aB (E.map V.int) D
 |_,_,.nil=> .nil
 |_,_,.cons n t h=> .cons ⟨t,rfl⟩<|sX h
def Hk(H:Hp):Prop:=∀b,H b=OD\/∃o D,H b=on (.frz o<|.lst D)
theorem GH{K:Pa}{c:OT}{G:a0g}{M:a0c}
  (R:K.In c.heap) (p:c.heap.Ns Rh mg) (g:c.heap.Ns Xg mb) (I:∀x:PP,x≠"__name__"->mb x=Su x) (t:c.heap.NoLimit) (hg:c.gens=#[])
  (ha:c.heap.get? a=on {cls:= .type "list",data:= .seq G.toArray}) (T:W0 G M) (U:M.length<=Pe) (hr:dv k Wf)
  (F:∀D:PZ,K.In D->D.Ns Rh mg->fw P w K mg D CX k fa fd [x] sp) (l:∀(s:OT) (u:OP),VC s fd ⟨[u],[]⟩ [(x,u)])
  (J:∀H:Hp,Hk H->eg K H a (M.map V.int)->sp [.ref a] H (λv _=>v= .bl OK) λ_ _ _=>False)
  (L:∀H e E,CX [] H c (λ_ _ _=>False) e E->False):
  SI (Po P w) Wf (.call (.ref fa) ⟨[.ref a],[]⟩) (λr E=>r= .ok (.ret<|.bool OK)/\OldK c.heap E.heap/\E.os=c.os/\Um E.gens) c:=by
 have W:=sX T;have y:=T.length
 --from an abstract heap in which nothing but the script may be tracked
 have j:∀H:Hp,Hk H->eg K H a (M.map V.int)->k_ P w H c.heap->(∀b,H b≠OD->b=a)->(H a≠OD->K.lookup a=OD)->
   SI (Po P w) Wf (.call (.ref fa) ⟨[.ref a],[]⟩) (λr E=>r= .ok (.ret<|.bool OK)/\OldK c.heap E.heap/\E.os=c.os/\Um E.gens) c:=by
  intro H X hS S Y hK;have f:∀{b:ON} {o:Qk},c.heap.get? b=on o->H b=OD->(mw c.heap H).get? b=on o:=λe n=>GU e n;have N:∀{b:ON} {o:Qk} {es:Array Ti} {ep:Nat},c.heap.get? b=on o->o.data= .dict es ep->H b=OD:=λ{b o es ep} e d=>by
   cases q:H b with
   |none=>rfl
   |some u=>
    have O:b=a:=Y b (by rw[q];simp);subst O;rw[ha]at e;cases e;have d':Data.seq G.toArray _=Data.dict es ep:=d;cases d'
  have i:∀{b:ON} {m:a0j},c.heap.Ns b m->(mw c.heap H).Ns b m:=λ{b m} ⟨o,es,ep,e,d,r⟩=>⟨o,es,ep,f e<|N e d,d,r⟩;have A:K.In (mw c.heap H):=λb o e=>f (R b o e) (by
   cases q:H b with
   |none=>rfl
   |some u=>
    have O:b=a:=Y b (by rw[q];simp);subst O;rw[hK<|by rw[q];simp]at e;cases e)
  have hM:Mod K mg (mw c.heap H):=⟨A,i p,⟨mb,i g,I⟩,let ⟨mc,h1,h2⟩:=t;⟨mc,i h1,h2⟩⟩
  have e0:sA P w K mg (mw c.heap H) Wf [] c H:=⟨rfl,hM,λb o e=>Jq e,Nat.le_of_eq<|ET _ _,trivial,λb g=>Pf (show b∈([]:a0o)from g) (by simp),S,.of_eq hg⟩;refine SW ((F _ A<|i p).run Wf [] c H ⟨[.ref a],[]⟩ [.ref a] [.ref a] _ _ hr e0 (l c<|.ref a) (.cons rfl .nil)<|J H X hS) λr E h=>?_;cases r with
  |error e=>exact(L H e E h).elim
  |ok fl=>
   cases fl with
   |next=>exact Ry h
   |brk=>exact Ry h
   |cont=>exact Ry h
   |ret u=>
    obtain⟨v,H',os,aa,un,B,r',q⟩:=h;have q':v= .bl OK:=q;subst q';obtain rfl:u=Vn OK:=r';refine⟨rfl,OldK.of_keep λb o e=>?_,os,aa⟩;cases q:H b with
    |none=>exact un.keep b o e q (by intro z;exact Pf (show b∈([]:a0o)from z)<|by simp) (by simp)
    |some u=>
     rcases X b with z|⟨ob,xs,z⟩
     .rw[q]at z;cases z
     .have z2:=un.frzs b ob _ z
      obtain⟨Z,_⟩:=S b _ z;obtain⟨e2,_⟩:=B b _ z2;rw[e]at Z;cases Z;exact e2
 cases Q:K.lookup a with
 |some o=>
  --the script is one of the module's own objects
  have e:=R a o Q;rw[ha]at e;cases e;refine j (λ_=>OD) (λ_=> .inl rfl) (.inr ⟨_,G.toArray,_,Q,rfl,rfl,rfl,by rw[O7,y];exact U,by simpa using W⟩) (λb u z=>by have C:(OD:Option HO)=on u:=z;cases C) (λb z=>Pf rfl z) λz=>Pf rfl z
 |none=>
  refine j (λb=>if b=a then on (.frz {cls:= .type "list",data:= .seq G.toArray} (.lst<|M.map V.int))else OD) (λb=>?_) (.inl<|.inr ⟨{cls:= .type "list",data:= .seq G.toArray},OS rfl⟩) (λb u z=>?_) (λb z=>?_) λ_=>Q
  .by_cases g:b=a
   .exact .inr ⟨_,_,OS g⟩
   .exact .inl (OR g)
  .by_cases g:b=a
   .have C:=(OS g).symm.trans z
    cases C;subst g;exact⟨ha,by rw[OC];exact U,G,_,W,ha⟩
   .have C:=(OR g).symm.trans z
    cases C
  .by_cases g:b=a
   .exact g
   .exact Pf (OR g) z
theorem walk_of{l:PySem.W.OpenLaw}{n k:Nat}{q:Py}{E:a0h}{XP:(PP->Option OP)->PZ->Prop}{YP:PD->PZ->Prop}{d:DefRec}{K:WA->Pa}{CX:PD->G_}{sp:PD->Sp}{x:PP}
  (hn:l.most=on n) (r:n<=Pe) (t:d.params.defaults=[]) (J:dv k Wf)
  (L:∀(w:PD) (h:PZ),YP w h->(K w.params).In h)
  (F:∀(w:PD) (M:a0j) (p:ON) (h:PZ),(K w.params).In h->h.Ns Rh M->M d.name=on (.ref p)->
   ∃B:Pd,(∀(s:OT) (u:OP),VC s B ⟨[u],[]⟩ [(x,u)])/\
    ∀D:PZ,(K w.params).In D->D.Ns Rh M->fw l.prog w (K w.params) M D (CX w) k p B [x] (sp w))
  (y:∀(w:PD) (H:Hp) (a:ON) (S:a0c),S.length<=n->Hk H->eg (K w.params) H a (S.map V.int)->sp w [.ref a] H (λv _=>v= .bl OK) λ_ _ _=>False)
  (A:∀(w:PD) (H:Hp) (s:OT) (e:OP) (z:OT),CX w [] H s (λ_ _ _=>False) e z->False):
  PySem.W.WalkO q E XP YP l.row.toRowW d [] (λf vs=>XV f vs):=by
 refine Att.attach_call hn t λw aa j M X p o Z cd N a vs S G Y ho hd O C m i c P=>?_;have I:=L w _ Y;obtain⟨B,Q,hF⟩:=F w M p _ I G.T.g C;exact GH I G.T.g G.T.b G.T.builtins G.T.nolimit P m i (Pl c r) J hF Q (λH R U=>y w H a S c R U) λH e z=>A w H j e z
noncomputable def eL(s:Qd)(j:Nat):Qd:=match s with
 | .ClassDef _ _ _ body _ _ _ _ _ _ _=>body.getD j<|.Pass ⟨0,0,0,0⟩
 |_=> .Pass ⟨0,0,0,0⟩
noncomputable def jK(s:Qd):Arguments:=match s with
 | .FunctionDef _ a _ _ _ _ _ _ _ _=>a
 |_=>{posonlyargs:=[],args:=[],vararg:=OD,kwonlyargs:=[],kw_defaults:=[],kwarg:=OD,defaults:=[]}
noncomputable def cI(s:Qd):a0R:=match s with
 | .FunctionDef _ _ b _ _ _ _ _ _ _=>b
 |_=>[]
noncomputable def ag(s:Qd):Scope:=match s with
 | .FunctionDef _ _ _ _ _ _ sc _ _ _=>sc
 |_=>{kind:= .function,names:=[],isGenerator:=OO,isCoroutine:=OO}
abbrev E0:St->XK:=λ_ _ _ _=>False
structure Fun (K:Pa) (x qual:PP) (st:Qd) (f:ON) (fd:Pd):Prop where
 ex:∃(oc:OP) (od:a0X) (kV doc pm:OP) (an:a0X) (cdv ct:OP) (osl:Array<|Option OP),
  fd=S6 x qual (jK st) (cI st) (ag st) .none kV doc pm an cdv ct/\K.lookup f=on ⟨oc,od,.func fd,osl⟩/\TV K cdv qual=OK
 kp:UF K (.ref f)=OK
section
variable{P:Py}{w:PD}{K:Pa}{b:a0j}{base:PZ}
theorem uO{A:Qc}(a:dv k A):A.units+1<TN:=Qp (Vm (by decide:1<=64) _) a.units
theorem tz(h:n<=1000):n<Pe:=Qp h (by decide)
variable{X:Cx}
theorem pv(i:Nat)(b:X.N[i]?=on x:=by rfl)(c:Zd X.env.scope x:=by first|exact QY rfl|exact RC (QY rfl)|exact RC (RC rfl))(w:b0c x:=by decide)
  (a:(x==("__classdict__":PP))=OO:=by decide):PE X (.Name x d) (pF i):=K1 b c w a
theorem iteT{A B:Prop}(h:A):if OK=OK then A else B:=by
 rw[OS rfl];exact h
theorem ite2{c A B:Prop} [Decidable c](a:c->A)(b:¬c->B):if c then A else B:=by
 by_cases h:c
 .rw[OS h]
  exact a h
 .rw[OR h]
  exact b h
def bY(H a:Hp):Prop:=∀b o,H b=on o->a b=on o
theorem bY.refl(H:Hp):bY H H:=λ_ _ h=>h
theorem bY.trans(a:bY H H1)(b:bY H1 H2):bY H H2:=λc o h=>b c o<|a c o h
theorem bY.free(e:bY H H')(h:H' l=Option.none):H l=Option.none:=by
 cases q:H l with
 |none=>rfl
 |some o=>
  rw[e l o q]at h;cases h
theorem dO:∀(b:a0O) (n:Nat) (acc:a0m),QX n b acc=QX n b []++acc
 |[],_,_=>rfl
 |(x,k)::r,n,acc=>by
  unfold QX;split
  .rw[dO r (n+1)<|(x,n)::acc,dO r (n+1) [(x,n)],Ql]
   rfl
  .exact dO r n acc
theorem jp:∀{b:a0O} {n:Nat} {x:PP} {c:ON},(x,c)∈QX n b []->(x,V7)∈b
 |[],_,_,_,h=>by cases h
 |(y,k)::r,n,x,c,h=>by
  unfold QX at h;split at h
  .rename_i a
   rw[dO]at h;rcases P4.mp h with h|h
   .exact OF _ (jp h)
   .obtain⟨rfl,_⟩:x=y/\c=n:=by simpa using h
    obtain rfl:k= .cell:=by simpa using a
    exact OL
  .exact OF _ (jp h)
noncomputable def dJ(cells:a0m):a0O->a0m->a0m
 |[],acc=>acc
 |(x,k)::r,acc=>if k== .free then dJ cells r ((x,(cells.lookup x).getD 0)::acc)else dJ cells r acc
theorem lm{cells:a0m}:∀{b:a0O} {acc:a0m} {x:PP} {c:ON},(x,c)∈dJ cells b acc->(x,c)∈acc\/((x,RJ)∈b/\c=(cells.lookup x).getD 0)
 |[],_,_,_,h=> .inl h
 |(y,k)::r,acc,x,c,h=>by
  unfold dJ at h;split at h
  .rename_i a
   obtain rfl:k= .free:=by simpa using a
   rcases lm h with h|⟨h,e⟩
   .rcases OQ.mp h with h|h
    .cases h
     exact .inr ⟨OL,rfl⟩
    .exact .inl h
   .exact .inr ⟨OF _ h,e⟩
  .rcases lm h with h|⟨h,e⟩
   .exact .inl h
   .exact .inr ⟨OF _ h,e⟩
theorem qf:∀{b:a0O} {w:a0m} {p:PP×ON},p∈w->p∈dJ cells b w
 |[],_,_,h=>h
 |(y,k)::r,w,p,h=>by
  unfold dJ;split
  .exact qf (OF _ h)
  .exact qf h
theorem qe{cells:a0m}:∀{b:a0O} {acc:a0m} {x:PP},(x,RJ)∈b->(x,(cells.lookup x).getD 0)∈dJ cells b acc
 |[],_,_,h=>by cases h
 |(y,k)::r,acc,x,h=>by
  unfold dJ;rcases OQ.mp h with h|h
  .cases h
   rw[OS<|by decide];exact qf OL
  .split
   .exact qe h
   .exact qe h
theorem mI{b:Type}:∀{l:List (PP×b)} {x:PP} {c:b},(x,c)∈l->∃d,l.lookup x=on d
 |[],_,_,h=>by cases h
 |(y,d)::r,x,c,h=>by
  rw[UJ];cases a:x==y with
  |true=>exact⟨d,rfl⟩
  |false=>
   rcases OQ.mp h with h|h
   .cases h
    simp at a
   .exact mI h
theorem dC{w:Type}:∀{l:List (PP×w)} {x:PP} {c:w},(l.map (·.1)).Nodup->(x,c)∈l->l.lookup x=on c
 |[],_,_,_,h=>by cases h
 |(y,d)::r,x,c,nd,h=>by
  rw[O0]at nd;obtain⟨a,b⟩:=Pz.mp nd;rw[UJ];rcases OQ.mp h with h|h
  .cases h
   simp
  .have:x≠y:=λe=>a<|e▸XO (f:=(·.1)) h
   rw[beq_eq_false_iff_ne.mpr this];exact dC b h
theorem sN{env:V3}(f:PP×SN->a0m->Sem (ForInStep a0m))
  (g:∀D E K,f (D,E) K=if E== .free then(do let a <-cellOf env D;Rm (.yield<|(D,a)::K))else Rm (.yield K)):
  ∀(w:a0O) (G:a0m),(∀y∈w,y.2= .free->∃c,env.cells.lookup y.1=on c)->forIn w G f=Rm (dJ env.cells w G)
 |[],_,_=>by rw[Sz];rfl
 |(x,k)::r,G,h=>by
  rw[Sh,g];unfold dJ;have i:∀y∈r,y.2= .free->∃c,env.cells.lookup y.1=on c:=λy j=>h y<|OF _ j;by_cases b:(k==RJ)=OK
  .rw[OS b,OS b]
   obtain⟨c,l⟩:=h (x,k) OL (by simpa using b);have d:env.cells.lookup x=on c:=l;have e:cellOf env x=Rm c:=by unfold cellOf;rw[d]
   rw[e,d];simp only[pure_bind];exact sN f g r _ i
  .rw[OR b,OR b]
   simp only[pure_bind];exact sN f g r _ i
theorem AJ{b:Scope}{env:V3}(h:∀y∈b.names,y.2= .free->∃c,env.cells.lookup y.1=on c):closureFor b env=Rm (dJ env.cells b.names []):=by
 simp only[closureFor];rw[sN (env:=env) _ (λD w E=>by cases a:w==RJ<;>simp[a]) b.names [] h]
 rfl
theorem G6{M:Model}{E:a0f}{s:OT}{w:Scope}
  (d:∀G:PZ,G.Ns s.heap.objs.size (λ_=>OD)->(∀b o,s.heap.get? b=on o->G.get? b=on o)->
   (∀n c,(n,c)∈QX (s.heap.objs.size+1) w.names []->G.IsCell c OD/\s.heap.objs.size+1<=c)->
   ((QX (s.heap.objs.size+1) w.names []).Pairwise λx y=>x.2≠y.2)->
   Q (newEnv w s.heap.objs.size globals (QX (s.heap.objs.size+1) w.names cl) f OD .none (on g) Xg) {s with heap:=G}):
  O6 M A (Xm w globals cl [] f OD .none<|on g) Q E s:=by
 simp only[Xm,Option.isSome_some,P8];refine My<|wpAny_alloc ?_;refine My<|wpAny_layCells _ (λV D K=>by cases a:D==V7<;>simp[a]) _ _ _ _ ?_
 have P:=cellsFrom_ok w.names (s.heap.push {cls:= .type "dict",data:= .dict #[]}) (s.heap.objs.size+1) [] ⟨λ_ _ X=>(nomatch X),US⟩ (by rw[QD];exact OX _);rw[QD]at P;rw[show({s with heap:=s.heap.push {cls:= .type "dict",data:= .dict #[]}}:OT).heap.objs.size=s.heap.objs.size+1 from QD ..];have S:=d (pushCells (s.heap.push {cls:= .type "dict",data:= .dict #[]}) w.names) ((Heap.Ns.new s.heap<|.type "dict").keeps<|pushCells_keeps _ _) (λb o e=>pushCells_keeps _ _ b o<|OH _ e) P.empty P.apart;exact My<|OG<|OG S
noncomputable abbrev aP(X:Cx)(a:a0h)(w:Scope)(D:a0m)(C:ON)(b:a0o)(s:OT)(H:Hp):Cx:=
 {X with N:=a,s₀:=s,H₀:=H,env:=compEnvC w D C X.env,outer:=X.stack,stack:=X.stack,ex:=b,fn:=λx=>w.names.lookup x !=on .free,pn:=[],xe:=λ_ _=>False}
theorem iv{b:Scope}{y:PP×SN}(h:y∈(relabel b c).names):y∈b.names\/(y.2= .cell/\(y.1,RJ)∈b.names):=by
 obtain⟨⟨n,k⟩,w,e⟩:=OZ.mp h
 dsimp only at e
 split at e
 .rename_i a
  cases e;simp only[Pr,SO]at a;obtain⟨⟨a,_⟩,_⟩:=a;subst a;exact .inr ⟨rfl,w⟩
 .cases e
  exact .inl w
theorem GR{X:Cx}{R:St}{s:OT}{Nc G:a0h}{K:a0a}{w:Scope}{h':PZ}(I:b_ X a_ R H s)
  (hk:w.kind= .function) (g:(w.names.map (·.1)).Nodup) (f:∀y∈w.names,y.2= .free->X.env.kindOf y.1=on .cell\/X.env.kindOf y.1=on .free)
  (T:Nc=G++K.map (λj=>X.N.getD j SK)) (U:∀j∈K,j<X.N.length/\w.names.lookup (X.N.getD j SK)=on .free)
  (F:∀b∈fp,gj X a_ H b) (W:∀b∈fp,∃o,s.heap.get? b=on o) (ns:h'.Ns s.heap.objs.size λ_=>OD) (D:∀b o,s.heap.get? b=on o->h'.get? b=on o)
  (O:∀n c,(n,c)∈QX (s.heap.objs.size+1) w.names []->h'.IsCell c OD/\s.heap.objs.size+1<=c) (ca:(QX (s.heap.objs.size+1) w.names []).Pairwise λx y=>x.2≠y.2):
  b_ (aP X Nc w (QX (s.heap.objs.size+1) w.names<|dJ X.env.cells w.names []) s.heap.objs.size fp s H) [] (Pg G.length OD++K.map (λj=>R.getD j OD)) H {s with heap:=h'}:=by
 --the cells
 have aa:∀{x:PP} {c:ON},(x,c)∈dJ X.env.cells w.names []->X.env.cells.lookup x=on c/\(x,RJ)∈w.names:=λ{x c} h=>by
  rcases lm h with h|⟨hm,e⟩
  .cases h
  .obtain⟨d,hd⟩:=I.ok.has x<|f _ hm rfl
   rw[hd]at e;exact⟨by rw[hd,e];rfl,hm⟩
 have a:∀{x:PP} {c:ON},(QX (s.heap.objs.size+1) w.names<|dJ X.env.cells w.names []).lookup x=on c->
   (x,c)∈QX (s.heap.objs.size+1) w.names []\/(X.env.cells.lookup x=on c/\(x,RJ)∈w.names):=λ{x c} h=>by
  have h:=Qz h;rw[dO]at h;rcases P4.mp h with h|h
  .exact .inl h
  .exact .inr (aa h)
 have E:∀{x:PP},(x,RJ)∈w.names->∃c,X.env.cells.lookup x=on c/\(QX (s.heap.objs.size+1) w.names<|dJ X.env.cells w.names []).lookup x=on c:=λ{x} hm=>by
  obtain⟨d,hd⟩:=I.ok.has x<|f _ hm rfl;have e:=qe (cells:=X.env.cells) (acc:=[]) hm;obtain⟨c,Q⟩:=mI (l:=QX (s.heap.objs.size+1) w.names<|dJ X.env.cells w.names []) (x:=x) (c:=(X.env.cells.lookup x).getD 0) (by rw[dO];exact PY _ e);rcases a Q with z|⟨z,_⟩
  .have B:=dC g<|jp z
   rw[dC g hm]at B;cases B
  .exact⟨c,z,Q⟩
 have k:∀{x:PP} {c:ON},X.env.cells.lookup x=on c->c<s.heap.objs.size:=λ{x c} h=>let ⟨v,q⟩:=I.cell x c h;q.lt
 have M:H s.heap.objs.size=OD:=I.hok.fresh<|OX _;have Y:∀b∈g8 X.stack,b∈X.env.locals::X.fs:=I.stkSub;refine⟨⟨I.ok.mod,hk,I.ok.glob,I.ok.blt,OX _,λx y c h1 h2=>?_,λx hx=>?_,λx c hf h=>?_,I.ok.hd,I.ok.frames,.inl rfl,λb J=>⟨?_,λx c h e=>?_⟩,I.bs,Pl I.ok.bsz I.sz,λb o e J=>?_,λb J hf=>?_,I.stack,I.stkFree⟩,
  rfl,I.bare,Un.kept D,⟨_,ns,λi x v e1 A e3=>?_⟩,λx c h=>?_,M,λx c h=>?_,λp hp=>Pf hp (by simp),I.hok.kept D,?_⟩
 .rcases a h1 with B|⟨B,_⟩<;>rcases a h2 with Z|⟨Z,_⟩
  .exact name_of_addr ca B Z
  .exact Pf (Pj (k Z)<|Pl (Uz _) (O _ _ B).2) (P6 _)
  .exact Pf (Pj (k B)<|Pl (Uz _) (O _ _ Z).2) (P6 _)
  .exact I.ok.inj _ _ _ B Z
 .--has
  have hx:(relabel w X.env).names.lookup x=on .cell\/(relabel w X.env).names.lookup x=on .free:=hx;have hm:(x,V7)∈w.names\/(x,RJ)∈w.names:=by
   rcases hx with hx|hx
   .rcases iv (Qz hx)with z|⟨_,z⟩
    .exact .inl z
    .exact .inr z
   .rcases iv (Qz hx)with z|⟨_,z⟩
    .exact .inr z
    .exact .inr z
  rcases hm with hm|hm
  .have q:=Xh w.names (s.heap.objs.size+1) (dJ X.env.cells w.names []) (x:=x)<|.inl<|dC g hm
   exact Wr.mp q
  .obtain⟨c,_,Q⟩:=E hm
   exact⟨c,Q⟩
 .--cab
  rcases a h with z|⟨_,z⟩
  .exact Pl (Uz _) (O _ _ z).2
  .have z':(w.names.lookup x !=on .free)=OK:=hf
   rw[dC g z]at z';exact Pf z' (by decide)
 .obtain⟨o,e⟩:=W b J
  exact PQ<|Ph e
 .rcases a h with z|⟨z,_⟩
  .obtain⟨o,e'⟩:=W b J
   subst e;exact Pf (Pj (Ph e')<|Pl (Uz _) (O _ _ z).2)<|P6 _
  .exact(F b J).2.2.2.2.1 x c z e
 .obtain⟨_,_,_,h4,_⟩:=F b J
  rcases h4 with z|z
  .exact I.ok.noex b o e z
  .exact Pf (Pj (Ph (I.ok.bs b o e).1) z) (P6 _)
 .obtain⟨_,h2,h3,_⟩:=F b J
  rcases OQ.mp (Y b hf)with z|z
  .exact h2 z
  .exact h3 z
 .--the names' values
  have hi:¬i<G.length:=λhi=>by
   rw[RG (by simpa using hi),Ro]at A;split at A<;>cases A
  have L:(G++K.map (λj=>X.N.getD j SK))[i]?=on x:=by rw[<-T];exact e1
  rw[QR<|by lia]at L;rw[QR<|by simpa using hi]at A;rw[QZ]at A;cases q:K[i-G.length]? with
  |none=>rw[OI,q]at A;cases A
  |some j=>
   rw[OI,q]at L A;have C:X.N.getD j SK=x:=Pn L;have P:R.getD j OD=on v:=Pn A;obtain⟨hj,t⟩:=U j<|OW q;rw[C]at t;obtain⟨c,Q,ab⟩:=E<|Qz t;have ac:X.N[j]?=on x:=by
    rw[<-C,OJ,OE hj];rfl
   have S:R[j]?=on (on v):=by
    have hl:j<R.length:=by rw[I.len];exact hj
    rw[OJ,OE hl]at P;rw[OE hl];exact Qr on P
   have V:=f _ (Qz t) rfl;obtain⟨m,hn,hl⟩:=I.loc;obtain⟨u,r,l⟩:=hl j x v ac S<|V.elim (λz=> .inr<|.inl z) λz=> .inr<|.inr z;refine⟨u,r,.inr ⟨?_,c,ab,?_⟩⟩
   .rcases e3 with z|z|z
    .exfalso
     rcases iv (Qz z)with y|⟨y,_⟩
     .rw[dC g y]at t;cases t
     .cases y
    .exact .inl z
    .exact .inr z
   .rcases l with⟨l,_⟩|⟨_,c',e,z⟩
    .exfalso
     rcases V with y|y
     .have y':X.env.kindOf x=on .cell:=y
      rw[l]at y';cases y'
     .have y':X.env.kindOf x=on .free:=y
      rw[l]at y';cases y'
    .rw[Q]at e
     cases e;exact z.keeps D
 .rcases a h with z|⟨z,_⟩
  .exact⟨OD,(O _ _ z).1⟩
  .obtain⟨v,q⟩:=I.cell x c z
   exact⟨v,q.keeps D⟩
 .rcases a h with z|⟨z,_⟩
  .exact I.hok.fresh (Pl (Uz _) (O _ _ z).2)
  .exact I.freeC x c z
 .show _=Nc.length
  rw[T,O8,O8,QZ,OC,OC]
abbrev TB:=St->Hp->(St->Hp->Prop)->Prop
abbrev a0Y:=ON->TB
inductive YS where
 |L (e:Expr)|S (e:Expr)|D (k v:Expr)
instance:Coe Expr YS:=⟨.L⟩
noncomputable def pa(c:YS)(gens:a0P)(b:Scope)(w:TF):Expr:=match c with
 | .L e=> .ListComp e gens b w
 | .S e=> .SetComp e gens b w
 | .D k v=> .DictComp k v gens b w
noncomputable def ZF(c:YS)(w:OP)(b:V3):Sem Unit:=match c with
 | .L e=>do let _ <-VL (.builtin "list.append") [w,<-Qh e b]
 | .S e=>do let v <-Qh e b;SY e.pos;let _ <-VL (.builtin "set.add") [w,v]
 | .D k v=>do
   let kv <-Qh k b
   let vv <-SX [kv] (Qh v b)
   match w with
   | .ref d=>do
    SY {k.pos with endLine:=v.pos.endLine,endCol:=v.pos.endCol}
    SX [kv,vv] (dictSet d kv vv)
   |_=>unsupported "internal:dictcomp"
noncomputable def jf(c:YS)(w:a0P)(D:Scope)(K:TF)(d:Nat)(G:OP)(b:V3)(k:Sem UD):Sem UD:=
 match w[d+1]? with
 |some E=>do
  let x <-Qh E.iter b
  SY E.iter.pos
  let x <-if E.is_async !=0 then foldedIterable E.iter x else P3 E.iter b x
  let _ <-runOwn (.compStart (pa c w D K) (d+1) (<-SX [x] (if E.is_async !=0 then asyncIter x else Va x)) G b) b
  k
 |none=>do
  ZF c G b
  k
theorem wX{a b:Expr}(e:f[d]?=on ⟨a,b,l,0⟩):
  compTurn (pa c f g i) d k j h=(do
   SY b.pos
   match <-S7 k with
   |none=>Rm<|.done .next
   |some v=>
    Uk a k v
    Uj a h v
    let mut ok:=OK
    for y in l do
     if ok then ok <-isTrue y h (Qh y h)
    if ok then jf c f g i d j h (We<|.compLoop (pa c f g i) d k j h)
    else We (.compLoop (pa c f g i) d k j h)):=by
 cases c<;>(
  unfold compTurn jf pa ZF
  dsimp only
  rw[e]
  dsimp only
  cases f[d+1]?<;>rfl)
variable{O:Py}{A:Qc}{R:Result->OT->Prop}{s:OT}
theorem GA(C:J[d]?=on ⟨b4,U,T,0⟩)(I:Nat->OT->Prop)
  (q:∀n s,I n s->O6 (Po O w) A (S7 Q) (λr a=>match r with
   |none=>R (.ok .next) a
   |some v=>O6 (Po O w) A (Uk b4 Q v) (λ_ b=>O6 (Po O w) A (Uj b4 F v) (λ_ j=>
    O6 (Po O w) A (forIn T OK λy r=>if r=OK then do let E <-isTrue y F (Qh y F);Rm (Uw E)else Rm (Uw r)) (λE g=>
     if E=OK then ∀(k:Sem UD) (u:UD->OT->Prop) (B:a0f),(∀i m,m<n->I m i->O6 (Po O w) A k u B i)->O6 (Po O w) A (jf c J H L d N F k) u B g
     else ∃m,m<n/\I m g) (λ_ _=>False) j) (λ_ _=>False) b) (λ_ _=>False) a) (λ_ _=>False) s)
  (n:Nat) (h:I n s):
  SI (Po O w) A (.compLoop (pa c J H L) d Q N F) R s:=by
 refine codeAny_loop rfl I (λn s hI=>?_) n h
 suffices z:O6 (Po O w) A ((compTurn (pa c J H L) d Q N F).onRaise (λx=>do noteFrame x F;theTreesLotGoes x)) (λK G=>match K with
   |Fin.done f=>R (Qj f) G
   |Fin.again c'=>c'=Code.compLoop (pa c J H L) d Q N F/\∃m,m<n/\I m G) (λe G=>R (Except.error e) G) s by cases c<;>exact z
 refine wpAny_noted ?_;rw[wX C];refine My<|RE<|My<|Qa (q n s hI) (λr a l=>?_) λ_ _ D=>D.elim;cases r with
 |none=>exact OG l
 |some v=>
  refine My<|Qa l (λ_ b p=>?_) λ_ _ D=>D.elim;refine My<|Qa p (λ_ j t=>My<|Qa t (λE g o=>?_) λ_ _ D=>D.elim) λ_ _ D=>D.elim;cases E with
  |false=>exact OG ⟨rfl,o⟩
  |true=>exact o _ _ _ λi m M hI=>OG ⟨rfl,m,M,hI⟩
theorem BY(i:k[d]?=on ⟨b4,n,p,0⟩)
  (g:SI (Po O w) A (.compLoop (pa c k j l) d q o m) R s)
  (h:O6 (Po O w) A (Va q) (λa D=>SI (Po O w) A (.compLoop (pa c k j l) d a o m) R D) (λ_ _=>False) s):
  SI (Po O w) A (.compStart (pa c k j l) d q o m) R s:=by
 refine Vh ?_
 suffices z:O6 (Po O w) A ((compStart (pa c k j l) d q o m).onRaise (λx=>do noteFrame x m;SY theWindowsPlace)) (λE D=>match E with
   |Fin.done f=>R (Qj f) D
   |Fin.again c'=>c'.quiet=OK/\SI (Po O w) A c' R D) (λe D=>R (Except.error e) D) s by cases c<;>exact z
 refine wpAny_notedAt ?_;unfold compStart;have b:(clausesOf<|pa c k j l)[d]?=on ⟨b4,n,p,0⟩:=by cases c<;>exact i
 generalize (clausesOf<|pa c k j l)[d]?=og at b⊢;subst b;show O6 _ _ (ask>>=_) _ _ s;refine My<|SZ<|wpAny_ite ?_;split
 .first
   |exact My (OG (OG (WX rfl g)))
   |exact OG (WX rfl g)
 .first
   |exact My (SS (My (RE (My (Qa h (λa D G=>OG<|WX rfl G) λ_ _ x=>x.elim)))))
   |(refine My (SS ?_);show O6 _ _ (SY n.pos>>=_) _ _ s;exact My (RE (My (Qa h (λa D G=>OG<|WX rfl G) λ_ _ x=>x.elim))))
noncomputable def eQ(X:Cx)(b:List Expr)(t:TT):Prop:=
 ∀(a:a0d) (s:OT) (d:St) (H:Hp) (Q:a0V),b_ X a d H s->t d H Q->
  O6 (Po X.prog X.w) X.A (forIn b OK λc r=>if r=OK then do let ok <-isTrue c X.env (Qh c X.env);Rm (Uw ok)else Rm (Uw r)) (TP X a d Q) X.xe s
noncomputable def Kr:TT:=λ_ H Q=>Q OK H
theorem vS{X:Cx}:eQ X [] Kr:=λ_ _ _ H _ I h=>OG ⟨H,I,h⟩
theorem F9{X:Cx}(d:PT X c t):eQ X [c] t:=λa s e H Q I h=>by
 simp only[Sh,Sz,P8];exact My<|My<|Qa (d a s e H Q I h) (λb w f=>OG<|OG f) λ_ _ x=>x
def PB(X:Cx)(c:YS)(gens:a0P)(E:Scope)(G:TF)(d:Nat)(D:ON)(t:TB):Prop:=
 ∀(a:a0d) (s:OT) (e:St) (H:Hp) (Q:a0H),b_ X a e H s->t e H Q->
  ∀(k:Sem UD) (f:UD->OT->Prop) (g:a0f),(∀K b h,b_ X a b h K->Q b h->O6 (Po X.prog X.w) X.A k f g K)->O6 (Po X.prog X.w) X.A (jf c gens E G d (.ref D) X.env k) f g s
def dF(J:It)(g:TG)(s:TT)(j:TB):TB:=λc H Q=>∃W:Nat->Nat->St->Hp->Prop,(∃m,W 0 m c H)/\∀i m c H,W i m c H->
 (J.stop i H/\Q c H)\/(J.go i H/\∃N:St->Hp->Prop,(∀d e,N d e->∃f,f<m/\W (i+1) f d e)/\∀x e,J.yld i H x e->g x c e λa k=>s a k λb h=>if b=OK then j a h N else N a h)
def AO(D:ON)(c:TE):TB:=λa H Q=>c a H λv b=>∃s,b D=on (.lst s)/\s.length<Pe/\Q a (upd b D<|.lst<|s++[v])
def AN(b:TI)(c:It->TB):TB:=λa H Q=>b a H λJ d=>c J a d Q
variable{c:YS}{ac b4 P:Expr}{ab:List Expr}{gens:a0P}{scope:Scope}{aa:TF}{d:Nat}{D:ON}
theorem ui(hg:gens[d]?=on ⟨b4,P,ab,0⟩)(hc:X.calm=OK)(F:X.xe=λ_ _=>False)(R:PG X b4 g)(S:eQ X ab tt)(j:PB X c gens scope aa d D tb)
  {s:OT}
  (I:b_ X a_ σ H s) (T:ml X.prog X.w X.K b4 J fp it tn) (st:tn 0 s.heap) (hf:∀b∈fp,gj X a_ H b) (h:dF J g tt tb σ H Q):
  SI (Po X.prog X.w) X.A (.compStart (pa c gens scope aa) d (.ref it) (.ref D) X.env) (λr E=>r= .ok .next/\∃a f,b_ X a_ a f E/\Q a f) s:=by
 obtain⟨W,⟨m0,w0⟩,L⟩:=h;have l:∀{f:Hp},(∀b∈fp,f b=OD)->∀b∈fp,gj X a_ f b:=λhn b j=>⟨hn b j,(hf b j).2⟩;have t:SI (Po X.prog X.w) X.A (.compLoop (pa c gens scope aa) d (.ref it) (.ref D) X.env) (λr E=>r= .ok .next/\∃a f,b_ X a_ a f E/\Q a f) s:=by
  refine GA hg (λn E=>∃i a f,b_ X a_ a f E/\tn i E.heap/\(∀b∈fp,f b=OD)/\W i n a f) ?_ m0 ⟨0,σ,H,I,st,λb j=>(hf b j).1,w0⟩;rintro n s3 ⟨i,p,Z,I3,O,U,w3⟩;rcases L i n p Z w3 with⟨G,qn⟩|⟨go,N,hN,step⟩
  .refine dt (T.done X rfl rfl rfl hc i a_ s3 p Z _ I3 (l U) O G) λr s4 ⟨V,I4⟩=>?_
   subst V;exact⟨rfl,p,Z,I4,qn⟩
  .refine dt (T.item X rfl rfl rfl hc i a_ s3 p Z _ I3 (l U) O go) λr s4 ⟨u,V,h4⟩=>?_
   subst V;refine dt h4 λ_ s5 ⟨x,H5,I5,r5,y5,v,ac⟩=>?_;have ad:=I5.pinned (l ac)<|T.obj _ _ v;have We:∀{q:St} {y:Hp} {B:OT},b_ X (a_++nc fp s5.heap) q y B->N q y->∃m,m<n/\∃i a f,b_ X a_ a f B/\tn i B.heap/\(∀b∈fp,f b=OD)/\W i m a f:=λ{q y B} C n7=>by
    obtain⟨m',hm,w7⟩:=hN q y n7;refine⟨m',hm,i+1,q,y,C.unpinned,T.keep _ _ _ v λb j o e=>(C.pin (b,o)<|PY _<|PY _<|jE j e).1,λb j=>?_,w7⟩;obtain⟨o,e,d⟩:=T.obj _ _ v b j;exact(C.pin (b,o)<|PY _<|PY _<|jE j e).2.1
   have h6:=R _ s5 p H5 x u _ ad r5<|step x H5 y5;rw[F]at h6;refine dt h6 λ_ s6 ⟨Y,H6,I6,q6⟩=>?_;have h7:=S _ s6 Y H6 _ I6 q6;rw[F]at h7;refine dt h7 λb B ⟨y,C,M⟩=>?_;cases b with
   |true=>
    rw[OS rfl]at M⊢;intro k Q' E' hk;refine j _ B Y y N C M k Q' E' λs8 ae H8 I8 n8=>?_;obtain⟨m,hm,z⟩:=We I8 n8;exact hk s8 m hm z
   |false=>
    rw[OR OY]at M⊢;exact We C M
 exact BY hg t<|T.self X.A 0 s _ _ st t
theorem aG(m:gens[d+1]?=OD)(o:PE X ac x)(b:X.xe=λ_ _=>False):PB X ac gens scope aa d D (AO D x):=by
 intro a s g H Q I h k y B p;unfold jf;rw[m];show O6 _ _ ((do let _ <-VL (.builtin "list.append") [.ref D,<-Qh ac X.env])>>=λ_=>k) _ _ _
 have i:=o a s g H _ I h;rw[b]at i;refine My<|My<|Qa i (λu C ⟨v,J,j,r,w,l,L,q⟩=>?_) λ_ _ f=>f.elim;obtain⟨z,c,n,t,N,e⟩:=j.lstM l;refine My<|VY F.slot_list_append ⟨_,e,rfl⟩ F.entry_list_append (Yq _ _) (Yj D c.toArray n u<|by rw[O7];lia) ⟨e,?_⟩;refine OG<|p _ g _ (j.lset (its':=c++[u]) l e (by simp) (t.append<|.cons r .nil) ?_) q;rw[O8,PX];lia
theorem oB(o:gens[d+1]?=on ⟨target',iter',ifs',0⟩)(p:X.calm=OK)(a:X.xe=λ_ _=>False)(t:PI X target' iter' wi)
  (j:PG X target' g) (l:eQ X ifs' tt) (u:PB X c gens scope aa (d+1) D tb) (w:∀x,P3 iter' X.env x=Rm x:=by intro _;rfl):PB X c gens scope aa d D (AN wi λJ=>dF J g tt tb):=by
 intro b s y H Q I h k Y Z B;unfold jf;rw[o];have i:=t b s y H _ I h;rw[a]at i;refine My<|Qa i (λv E i=>My<|RE ?_) λ_ _ f=>f.elim;show O6 _ _ (P3 iter' X.env v>>=_) _ _ _;refine My<|Ss (w v) ?_;show O6 _ _ (SX [v] (Va v)>>=_) _ _ _;refine My<|QA<|Qa i (λC G F=>?_) λ_ _ f=>f.elim;obtain⟨K,M,P,J,R,e,L,T,m,f2,q⟩:=F;subst e;refine My<|wpAny_runOwn<|SW (ui o p a j l u L T m f2 q) λr A ⟨N,z⟩=>?_;subst N;obtain⟨n,O,U,W⟩:=z;exact B A n O U W
noncomputable def lN(b:a0h)(c:a0a)(a:St):St:=Pg b.length OD++c.map (λj=>a.getD j OD)
def ZL(X:Cx)(mk:Sem OP)(g:ON->HO):Prop:=∀(a:a0d) (s:OT) (f:St) (H:Hp) (E:a0f) (Q:a0f),b_ X a f H s->
 (∀e:OT,b_ X a f (upd H s.heap.objs.size<|g s.heap.objs.size) e->(∀b o,s.heap.get? b=on o->e.heap.get? b=on o)->Q (.ref s.heap.objs.size) e)->O6 (Po X.prog X.w) X.A mk Q E s
theorem v9{X:Cx}:ZL X (newList []) λ_=> .lst []:=λa s f H E Q I h=>Qy<|h _ (I.lnew (t':=s.toks) .nil<|Qf _) λb o e=>OH _ e
def qs(c:a0h)(d:a0a)(e:TI)(f:ON->It->TB):TE:=λa H Q=>e a H λJ b=>∀D,b D=OD->f D J (lN c d a) (upd b D<|.lst []) λ_ g=>Q (.ref D) g
structure cy (X:Cx) (scope:Scope) (Nc cp:a0h) (b0:a0a):Prop where
 kind:scope.kind= .function
 nd:(scope.names.map (·.1)).Nodup
 free:∀y∈scope.names,y.2= .free->X.env.kindOf y.1=on .cell\/X.env.kindOf y.1=on .free
 names:Nc=cp++b0.map (λj=>X.N.getD j SK)
 cap:∀j∈b0,j<X.N.length/\scope.names.lookup (X.N.getD j SK)=on .free
variable{R:a0P}{Nc cp:a0h}{b0:a0a}{g:TG}{tt:TT}{tb:a0Y}{wi:TI}
def MX(X:Cx)(a:a0d)(H:Hp)(C:ON):Prop:=H C=OD/\C≠X.env.locals/\X.s₀.heap.objs.size<=C/\(∀x c,X.env.cells.lookup x=on c->c≠C)/\∀p∈X.pn++a,p.1≠C
theorem je{c:YS}{mk:Sem OP}{B:ON->HO}(O:ZL X mk B){f:a0d}{F:St}{H:Hp}{s:OT}{it:ON}{h:a0o}{Q:Nat->PZ->Prop}{J:It}{E:a0f}{QQ:ON->Hp->Prop}{RR:OP->ON->Result->OT->Prop}
  (hc:X.calm=OK) (S:cy X scope Nc cp b0)
  (L:∀(cl:a0m) (C:ON) (h:a0o) (s:OT) (H:Hp),PG (aP X Nc scope cl C h s H) b4 g/\eQ (aP X Nc scope cl C h s H) ab tt/\∀D,PB (aP X Nc scope cl C h s H) c (⟨b4,P,ab,0⟩::R) scope aa 0 D<|tb D)
  (I:b_ X f F H s) (T:ml X.prog X.w X.K b4 J h it Q) (st:Q 0 s.heap) (U:∀b∈h,gj X f H b)
  (q:∀D,H D=OD->dF J g tt (tb D) (lN cp b0 F) (upd H D<|B D) λ_ k=>QQ D k)
  (W:∀(D C:ON) (M:OT) (k:Hp) (m:a0j),b_ X f F k M->M.heap.Ns C m->MX X f k C->QQ D k->RR (.ref D) C (.ok .next) M):
  O6 (Po X.prog X.w) X.A mk (λV t=>O6 (Po X.prog X.w) X.A (Xm scope X.env.globals (dJ X.env.cells scope.names []) [] X.env.qual OD .none<|on X.env) (λj u=>
   SI (Po X.prog X.w) X.A (.compStart (pa c (⟨b4,P,ab,0⟩::R) scope aa) 0 (.ref it) V {j with scope:=relabel scope X.env}) (RR V j.locals) u) E t) E s:=by
 refine O f s F H _ _ I λi l y=>?_;have hD:H s.heap.objs.size=OD:=I.fresh;have q3:=q s.heap.objs.size hD;have Y:∀b∈h,∃o,i.heap.get? b=on o:=λb L=>let ⟨o,e,_⟩:=T.obj _ _ st b L;⟨o,y b o e⟩
 have Z:∀b∈h,gj X f (upd H s.heap.objs.size<|B s.heap.objs.size) b:=λb a=>⟨by
  rw[bb]
  .exact(U b a).1
  .obtain⟨o,e,_⟩:=T.obj _ _ st b a
   exact PQ<|Ph e,(U b a).2⟩
 generalize ac:upd H s.heap.objs.size (B s.heap.objs.size)=H3 at l q3 Z;generalize s.heap.objs.size=D at hD ac q3⊢;refine G6 λh' ns G ce ca=>?_;have N:=GR l S.kind S.nd S.free S.names S.cap Z Y ns G ce ca;obtain⟨b1,b2,b3⟩:=L (QX (i.heap.objs.size+1) scope.names<|dJ X.env.cells scope.names []) i.heap.objs.size h i H3;have ad:Q 0 h':=T.keep _ _ _ st λb L o e=>G b o<|y b o e;have f4:∀b∈h,gj (aP X Nc scope (QX (i.heap.objs.size+1) scope.names<|dJ X.env.cells scope.names []) i.heap.objs.size h i H3) [] H3 b:=λb a=>
  ⟨(Z b a).1,(N.ok.exf b a).1,N.ok.exfs b a,.inl a,(N.ok.exf b a).2,λp hp=>Pf hp<|by simp⟩
 refine SW (ui (X:=aP X Nc scope (QX (i.heap.objs.size+1) scope.names<|dJ X.env.cells scope.names []) i.heap.objs.size h i H3) (gens:=⟨b4,P,ab,0⟩::R) (d:=0) rfl hc rfl b1 b2 (b3 D) N T ad f4 q3) λr M ⟨hr,ae,k,n,q'⟩=>?_;subst hr;obtain⟨m,hm,_⟩:=n.loc;have C1:X.env.locals<i.heap.objs.size:=l.lt;refine W D _ M k m (l.call' (ch:=h) n.os n.base n.hok n.bare λb a=>?_) hm ⟨n.free,RT C1,l.sz,λx c e z=>?_,λp hp z=>?_⟩ q'
 .obtain⟨_,h2,h3,h4,h5,h6⟩:=U b a
  exact⟨h4,h2,h5,h6⟩
 .obtain⟨v,e'⟩:=l.cell x c e
  exact Pf (z▸e'.lt)<|P6 _
 .have:=Ph (l.pin p hp).1
  rw[z]at this;exact Pf this<|P6 _
theorem b_.letgo{s:OT}(I:b_ X h i H s)(o:MX X h H C)(c:PL C s.heap j):b_ X h i H {s with heap:=j}:=
 I.turned (t':=s.toks) (λb f a e=>(c.2 b a).trans e) o.1 (Ne.symm<|Ne.symm o.2.1) (.inr o.2.2.1) o.2.2.2.1 o.2.2.2.2
theorem cy.clo(S:cy X scope Nc cp b0)(c:X.Ok):closureFor scope X.env=Rm (dJ X.env.cells scope.names []):=AJ λy a b=>c.has y.1<|S.free y a b
theorem cy.loc(S:cy X scope Nc cp b0):∀x∈scope.names,x.2= .local->scope.names.lookup x.1=on .local:=λx a b=>dC S.nd (by rw[<-b];exact a)
theorem oz(j:X.calm=OK)(S:cy X scope Nc cp b0)(k:PI X b4 P wi)
  (l:∀(d:a0m) (C:ON) (b:a0o) (s:OT) (H:Hp),PG (aP X Nc scope d C b s H) b4 g/\eQ (aP X Nc scope d C b s H) ab tt/\∀D,PB (aP X Nc scope d C b s H) ac (⟨b4,P,ab,0⟩::R) scope aa 0 D<|tb D)
  (G:∀x,P3 P X.env x=Rm x:=by intro _;rfl):PE X (.ListComp ac (⟨b4,P,ab,0⟩::R) scope aa) (qs cp b0 wi λD J=>dF J g tt<|tb D):=by
 intro a s n H Q I h;rw[eval_ListComp];refine R5 (use:=OD) rfl G (S.clo I.ok) S.kind S.loc<|Qa (k a s n H _ I h) (λv N o=>Qa o (λp O r=>?_) λ_ _ x=>x) λ_ _ x=>x;obtain⟨M,b,U,J,W,e,t,T,f,f2,q⟩:=r;subst e;refine je (c:= .L ac) v9 (RR:=λE C=>Xi (Po X.prog X.w) X.A X.xe OD _ E C) j S l t T f f2 q λD C V u m y K B F=>?_;exact⟨m,K,λz i=>⟨.ref D,u,y.letgo B i,rfl,F⟩⟩
theorem xU{b f:TF}(y:X.N.Nodup)(l:X.N[i]?=on x)(B:x5 X.env.scope x)(F:X.calm=OK)(S:cy X scope Nc cp b0)(O:PI X b4 P wi)
  (U:∀(d:a0m) (C:ON) (k:a0o) (s:OT) (H:Hp),PG (aP X Nc scope d C k s H) b4 g/\eQ (aP X Nc scope d C k s H) ab tt/\∀D,PB (aP X Nc scope d C k s H) ac (⟨b4,P,ab,0⟩::R) scope aa 0 D<|tb D)
  (n:TY (.ListComp ac (⟨b4,P,ab,0⟩::R) scope aa) (on<|.Name x b) f.line X.env=Rm OK:=by rfl)
  (G:∀x,P3 P X.env x=Rm x:=by intro _;rfl) (W:b0d X x:=by first|exact .inl rfl|exact .inr rfl|assumption):
  PS X (.Assign [.Name x b] (.ListComp ac (⟨b4,P,ab,0⟩::R) scope aa) f) (kY (qs cp b0 wi λD J=>dF J g tt<|tb D)<|gc i):=by
 intro j s Y H D I h;rw[exec_Assign_Name_used _ _ _ _ n];refine My<|RE<|My ?_;show O6 _ X.A (do let _ <-comprehension (.ListComp ac (⟨b4,P,ab,0⟩::R) scope aa) scope X.env _ (newList []) OO (Qh P X.env) (on<|Uj (.Name x b) X.env)) _ _ s
 refine My<|Qa (R5 (use:=on<|Uj (.Name x b) X.env) (Q:=λ_ s'=>SP X j D .next s') rfl G (S.clo I.ok) S.kind S.loc
  (Qa (O j s Y H _ I h) (λv s1 Z=>Qa Z (λK M V=>?_) λ_ _ e=>e) λ_ _ e=>e)) (λ_ s' hq=>OG<|OG hq) λ_ _ e=>e
 obtain⟨it,k,tn,J,H2,e,o,T,p,f2,q⟩:=V;subst e;refine je (c:= .L ac) v9 (RR:=λE C=>Xi (Po X.prog X.w) X.A X.xe (on<|Uj (.Name x b) X.env) _ E C) F S U o T p f2 q λA C s' H' m I' ns r q'=>?_;show O6 _ X.A (Uj (.Name x b) X.env<|.ref A) _ _ s';refine Wm<|mQ I' y l B (v:= .ref A) rfl (λM o ⟨a,sb,ha⟩=>?_) W;have t:C≠a:=by
  rcases ha with rfl|ha
  .exact r.2.1
  .exact λz=>r.2.2.2.1 x a ha z.symm
 exact⟨m,ns.sameBut sb t,λh' u=>⟨_,H',o.letgo r u,q'⟩⟩
end
end L2
namespace L2
open Sem (wp)
open Builtin Builtin.ObjectAttr
structure YQ (h:PZ) (C:ON) (bm:a0g):Prop where
 at_:∃(nm q:PP) (N:ON) (bs:a0g) (hdct:Bool) (sn:a0h) (sub:a0g) (ab:Bool) (col:a0S) (dd:a0X) (k0 k1 k2 k3 k5:Option OP),
  h.get? C=on (excClassObj nm q C N bs bm hdct sn sub ab col dd k0 k1 k2 k3 k5 "ValueError.__new__")
 val:bm.contains (.type "ValueError")=OK
 bas:bm.contains (.type "BaseException")=OK
 att:bm.contains (.type "AttributeError")=OO
 nam:bm.contains (.type "NameError")=OO
section
variable{i:Py}{w:PD}{A:Qc}{E:a0f}{h:PZ}{g:Array GenState}{d:Drawn}{t:Nat}{j:QO}{C:ON}{k f:a0g}
noncomputable def yr:a0g->Bool
 |[.type a,.type b,.type c,.type d]=>a=="ValueError"&&b=="Exception"&&c=="BaseException"&&d=="object"
 | .ref _::r=>yr r
 |_=>OO
variable{s:OT}{e:ON}{K:Pa}{b:ClassData}{a:PP}{v:OP}
end
end L2
namespace L2
theorem cq.there{h:PZ}(x:cq P w H h a o):∃b,h.get? a=on b:=by
 cases o with
 |lst xs=>obtain⟨_,_,_,_,e⟩:=x;exact⟨_,e⟩
 |tup xs=>obtain⟨_,_,_,_,e,_⟩:=x;exact⟨_,e⟩
 |ins C dx fs=>obtain⟨_,_,_,e,_⟩:=x;exact⟨_,e⟩
 |own y=>exact x
 |xd fs=>obtain⟨_,⟨_,_,_,e,_⟩,_⟩:=x;exact⟨_,e⟩
 |rng lo hi=>obtain⟨_,_,_,e⟩:=x;exact⟨_,e⟩
 |frz b u=>obtain⟨e,_⟩:=x;exact⟨_,e⟩
 |tbl ps=>exact⟨_,(show h.get? a=on _ from x)⟩
 |met f y=>exact⟨_,(show h.get? a=on _ from x)⟩
 |ext φ=>obtain⟨_,e,_⟩:=x;exact e
structure YE (P:Py) (w:PD) (outer:a0C) (H:Hp) (s:OT) (E:XK) (x C:ON) (H':Hp) (s':OT):Prop where
 os:s'.os=s.os
 bare:Um s'.gens
 un:Un (g8 outer) [] H H' s.heap s'.heap
 hok:k_ P w H' s'.heap
 tr:∃(oe:Qk) (vs:a0M) (T:ON) (oT:Qk) (ts:a0M) (a0:OP),s'.heap.get? x=on oe/\(oe.cls= .ref C/\vs[0]?=on a0)/\oe.data= .fields vs/\vs[1]?=on (.ref T)/\T≠x/\s'.heap.get? T=on oT/\oT.data= .fields ts/\ts[3]?=on .none/\H' T=OD/\s.heap.get? T=OD
 xn:H' x=OD
 xs:s.heap.get? x=OD
 wish:E (.ref C) OD H'
def hE(P:Py)(w:PD):G_:=λD H s E e G=>∃x C a,e= .ref x/\YE P w D H s E x C a G
theorem ED{X:Cx}{s G:OT}{E:XK}(I:b_ X a_ σ H s)(g:X.stack=X.env::X.outer)(i:X.env.frame=on X.env.locals)(R:X.ex=[])
  (os:G.os=X.s₀.os) (M:Um G.gens) (d:Un (g8 X.stack) [] X.H₀ H' X.s₀.heap G.heap) (S:k_ X.prog X.w H' G.heap) (y:∀b∈g8 X.stack,H' b=OD)
  (c:∀b∈ext,X.s₀.heap.get? b=OD/\H' b=OD) (O:x∈ext) (V:E (.ref C) OD H')
  (L:Heap.LeftW (Yy G.heap<|ext++g8 X.stack) (X.env::X.outer) x (.ref C) a0 G.heap h'):YE X.prog X.w X.outer X.H₀ X.s₀ E x C H' {G with heap:=h'}:=by
 obtain⟨U,L2,W,Y⟩:=L;have j:∀b∈g8 X.outer,b∈g8 X.stack:=λb hb=>by
  rw[g];unfold g8;rw[QV,i];exact OF _ hb
 have h:∀b∈g8 X.stack,b=X.env.locals\/b∈g8 X.outer:=λb hb=>by
  rw[g]at hb;unfold g8 at hb;rw[QV,i]at hb;exact OQ.mp hb
 have A:∀b o,X.s₀.heap.get? b=on o->b≠X.env.locals:=λb o e=>PQ<|Pj (Ph e) I.ok.above;have D:∀b o,G.heap.get? b=on o->b∉ext->b∉g8 X.stack->h'.get? b=on o:=λb o e B Z=>
  U b o (hideAll_get _ e λhm=>(P4.mp hm).elim B Z)
 have k:∀b o,X.s₀.heap.get? b=on o->b∉ext:=λb o e hb=>by rw[(c b hb).1]at e;cases e
 have f:∀b∈g8 X.stack,∃o,h'.get? b=on o/\∀vs,o.data≠ .fields vs:=λb hb=>(L2.mem<|by rw[<-g];exact hb).2;obtain⟨oe,vs,T,oT,P,he,hc,hd,B,l,F,Q,m,h3⟩:=W;have p:H' T=OD/\X.s₀.heap.get? T=OD:=by
  by_cases hm:T∈ext++g8 X.stack
  .rcases P4.mp hm with hm|hm
   .exact⟨(c T hm).2,(c T hm).1⟩
   .obtain⟨o,e,K⟩:=f T hm
    rw[Q]at e;cases e;exact Pf m<|K P
  .have hs:G.heap.get? T=OD:=by
    cases q:G.heap.get? T with
    |none=>rfl
    |some o=>rw[hideAll_get _ q hm]at l;cases l
   constructor
   .cases q:H' T with
    |none=>rfl
    |some o=>obtain⟨ob,e⟩:=(S T o q).there;rw[hs]at e;cases e
   .cases q:X.s₀.heap.get? T with
    |none=>rfl
    |some o=>obtain⟨ob,e⟩:=d.there T o q (by simp);rw[hs]at e;cases e
 refine⟨os,M,⟨λb o e n hb _=>?_,λb o e n hb _=>?_,λb o e n hb=>d.free b o e n hb,λb o e _=>?_,d.tups,d.frzs,d.tbls⟩,λa o e=>?_,⟨oe,vs,T,oT,P,a0,he,hc,hd,B,F,Q,m,h3,p.1,p.2⟩,(c x O).2,(c x O).1,V⟩
 .have K:b∉g8 X.stack:=λz=>(h b z).elim (A b o e) hb
  exact D b o (d.keep b o e n K<|by simp) (k b o e) K
 .obtain⟨sl,r⟩:=d.slot b o e n (j b hb) (by simp)
  obtain⟨_,J,v,K⟩:=I.ok.funs.mem hb;rw[e]at v;cases v;obtain⟨N,e3⟩:=Y b _ r K;exact⟨N,e3⟩
 .obtain⟨J,r⟩:=d.there b o e (by simp)
  by_cases hb:b∈g8 X.stack
  .obtain⟨o2,v,_⟩:=f b hb
   exact⟨o2,v⟩
  .exact⟨J,D b J r (k b o e) hb⟩
 .refine(S a o e).stay (λb u hb r=>?_) (λ_ q=>q) λ_ _ q=>q
  have t:H' b≠OD:=by
   rcases hb with rfl|hb
   .rw[e];simp
   .rw[hb];simp
  exact D b u r (λz=>t (c b z).2) λz=>t<|y b z
theorem EW{h base:PZ}(d:h.FunFrames base l)(c:∀b∈g8 l,b∈as):h.FunFrames (Yy h as) l:=
 PySem.W.funFrames_hide d λD e a E=>c a (by unfold g8;exact Uc.mpr ⟨D,e,E⟩)
theorem Jj{X:Cx}{E F:XK}(a:X.stack=X.env::X.outer)(d:X.env.frame=on X.env.locals)(f:X.ex=[])(R:∀D J H,F D J H->E D J H)
  (I:b_ X a_ σ H s) (h:hE X.prog X.w X.stack H s F e s'):
  O6 (Po X.prog X.w) X.A (leaving X.env e) (λ_ j=>hE X.prog X.w X.outer X.H₀ X.s₀ E e j) E1 s':=by
 obtain⟨x,C,N,rfl,os,G,S,V,⟨U,vs,T,W,Y,a0,Z,hc,hd,h1,k,hT,m,h3,n,p⟩,xn,xs,K⟩:=h;have M:∀b∈X.fs,b∈g8 X.stack:=λb hb=>by
  rw[a];unfold g8;rw[QV,d];exact OF _ hb
 have O:Un (g8 X.stack) [] X.H₀ H X.s₀.heap s.heap:=by
  have b:=I.base;rw[f]at b;exact b.mono M λ_ z=>z
 have U0:=O.trans S;have g:∀b,s.heap.get? b=OD->X.s₀.heap.get? b=OD:=λb e=>by
  cases q:X.s₀.heap.get? b with
  |none=>rfl
  |some o=>obtain⟨o',P⟩:=O.there b o q (by simp);rw[e]at P;cases P
 have c:=I.stack;have i:s'.heap.FunFrames X.base X.stack:=by
  have aa:∀(l:a0C),(∀b∈g8 l,b∈g8 X.stack)->s.heap.FunFrames X.base l->s'.heap.FunFrames X.base l:=by
   intro l
   induction l with
   |nil=>intro _ _;trivial
   |cons ab r ih=>
    intro hs hl;obtain⟨hk,⟨L,o,t,hn,u,v⟩,hr⟩:=hl;have Q:L∈g8 X.stack:=hs L (by unfold g8;rw[QV,t];exact OL);obtain⟨sl,e⟩:=S.slot L o u (I.stkFree L Q) Q (by simp);exact⟨hk,⟨L,_,t,hn,e,v⟩,ih (λb hb=>hs b<|by unfold g8;rw[QV,t];exact OF _ hb) hr⟩
  exact aa X.stack (λ_ hb=>hb) c
 have y:∀b∈g8 X.stack,N b=OD:=λb hb=>by
  obtain⟨_,o,u,_⟩:=c.mem hb;exact S.free b o u (I.stkFree b hb) (by simp)
 have B:∀b∈g8 X.stack,b∈[x,T]++g8 X.stack:=λb hb=>PY _ hb;have hF:s'.heap.FunFrames (Yy s'.heap<|[x,T]++g8 X.stack) (X.env::X.outer):=by
  have z:=EW i B;rw[a]at z⊢;exact z
 refine wpAny_leaving_nextW (base:=Yy s'.heap<|[x,T]++g8 X.stack) (by rw[<-a];exact I.ok.frames) hF d ⟨U,vs,T,W,Y,Z,hc,hd,h1,Yz _ (by simp),k,hT,m,h3⟩ (λb o q=>Xe _ q) (Yz _<|by simp) λh' L=>?_;refine⟨x,C,N,rfl,ED I a d f (os.trans I.os) G U0 V y (λb hb=>?_) (by simp) (R _ _ _ K) L⟩;rcases OQ.mp hb with rfl|hb
 .exact⟨g _ xs,xn⟩
 .obtain rfl:b=T:=by simpa using hb
  exact⟨g _ p,n⟩
section
variable{X:Cx}{c:a0d}{a:St}{H d:Hp}{s b:OT}{E:XK}{x C:ON}
structure XC (K:Pa) (C:ON):Prop where
 sh:∃bm,∀h:PZ,K.In h->YQ h C bm
 sa:Th K (.ref C) "__setattr__"=on (on<|.builtin "object.__setattr__")
 cd:∃cd,PySem.W.clsIn K C=on cd/\cd.hasDict=OK/\yr cd.mro=OK
structure XMk (K:Pa) (C f:ON):Prop where
 xc:XC K C
 init:Th K (.ref C) "__init__"=on (on<|.ref f)
 fn:isFn K (.ref f)=OK
 kp:UF K (.ref C)=OK
end
section
variable{X:Cx}{n:G_}{k:Nat}{f C:ON}{i:Pd}{h:a0h}{g:Sp}{c:a0i}{l:a0g}{E:a0s}{x m:PP}{p b a:TF}{e o:Expr}{j:List Expr}{d:TE}{t:TA}
structure Zi (K:Pa) (D:ON) (m:PP) (f:ON):Prop where
 ga:specialIn K (.ref D) "__getattribute__"=on (on<|.builtin "type.__getattribute__")
 rd:PySem.W.readsIn K D (.type "type")=OK
 fnd:PySem.W.findCls K (.ref D) (.type "type") m=on (.val<|.ref f)
 kp:UF K (.ref f)=OK
end
section
variable{P:Py}{w:PD}{K:Pa}{B:a0j}{base:PZ}{N:a0h}{v:PP}{i:Scope}{f:ON}{j:OP}{A:Qc}{y:a0C}{s:OT}{H:Hp}{E:XK}
theorem eV:dT (hE P w) (gi (hE P w) P w K B base N v i f j A y s H E) (λ_=>E):=λa b c d e D I h=>Jj (X:=gi (hE P w) P w K B base N v i f j A y s H E) rfl rfl rfl (λ_ _ _ z=>z) I h
theorem zk:dT (hE P w) X E0:=λ_ _ _ _ _ _ _ h=>by
 obtain⟨_,_,_,_,F⟩:=h;exact F.wish.elim
theorem bW:Ye (Po P w) (A.deeper<|Tg v i s.heap.objs.size f j) (Tg v i s.heap.objs.size f j) (gi (hE P w) P w K B base N v i f j A y s H E).xe:=PassesOwn.leaving
structure hL (K:Pa) (x v:PP) (st:Qd) (f:ON) (fd:Pd):Prop where
 ex:∃(oc:OP) (od:a0X) (dV kV doc pm:OP) (an:a0X) (cdv ct:OP) (osl:Array<|Option OP),
  fd=S6 x v (jK st) (cI st) (ag st) dV kV doc pm an cdv ct/\K.lookup f=on ⟨oc,od,.func fd,osl⟩/\TV K cdv v=OK
 kp:UF K (.ref f)=OK
theorem JR{K:Pa}{x v:PP}{i:Qd}{f:ON}(l:K.lookup f=on ⟨oc,od,.func<|S6 x v (jK i) (cI i) (ag i) dV kV doc pm an a ct,b⟩)
  (c:TV K a v=OK) (k:UF K (.ref f)=OK):hL K x v i f (S6 x v (jK i) (cI i) (ag i) dV kV doc pm an a ct):=⟨⟨oc,od,dV,kV,doc,pm,an,a,ct,b,rfl,l,c⟩,k⟩
theorem hL.okE{x v:PP}{G:Qd}{f:ON}{N M:a0h}(F:hL K x v G f u)(S:bt N M<|ag G)(V:∀D H Q E,r D H Q E->D.length=M.length)
  (b:∀(a:OP) (A:Qc) (y:a0C) (s:OT) (H:Hp) (D:a0i) (Q:VK) (E:XK),dv k (A.deeper<|Tg v (ag G) s.heap.objs.size f a)->r D H Q E->
   ∃t,PSs (gi (hE P w) P w K B base N v (ag G) f a A y s H E) (cI G) t/\t {nx:=λ_ e=>Q .non e,rt:=Q} (gx N D) H):fw P w K B base (hE P w) (k+1) f u M r:=by
 obtain⟨l,m,n,o,g,p,q,a,z,h,rfl,i,c⟩:=F.ex;exact Ih i c S V λA y s H D Q E j d=>b a A y s H D Q E j d
theorem hL.ok{x v:PP}{D:Qd}{f:ON}{N G:a0h}(F:hL K x v D f z)(S:bt N G<|ag D)(M:∀vs H Q E,sp vs H Q E->vs.length=G.length)
  (b:∀(a:OP) (A:Qc) (y:a0C) (s:OT) (H:Hp) (vs:a0i) (Q:VK) (E:XK),dv k (A.deeper<|Tg v (ag D) s.heap.objs.size f a)->sp vs H Q E->
   ∃t,PSs (gi (hE P w) P w K B base N v (ag D) f a A y s H E).nox (cI D) t/\t {nx:=λ_ e=>Q .non e,rt:=Q} (gx N vs) H):fw P w K B base (hE P w) (k+1) f z G sp:=by
 obtain⟨m,n,o,p,g,r,u,a,V,i,rfl,j,c⟩:=F.ex;refine Ih j c S M λA y s H vs Q E l d=>?_;obtain⟨t,h,q⟩:=b a A y s H vs Q E l d;exact⟨t,h.nox,q⟩
abbrev TJ:=St->Hp->Nat->(Nat->Hp->Prop)->Prop
variable{X:Cx}{es:List Expr}{t:TJ}{b:TF}
theorem uk(i:X.calm=OK):cK X (.builtin "sum") (λf H Q=>∃(a:ON) (t:a0c),f=[.ref a]/\eg X.K H a (t.map V.int)/\Q (.int t.sum) H):=by
 intro b s o H f B Q I r h;obtain⟨a,t,rfl,j,q⟩:=h;cases r with
 |cons A k=>
  cases A;cases k;obtain⟨w,l,p,u⟩:=I.list j;have c:=jG l;obtain⟨f,y⟩:=c.allInts.items;have d:=p.isList;rw[y]at d;refine sum_intListG (I.ok.hd i) d λD v E m=>?_;have e:preSum (UZ f) f.size=t.sum:=by
   have g:=c.numsOf;have n:w=(SQ f).toList:=by rw[<-y]
   rw[n,VQ]at g;rw[preSum_eq,Sa (by simp),g]
  rw[e];exact⟨.int t.sum,H,I.kept m,⟨_,rfl⟩,q⟩
def Iq(i j:Int):Prop:=0<j/\j.natAbs.log2<9000
def Za(C:a0W)(f:a0N):Zf:=λx y H Q=>∃i j,x= .int i/\y= .int j/\C i j/\Q (.int<|f i j) H
theorem JK:Y4 X .FloorDiv (Za Iq λi j=>i/j):=by
 intro a s d H x y v u Q I f b h;obtain⟨i,j,rfl,rfl,c,q⟩:=h;obtain⟨t,rfl⟩:=f;obtain⟨w,rfl⟩:=b;have e:(0:Int)<j:=c.1;refine ifloordiv_int (by lia) ?_<|.inl<|PyProof.noPylong_of_log2 c.2;rw[Wx _<|by lia];exact⟨.int _,H,I.tok _,⟨_,rfl⟩,q⟩
theorem AK{K:Pa}{xs:a0i}{H:Hp}(Pv:Nat->St->Hp->Prop)(r:Pv 0 c H)(k:∀i c H,i<=xs.length->Pv i c H->eg K H a xs)
  (h:∀i x c H,xs[i]?=on x->Pv i c H->g x c H λd u=>z d u λb p=>if b=OK then C d p (Pv<|i+1)else Pv (i+1) d p) (f:∀c H,Pv xs.length c H->Q c H):dF (Zh K a) g z C c H Q:=by
 refine⟨λi m c H=>i<=xs.length/\m+i=xs.length/\Pv i c H,⟨xs.length,Qf _,by lia,r⟩,λi m c H ⟨l,s,j⟩=>?_⟩;by_cases n:i<xs.length
 .refine .inr ⟨⟨xs,xs[i],k i c H l j,OE n⟩,Pv<|i+1,λv o q=>⟨m-1,by lia,by lia,by lia,q⟩,λx o ⟨e,y⟩=>?_⟩
  subst e;exact h i x c o (y xs<|k i c o l j) j
 .obtain rfl:i=xs.length:=by lia
  exact .inl ⟨⟨xs,k _ c H l j,OX _⟩,f c H j⟩
theorem cy.plain{X:Cx}{i:Scope}(k:i.kind= .function)(s:(i.names.map (·.1)).Nodup)(f:∀y∈i.names,y.2≠ .free):cy X i cp cp []:=
 ⟨k,s,λy a e=>Pf e<|f y a,by simp,λj b=>Pf b<|by simp⟩
def uU(i j:Int):Prop:=i.natAbs<2^1000/\j.natAbs<2^1000
theorem kU{k:Int}(h:k.natAbs<2^1000):Wp k<=2^20:=by
 unfold Wp;split
 .exact Qf _
 .rename_i a
  have b:k.natAbs≠0:=by
   intro z;have:k=0:=Int.natAbs_eq_zero.mp z;subst this;simp at a
  have:=(Nat.log2_lt b).mpr h;have e:(2:Nat)^20=1048576:=by decide
  lia
theorem sj{X:Cx}:fX X (RZ .Mult) (rI uU λi j=> .int<|i*j):=ms λ_ _ _ _ _ _ _ a q=>mul_int q<|Xx (kU a.1)<|kU a.2
theorem bY.upd{H:Hp}(h:H a=OD):bY H (upd H a o):=λb u e=>by rw[bb<|aI e h];exact e
abbrev f0:=Int×a0c
abbrev a0w:=List<|f0×ON×V
abbrev a0J:=List<|f0×ON×OP
noncomputable def hI(k:a0c):Int:=reduceHash<|Tt<|k.map hashInt
def hB:Bool->f0->Int
 |true,k=>reduceHash<|Tt [hashInt k.1,hI k.2]
 |false,k=>hI k.2
def AS(a:ON)(b:Bool)(i:Nat)(j:a0w)(h:PZ):Prop:=
 ∃o es,∃f:a0J,h.get? a=on o/\o.ExactDict/\o.data= .dict es i/\es.toList=f.map (λy=>⟨hB b y.1,.ref y.2.1,y.2.2⟩)/\(f.map (·.1)).Nodup/\(a==V1)=OO/\f.length<=Pe/\
  VW (λ(x:f0×ON×V) (y:f0×ON×OP)=>x.1=y.1/\x.2.1=y.2.1/\aR x.2.2 y.2.2) j f
noncomputable def dX(a:ON)(b:Bool)(f:Nat)(i:a0w):HO:= .ext<|AS a b f i
theorem yy{P:Py}{w:PD}{b:Bool}{H:Hp}(S:AS a b g l h):cq P w H h a (dX a b g l):=by
 refine⟨S,?_,λc d z k=>?_⟩
 .obtain⟨o,_,_,e,_⟩:=S
  exact⟨o,e⟩
 .obtain⟨o,es,ys,e,r⟩:=z
  exact⟨o,es,ys,k _ e,r⟩
end
end L2
namespace L2.Pu
theorem j2{D d e:Sort _}{P Q R:D->d->e->Prop}{C:Prop}(h:∃a b c,P a b c/\Q a b c/\R a b c)(k:∀a b c,P a b c->Q a b c->R a b c->C):C:=by
 obtain⟨a,b,c,x,y,z⟩:=h;exact k a b c x y z
theorem l0{D c:Sort _}{P Q R:D->c->Prop}{C:Prop}(h:∃a b,P a b/\Q a b/\R a b)(k:∀a b,P a b->Q a b->R a b->C):C:=by
 obtain⟨a,b,x,y,z⟩:=h;exact k a b x y z
inductive D where
 |non|bl (b:Bool)|int (i:Int)|str (x:PP)|ty (n:String)|txt
 |lst (xs:List D)|tup (xs:List D)|scr (xs:a0c)|obj (C:ON) (ns:a0h) (xs:List D)|bag|adr (a:ON)|dct (b:Bool) (ks:List f0) (vs:List D)
abbrev a0e:=List D
abbrev a0k:=Option D
abbrev a0r:=List a0e
abbrev a0B:=Option a0e
abbrev a0T:=D->D->a0k
structure Bg where
 cells:a0c
 i:Int
 j:Int
structure Fx where
 A:ON->Prop
 bg:a0q
def KL(K:Pa)(a:ON)(E:a0i):Prop:=
 ∃(o:Qk) (D:a0M) (n:Nat),K.lookup a=on o/\o.cls= .type "list"/\o.dict=OD/\o.data= .seq D n/\D.size<=Pe/\aB E D.toList
def KT(K:Pa)(a:ON)(E:a0i):Prop:=
 ∃(o:Qk) (D:a0M) (n:Nat),K.lookup a=on o/\o.cls= .type "tuple"/\o.data= .seq D n/\D.size<=Pe/\aB E D.toList
def TQ(K:Pa)(F:Fx)(H:Hp)(c:ON)(D:a0i):Prop:=(¬F.A c/\Rd H c (.tup D))\/KT K c D
def iK(K:Pa)(F:Fx)(H:Hp):Bool->f0->ON->Prop
 |true,k,c=>∃e,TQ K F H c [.int k.1,.ref e]/\TQ K F H e (k.2.map V.int)
 |false,k,c=>k.1=0/\TQ K F H c (k.2.map V.int)
mutual
noncomputable def b5(K:Pa)(F:Fx)(H:Hp):D->V->Prop
 | .non,v=>v= .non
 | .bl b,v=>v= .bl b
 | .int i,v=>v= .int i
 | .str x,v=>v= .str x
 | .ty n,v=>v= .ty n
 | .txt,v=>∃z,v= .str z
 | .lst ds,v=>∃a E,v= .ref a/\(¬F.A a/\Rd H a (.lst E))/\ba K F H ds E
 | .scr ns,v=>∃a,v= .ref a/\((¬F.A a/\Rd H a (.lst<|ns.map V.int))\/KL K a (ns.map V.int))
 | .tup ds,v=>∃a E,v= .ref a/\((¬F.A a/\Rd H a (.tup E))\/KT K a E)/\ba K F H ds E
 | .obj C ns ds,v=>∃a c E,v= .ref a/\¬F.A a/\H a=on (.ins C c<|ns.zip E)/\ns.length=E.length/\ba K F H ds E
 | .bag,v=>∃b l,F.bg=on (b,l)/\v= .ref b
 | .adr a,v=>v= .ref a
 | .dct b ks vs,v=>∃a G E,v= .ref a/\(¬F.A a/\H a=on (dX a b G E))/\ks=E.map (·.1)/\(∀x∈E,iK K F H b x.1 x.2.1)/\ba K F H vs (E.map (·.2.2))
noncomputable def ba(K:Pa)(F:Fx)(H:Hp):a0e->a0i->Prop
 |[],xs=>xs=[]
 |d::ds,xs=>∃x r,xs=x::r/\b5 K F H d x/\ba K F H ds r
end
structure Tr (F:Fx) (H:Hp) (F2:Fx) (H2:Hp):Prop where
 av:∀a,¬F.A a->H a≠OD->¬F2.A a
 kp:∀a o,¬F.A a->H a=on o->H2 a=on o
 bg:F2.bg=F.bg
theorem Tr.refl(F:Fx)(H:Hp):Tr F H F H:=⟨λ_ h _=>h,λ_ _ _ h=>h,rfl⟩
theorem Tr.trans(a:Tr F H F1 H1)(b:Tr F1 H1 F2 H2):Tr F H F2 H2:=
 ⟨λx c d=>b.av x (a.av x c d) (by
   cases q:H x with
   |none=>exact Pf q d
   |some o=>rw[a.kp x o c q];simp),
  λx o c d=>b.kp x o (a.av x c<|by rw[d];simp)<|a.kp x o c d,b.bg.trans a.bg⟩
theorem Rd.tr{F b:Fx}(t:Tr F H b H2)(h:¬F.A a)(r:Rd H a u):¬b.A a/\Rd H2 a u:=by
 rcases r with r|⟨o,r⟩
 .exact⟨t.av a h (by rw[r];simp),.inl<|t.kp a _ h r⟩
 .exact⟨t.av a h (by rw[r];simp),.inr ⟨o,t.kp a _ h r⟩⟩
theorem TQ.tr{K:Pa}(t:Tr F H F2 H2)(h:TQ K F H c xs):TQ K F2 H2 c xs:=h.imp (λh=>Rd.tr t h.1 h.2) id
theorem iK.tr{K:Pa}{b:Bool}(t:Tr F H F2 H2)(h:iK K F H b k c):iK K F2 H2 b k c:=by
 cases b with
 |true=>
  obtain⟨e,a,d⟩:=h;exact⟨e,a.tr t,d.tr t⟩
 |false=>exact⟨h.1,h.2.tr t⟩
mutual
theorem b5.tr{K:Pa}(t:Tr F H F2 H2):∀(d:D) (v:V),b5 K F H d v->b5 K F2 H2 d v
 | .non,v,h=>h
 | .bl b,v,h=>h
 | .int i,v,h=>h
 | .str x,v,h=>h
 | .ty n,v,h=>h
 | .txt,v,h=>h
 | .lst ds,v,h=>by
  unfold b5 at h⊢;obtain⟨a,E,e,c,f⟩:=h;exact⟨a,E,e,Rd.tr t c.1 c.2,ba.tr t ds E f⟩
 | .scr ns,v,h=>by
  unfold b5 at h⊢;obtain⟨a,e,c⟩:=h;exact⟨a,e,c.imp (λ⟨p,q⟩=>Rd.tr t p q) id⟩
 | .tup ds,v,h=>by
  unfold b5 at h⊢;obtain⟨a,E,e,c,f⟩:=h;exact⟨a,E,e,c.imp (λ⟨p,q⟩=>Rd.tr t p q) id,ba.tr t ds E f⟩
 | .obj C ns ds,v,h=>by
  unfold b5 at h⊢;obtain⟨a,k,E,e,c,f,g,j⟩:=h;exact⟨a,k,E,e,t.av a c (by rw[f];simp),t.kp a _ c f,g,ba.tr t ds E j⟩
 | .bag,v,h=>by
  unfold b5 at h⊢;rw[t.bg];exact h
 | .adr a,v,h=>by
  unfold b5 at h⊢;exact h
 | .dct b ks vs,v,h=>by
  unfold b5 at h⊢;obtain⟨a,G,E,e,c,f,g,j⟩:=h;exact⟨a,G,E,e,⟨t.av a c.1 (by rw[c.2];simp),t.kp a _ c.1 c.2⟩,f,λx l=>(g x l).tr t,ba.tr t vs _ j⟩
theorem ba.tr{K:Pa}(t:Tr F H F2 H2):∀(ds:a0e) (xs:a0i),ba K F H ds xs->ba K F2 H2 ds xs
 |[],xs,h=>h
 |d::ds,xs,h=>by
  unfold ba at h⊢;obtain⟨x,r,e,a,b⟩:=h;exact⟨x,r,e,b5.tr t d x a,ba.tr t ds r b⟩
end
section
variable{K:Pa}{F:Fx}{H:Hp}
theorem ba.nil:ba K F H [] []:=rfl
theorem ba.cons(h:b5 K F H d x)(t:ba K F H ds xs):ba K F H (d::ds) (x::xs):=⟨x,xs,rfl,h,t⟩
theorem ba.length:∀{ds:a0e} {xs:a0i},ba K F H ds xs->ds.length=xs.length
 |[],xs,h=>by have e:xs=[]:=h;subst e;rfl
 |d::ds,xs,h=>by
  obtain⟨x,r,e,_,a⟩:=h;subst e;rw[O4,O4,ba.length a]
theorem ba.get:∀{ds:a0e} {xs:a0i} {i:Nat} {d:D},ba K F H ds xs->ds[i]?=on d->∃x,xs[i]?=on x/\b5 K F H d x
 |[],_,_,_,_,e=>by simp at e
 |c::ds,xs,0,d,h,e=>by
  obtain⟨x,r,q,a,b⟩:=h;subst q;simp at e;subst e;exact⟨x,rfl,a⟩
 |c::ds,xs,i+1,d,h,e=>by
  obtain⟨x,r,q,a,b⟩:=h;subst q;obtain⟨y,f,g⟩:=ba.get (i:=i) (d:=d) b (by simpa using e);exact⟨y,by simpa using f,g⟩
theorem ba.getV:∀{E:a0e} {D:a0i} {i:Nat} {x:V},ba K F H E D->D[i]?=on x->∃d,E[i]?=on d/\b5 K F H d x
 |[],D,_,_,h,e=>by have q:D=[]:=h;subst q;simp at e
 |c::E,D,0,d,h,e=>by
  obtain⟨x,r,q,a,b⟩:=h;subst q;simp at e;subst e;exact⟨c,rfl,a⟩
 |c::E,D,i+1,d,h,e=>by
  obtain⟨x,r,q,a,b⟩:=h;subst q;obtain⟨y,f,g⟩:=ba.getV (i:=i) (x:=d) b (by simpa using e);exact⟨y,by simpa using f,g⟩
theorem ba.append:∀{ds E:a0e} {xs D:a0i},ba K F H ds xs->ba K F H E D->ba K F H (ds++E) (xs++D)
 |[],_,xs,_,h,h'=>by have q:xs=[]:=h;subst q;exact h'
 |c::ds,E,xs,D,h,h'=>by
  obtain⟨x,r,q,a,b⟩:=h;subst q;exact⟨x,r++D,rfl,a,ba.append b h'⟩
theorem ba.take:∀{ds:a0e} {D:a0i} (n:Nat),ba K F H ds D->ba K F H (ds.take n) (D.take n)
 |[],D,n,h=>by have q:D=[]:=h;subst q;simp;rfl
 |c::ds,D,0,h=>by simp;rfl
 |c::ds,D,n+1,h=>by
  obtain⟨x,r,q,a,b⟩:=h;subst q;exact⟨x,r.take n,rfl,a,ba.take n b⟩
theorem ba.drop:∀{ds:a0e} {xs:a0i} (n:Nat),ba K F H ds xs->ba K F H (ds.drop n) (xs.drop n)
 |[],xs,n,h=>by have q:xs=[]:=h;subst q;simp;rfl
 |c::ds,xs,0,h=>h
 |c::ds,xs,n+1,h=>by
  obtain⟨x,r,q,b,a⟩:=h;subst q;exact ba.drop n a
theorem ba.set:∀{ds:a0e} {xs:a0i} (i:Nat) {d:D} {x:V},ba K F H ds xs->b5 K F H d x->ba K F H (ds.set i d) (xs.set i x)
 |[],xs,i,_,_,h,_=>by have q:xs=[]:=h;subst q;simp;rfl
 |c::ds,xs,0,d,x,h,hd=>by
  obtain⟨y,r,q,b,a⟩:=h;subst q;exact⟨x,r,rfl,hd,a⟩
 |c::ds,xs,i+1,d,x,h,hd=>by
  obtain⟨y,r,q,b,a⟩:=h;subst q;exact⟨y,r.set i x,rfl,b,ba.set i a hd⟩
theorem b5.sqL(h:b5 K F H (.lst d) v):∃a D,v= .ref a/\eg K H a D/\ba K F H d D:=by
 unfold b5 at h;obtain⟨a,D,e,b,c⟩:=h;exact⟨a,D,e,.inl b.2,c⟩
theorem b5.rdL(h:b5 K F H (.lst d) v):∃a D,v= .ref a/\Rd H a (.lst D)/\ba K F H d D:=by
 unfold b5 at h;obtain⟨a,D,e,b,c⟩:=h;exact⟨a,D,e,b.2,c⟩
theorem b5.scr{D:a0c}(h:b5 K F H (.scr D) v):∃a,v= .ref a/\eg K H a (D.map V.int):=by
 unfold b5 at h;obtain⟨a,e,b⟩:=h;exact⟨a,e,b.imp (λp=>p.2) id⟩
theorem b5.sqT(h:b5 K F H (.tup d) v):∃a D,v= .ref a/\g_ K H a D/\ba K F H d D:=by
 unfold b5 at h;obtain⟨a,D,e,b,c⟩:=h;exact⟨a,D,e,b.imp (λp=>p.2) id,c⟩
theorem b5.int(h:b5 K F H (.int i) v):v= .int i:=h
theorem b5.bl{i:Bool}(h:b5 K F H (.bl i) v):v= .bl i:=h
theorem b5.str(h:b5 K F H (.str i) v):v= .str i:=h
theorem b5.non(h:b5 K F H .non v):v= .non:=h
theorem b5.ty(h:b5 K F H (.ty n) v):v= .ty n:=h
theorem ba.ints:∀(E:a0c) {G:a0i},ba K F H (E.map D.int) G->G=E.map V.int
 |[],G,h=>h
 |n::E,G,h=>by
  obtain⟨x,r,e,a,b⟩:=h;rw[e,ba.ints E b];have q:x= .int n:=a;rw[q];rfl
theorem ba.ofInts:∀(E:a0c),ba K F H (E.map D.int)<|E.map V.int
 |[]=>rfl
 |n::E=>⟨.int n,E.map V.int,rfl,rfl,ba.ofInts E⟩
structure Fr (F:Fx) (H:Hp) (β:Bg):Prop where
 occ:∀a,F.A a->H a≠OD
 bgA:∀b l,F.bg=on (b,l)->F.A b/\F.A l/\b≠l
 bag:∀b l,F.bg=on (b,l)->H b=on (.lst [.ref l,.int β.i,.int β.j])/\H l=on (.lst<|β.cells.map V.int)
structure To (F:Fx) (H H':Hp) (β':Bg):Prop where
 kp:∀a o,H a=on o->(∀b l,F.bg=on (b,l)->a≠b/\a≠l)->H' a=on o
 fr:Fr F H' β'
theorem To.refl{F:Fx}{H:Hp}(fr:Fr F H β):To F H H β:=⟨λ_ _ h _=>h,fr⟩
theorem To.trans{F:Fx}{H c d:Hp}(a:To F H c β1)(b:To F c d e):To F H d e:=⟨λx o h n=>b.kp x o (a.kp x o h n) n,b.fr⟩
theorem Fr.same{F:Fx}{H c:Hp}(fr:Fr F H d)(s:bY H c):To F H c d:=
 ⟨λa o h _=>s a o h,⟨λa h q=>(by
  cases e:H a with
  |none=>exact fr.occ a h e
  |some o=>exact Pf ((s a o e).symm.trans q)<|by simp),fr.bgA,λb l e=>⟨s _ _ (fr.bag b l e).1,s _ _ (fr.bag b l e).2⟩⟩⟩
theorem Fr.upd{F:Fx}{H:Hp}(fr:Fr F H a)(o:HO)(h:H p=OD):To F H (upd H p o) a:=fr.same<|bY.upd h
theorem Fr.fresh{F:Fx}{H:Hp}(fr:Fr F H a)(h:H p=OD):¬F.A p:=λq=>fr.occ p q h
theorem To.tr{F:Fx}{H c:Hp}(fr:Fr F H f)(t:To F H c d):Tr F H F c:=
 ⟨λ_ h _=>h,λa o h e=>t.kp a o e λb l q=>⟨λz=>h<|z▸(fr.bgA b l q).1,λz=>h<|z▸(fr.bgA b l q).2.1⟩,rfl⟩
abbrev Dn:=List a0k
structure io (K:Pa) (F:Fx) (H:Hp) (δ:Dn) (σ:St):Prop where
 len:δ.length=σ.length
 tell:∀(i:Nat) (d:D),δ[i]?=on (on d)->∃v,σ[i]?=on (on v)/\b5 K F H d v
theorem io.tr{K:Pa}{F a:Fx}{H b:Hp}(t:Tr F H a b)(h:io K F H c f):io K a b c f:=⟨h.len,λi d e=>let ⟨v,h1,h2⟩:=h.tell i d e;⟨v,h1,b5.tr t d v h2⟩⟩
theorem io.set{K:Pa}{F:Fx}{H:Hp}{D:Dn}{a:St}(h:io K F H D a)(E:b5 K F H d v):io K F H (D.set i<|on d) (a.set i<|on v):=by
 refine⟨by rw[QC,QC,h.len],λj c e=>?_⟩;rw[QH]at e;rw[QH];by_cases q:i=j
 .subst q
  rw[OS rfl]at e⊢;split at e
  .rename_i b
   cases e;rw[OS<|by rw[<-h.len];exact b];exact⟨v,rfl,E⟩
  .cases e
 .rw[OR q]at e⊢
  exact h.tell j c e
def Sub(F E:Dn):Prop:=∀(i:Nat) (d:D),F[i]?=on (on d)->E[i]?=on (on d)
theorem io.sub{K:Pa}{F:Fx}{H:Hp}{E D:Dn}(h:io K F H D a)(s:Sub E D)(l:E.length=D.length):io K F H E a:=⟨l.trans h.len,λi d e=>h.tell i d<|s i d e⟩
abbrev M(D:Type):=Bg->Option (Except ON D×Bg)
abbrev a0p:=Dn->M Bool
noncomputable def M.ret{D:Type}(a:D):M D:=λE=>on (.ok a,E)
noncomputable def M.bind{D b:Type}(m:M D)(k:D->M b):M b:=λE=>match m E with
 |none=>OD
 |some (.error C,β1)=>on (.error C,β1)
 |some (.ok a,β1)=>k a β1
noncomputable def M.ofO{D:Type}(o:Option D):M D:=λE=>match o with
 |some a=>on (.ok a,E)
 |none=>OD
noncomputable def M.fail{D:Type}:M D:=λ_=>OD
theorem M.bind_some{D b:Type}(a:D)(k:D->M b):M.bind (M.ofO<|on a) k=k a:=rfl
theorem M.bind_ok{D b:Type}{m:M D}{k:D->M b}{β β1:Bg}{a:D}(h:m β=on (.ok a,β1)):M.bind m k β=k a β1:=by unfold M.bind;rw[h]
theorem M.bind_err{E a:Type}{m:M E}{k:E->M a}{F D:Bg}{C:ON}(h:m F=on (.error C,D)):M.bind m k F=on (.error C,D):=by unfold M.bind;rw[h]
def run{D c:Type}(R:Hp->D->c->Prop)(F:Fx)(E:a0s)(e:St)(m:M D)(H:Hp)(Q:c->Hp->Prop)(G:Bg):Prop:=
 ∃r a,m G=on (r,a)/\match r with
  | .ok d=>∀v b,To F H b a->R b d v->Q v b
  | .error C=>∀b,To F H b a->E e (.ref C) OD b
theorem run.mono{D c:Type}{R:Hp->D->c->Prop}{F:Fx}{E:a0s}{g:St}{m:M D}{H:Hp}{Q i:c->Hp->Prop}{β:Bg}(h:run R F E g m H Q β)(f:∀v a,Q v a->i v a):run R F E g m H i β:=by
 obtain⟨r,b,e,h⟩:=h;refine⟨r,b,e,?_⟩;cases r with
 |ok d=>exact λv a t q=>f v a<|h v a t q
 |error C=>exact h
theorem run.bind{G l i j:Type}{R:Hp->G->l->Prop}{R2:Hp->i->j->Prop}{F:Fx}{E:a0s}{b:St}{m:M G}{k:G->M i}{H:Hp}{Q:j->Hp->Prop}{K:Bg}(h:run R2 F E b (M.bind m k) H Q K):
  run R F E b m H (λv a=>∃d D,To F H a D/\R a d v/\run R2 F E b (k d) a Q D) K:=by
 obtain⟨r,c,e,h⟩:=h;cases q:m K with
 |none=>unfold M.bind at e;rw[q]at e;cases e
 |some z=>
  obtain⟨S,D⟩:=z;refine⟨S,D,q,?_⟩;cases S with
  |error C=>
   rw[M.bind_err q]at e;cases e;exact h
  |ok d=>
   rw[M.bind_ok q]at e;intro v a t V;refine⟨d,D,t,V,r,c,e,?_⟩;cases r with
   |ok p=>exact λn f g o=>h n f (t.trans g) o
   |error C=>exact λf g=>h f<|t.trans g
theorem run.ret{D b:Type}{R:Hp->D->b->Prop}{F:Fx}{E:a0s}{c:St}{a:D}{v:b}{H:Hp}{Q:b->Hp->Prop}{β:Bg}(fr:Fr F H β)(h:run R F E c (M.ret a) H Q β)(r:R H a v):Q v H:=by
 obtain⟨_,_,e,h⟩:=h;cases e;exact h v H (To.refl fr) r
theorem run.ofO{D c:Type}{R:Hp->D->c->Prop}{F:Fx}{E:a0s}{d:St}{o:Option D}{H:Hp}{Q:c->Hp->Prop}{G:Bg}(h:run R F E d (M.ofO o) H Q G):∃a,o=on a/\∀v b,To F H b G->R b a v->Q v b:=by
 obtain⟨_,_,e,h⟩:=h;cases o with
 |none=>cases e
 |some a=>cases e;exact⟨a,rfl,h⟩
abbrev FD:=Dn->M D
abbrev FL:=Dn->M a0e
def tV(K:Pa)(f:FD)(E:a0s):TE:=λa H Q=>∃F D G,Fr F H G/\io K F H D a/\run (b5 K F) F E a (f D) H Q G
def hX(K:Pa)(f:FL)(E:a0s):TA:=λa H Q=>∃F D G,Fr F H G/\io K F H D a/\run (ba K F) F E a (f D) H Q G
def hO(K:Pa)(f:a0p)(E:a0s):TT:=λc H Q=>∃F D G,Fr F H G/\io K F H D c/\run (λ_ (a b:Bool)=>b=a) F E c (f D) H Q G
theorem _root_.L2.PE.imp(h:PE X e t)(f:∀a H Q,c a H Q->t a H Q):PE X e c:=λb s a H Q I q=>h b s a H Q I<|f a H Q q
theorem _root_.L2.PT.imp(h:PT X e t)(f:∀a H Q,c a H Q->t a H Q):PT X e c:=λb s a H Q I q=>h b s a H Q I<|f a H Q q
theorem _root_.L2.PW.imp(h:PW X e t)(f:∀a H Q,d a H Q->t a H Q):PW X e d:=λc b s a H Q I q=>h c b s a H Q I<|f a H Q q
theorem _root_.L2.PA.imp(h:PA X e t)(f:∀a H Q,c a H Q->t a H Q):PA X e c:=λD b s a H Q I q=>h D b s a H Q I<|f a H Q q
def af(i:Nat):FD:=λD=>M.ofO<|D.getD i OD
def fC(d:D):FD:=λ_=>M.ret d
def f1(E:D->a0k)(f:FD):FD:=λF=>M.bind (f F) λa=>M.ofO<|E a
def f2(E:a0T)(f g:FD):FD:=λD=>M.bind (f D) λa=>M.bind (g D) λb=>M.ofO<|E a b
noncomputable def az:FL:=λ_=>M.ret []
def ae(f:FD)(g:FL):FL:=λD=>M.bind (f D) λa=>M.bind (g D) λE=>M.ret<|a::E
def aV(D:a0e->a0k)(g:FL):FD:=λE=>M.bind (g E) λF=>M.ofO<|D F
def bK(m:a0e->M D)(g:FL):FD:=λE=>M.bind (g E) λF=>m F
variable{X:Cx}{E:a0s}{e a b:Expr}{Y:List Expr}{U:TF}
theorem M2(i:Nat)(h:PE X (.Name x U)<|pF i):PE X (.Name x U) (tV X.K (af i) E):=h.imp λl H Q c=>by
 obtain⟨F,a,b,fr,f,r⟩:=c;obtain⟨d,e,r⟩:=run.ofO r;have g:a[i]?=on (on d):=by
  rw[OJ]at e;cases q:a[i]? with
  |none=>rw[q]at e;cases e
  |some z=>rw[q]at e;simp at e;rw[e]
 obtain⟨v,j,k⟩:=f.tell i d g;exact⟨v,j,r v H (To.refl fr) k⟩
theorem sD(h:PE X e<|tC v)(a:∀F H,b5 X.K F H d v):PE X e (tV X.K (fC d) E):=h.imp λf H Q c=>by obtain⟨F,b,D,fr,g,r⟩:=c;exact run.ret fr r<|a F H
theorem aj{i j U}:PE X (.Constant (.int i) j U) (tV X.K (fC<|.int i) E):=sD b9 λ_ _=>rfl
theorem eA{i j U}:PE X (.Constant (.bool i) j U) (tV X.K (fC<|.bl i) E):=sD Nq λ_ _=>rfl
theorem yP{j U}:PE X (.Constant .none j U) (tV X.K (fC .non) E):=sD K6 λ_ _=>rfl
theorem fM:PA X [] (hX X.K az E):=ii.imp λd H Q c=>by obtain⟨F,a,b,fr,f,r⟩:=c;exact run.ret fr r ba.nil
theorem ft(D:PE X e<|tV X.K f E)(k:PA X Y<|hX X.K g E)(G:b0a X e Y:=by rfl):PA X (e::Y) (hX X.K (ae f g) E):=
 (eF D k G).imp λm H Q c=>j2 c λF b M fr i r=>⟨F,b,M,fr,i,(run.bind (R:=b5 X.K F) r).mono λv n ⟨d,a,t,S,U⟩=>
  ⟨F,b,a,t.fr,i.tr<|t.tr fr,(run.bind (R:=ba X.K F) U).mono λp o c=>l0 c λq V j h l=>run.ret j.fr l<|ba.cons (b5.tr (j.tr t.fr) _ _ S) h⟩⟩
def bv(K:Pa)(r:R2)(E:a0T):Prop:=∀(F:Fx) (H:Hp) (a:Bg) (Q:VK) (b e d:D) (f g:V),Fr F H a->b5 K F H b f->b5 K F H e g->E b e=on d->
 (∀v c,To F H c a->b5 K F c d v->Q v c)->r f g H Q
def Ip(K:Pa)(r:V->Hp->VK->Prop)(e:D->a0k):Prop:=∀(F:Fx) (H:Hp) (a:Bg) (Q:VK) (b d:D) (f:V),Fr F H a->b5 K F H b f->e b=on d->
 (∀v c,To F H c a->b5 K F c d v->Q v c)->r f H Q
def d9(K:Pa)(r:a0I)(E:a0e->a0k):Prop:=∀(F:Fx) (H:Hp) (a:Bg) (Q:VK) (b:a0e) (d:D) (e:a0i),Fr F H a->ba K F H b e->E b=on d->
 (∀v c,To F H c a->b5 K F c d v->Q v c)->r e H Q
theorem qr{K:Pa}(l:bv K r op){H:Hp}(h:tV K (f2 op f g) E s H Q):YH r (tV K f E) (tV K g E) s H Q:=by
 obtain⟨F,e,D,fr,j,h⟩:=h;refine⟨F,e,D,fr,j,(run.bind (R:=b5 K F) h).mono λv u c=>l0 c λd a t G M=>⟨F,e,a,t.fr,j.tr<|t.tr fr,(run.bind (R:=b5 K F) M).mono λn o c=>l0 c λS b m i p=>?_⟩⟩;obtain⟨U,q,k⟩:=run.ofO p;exact l F o b Q d S U v n m.fr (b5.tr (m.tr t.fr) _ _ G) i q k
theorem br(c:fX X (RZ op) r)(l:bv X.K r o)(e:PE X a<|tV X.K f E)(d:PE X b<|tV X.K g E):PE X (.BinOp a op b U) (tV X.K (f2 o f g) E):=
 (eU c e d).imp λ_ _ _=>qr l
theorem iO(c:fX X (Qq op) r)(l:bv X.K r o)(e:PE X a<|tV X.K f E)(d:PE X b<|tV X.K g E)(D:T4 op b=OO:=by first|exact v3 _|rfl):PE X (.Compare a [op] [b] U) (tV X.K (f2 o f g) E):=
 (Ji c e d D).imp λ_ _ _=>qr l
theorem FF(g:ZG X (unaryOp op) r)(l:Ip X.K r o)(e:PE X a<|tV X.K f E):PE X (.UnaryOp op a U) (tV X.K (f1 o f) E):=
 (Np g e).imp λm H Q c=>j2 c λF D G fr i h=>⟨F,D,G,fr,i,(run.bind (R:=b5 X.K F) h).mono λv j c=>l0 c λd b t M S=>let ⟨d3,e3,k⟩:=run.ofO S;l F j b Q d d3 v t.fr M e3 k⟩
theorem aS(c:F0 X r)(l:bv X.K r o)(e:PE X a<|tV X.K f E)(d:PE X b<|tV X.K g E)(D:sU b:=by exact λ_ _=>rfl):PE X (.Subscript a b U) (tV X.K (f2 o f g) E):=
 (ig c e d D).imp λ_ _ _=>qr l
theorem BT{K:Pa}(l:d9 K r op){H:Hp}(h:tV K (aV op g) E m H Q):ZY r (hX K g E) m H Q:=by
 obtain⟨F,b,e,fr,c,h⟩:=h;refine⟨F,b,e,fr,c,(run.bind (R:=ba K F) h).mono λv f i=>l0 i λd a t D G=>?_⟩;obtain⟨M,j,k⟩:=run.ofO G;exact l F f a Q d M v t.fr D j k
theorem bU{f:String}(h:cK X (.builtin f) r)(l:d9 X.K r op)(i:Gl X x)(a:X.mg x=OD)(j:Su x=on (.builtin f))(b:PA X (e::Y)<|hX X.K g E)(D:x≠"__name__":=by decide)(c:b0c x:=by decide)
  (k:b0a X e Y:=by rfl) (d:b0b X U Y:=by rfl):PE X (.Call (.Name x p) (e::Y) [] U) (tV X.K (aV op g) E):=
 (j3 h i a j b D c k d).imp λ_ _ _=>BT l
theorem cX(f:cK X (.type T) r)(l:d9 X.K r op)(h:Gl X x)(a:X.mg x=OD)(i:Su x=on (.type T))(b:PA X (e::Y)<|hX X.K g E)(D:x≠"__name__":=by decide)(c:b0c x:=by decide)
  (j:b0a X e Y:=by rfl) (d:b0b X U Y:=by rfl):PE X (.Call (.Name x p) (e::Y) [] U) (tV X.K (aV op g) E):=
 (ng f h a i b D c j d).imp λ_ _ _=>BT l
noncomputable def gC(a:a0e):a0k:=if a.length<=Pe then on (.tup a)else OD
noncomputable def eX(ds:a0e):a0k:=if ds.length<=Pe then on (.lst ds)else OD
theorem b5.newT{K:Pa}{F:Fx}{H:Hp}(fr:Fr F H f)(h:H p=OD)(a:ba K F H d c):b5 K F (upd H p<|.tup c) (.tup d) (.ref p):=
 ⟨p,c,rfl,.inl ⟨fr.fresh h,.inl ax⟩,ba.tr ((fr.upd _ h).tr fr) _ _ a⟩
theorem b5.newL{K:Pa}{F:Fx}{H:Hp}(fr:Fr F H f)(h:H p=OD)(a:ba K F H d c):b5 K F (upd H p<|.lst c) (.lst d) (.ref p):=
 ⟨p,c,rfl,⟨fr.fresh h,.inl ax⟩,ba.tr ((fr.upd _ h).tr fr) _ _ a⟩
theorem cA{m}(h:PA X Y<|hX X.K g E):PE X (.Tuple Y m U) (tV X.K (aV gC g) E):=
 (K2 h).imp λj H Q d=>j2 d λF b e fr i r=>⟨F,b,e,fr,i,(run.bind (R:=ba X.K F) r).mono λM l d=>by
  obtain⟨S,D,t,a,G⟩:=d;obtain⟨V,c,k⟩:=run.ofO G;unfold gC at c;split at c
  .cases c
   exact⟨by rw[<-a.length];assumption,λp f=>k _ _ (t.fr.upd _ f)<|b5.newT t.fr f a⟩
  .cases c⟩
theorem dZ(h:PA X Y<|hX X.K g E):PE X (.List Y U) (tV X.K (aV eX g) E):=
 (fi h).imp λj H Q d=>j2 d λF b e fr i r=>⟨F,b,e,fr,i,(run.bind (R:=ba X.K F) r).mono λM l d=>by
  obtain⟨S,D,t,a,G⟩:=d;obtain⟨V,c,k⟩:=run.ofO G;unfold eX at c;split at c
  .cases c
   exact⟨by rw[<-a.length];assumption,λp f=>k _ _ (t.fr.upd _ f)<|b5.newL t.fr f a⟩
  .cases c⟩
def Ic(K:Pa)(n:Nat)(m:a0e->M D):Sp:=λa H Q E=>a.length=n/\∃F b e,Fr F H e/\ba K F H b a/\run (b5 K F) F (λ_=>E) [] (m b) H Q e
variable{p:TF}{x:PP}{k n:Nat}{f:ON}{fd:Pd}{ps:a0h}
theorem run.toE{a c:Type}{R:Hp->a->c->Prop}{F:Fx}{E:a0s}{d:St}{m:M a}{H:Hp}{Q:c->Hp->Prop}{b:Bg}(h:run R F E d m H Q b):run R F (λ_=>E d) [] m H Q b:=h
theorem Ke(G:fw X.prog X.w X.K X.mg X.base (hE X.prog X.w) k f fd ps<|Ic X.K n m)(q:dv k X.A)(u:Gl X x)(V:X.mg x=on (.ref f))(v:UF X.K (.ref f)=OK)(y:dH X.K fd ps [])(B:dT (hE X.prog X.w) X E)
  (s:PA X (e::Y)<|hX X.K g E) (z:∀a b r h,g a b=on (.ok r,h)->r.length=n) (c:b0c x:=by decide) (I:b0a X e Y:=by rfl) (d:b0b X U Y:=by rfl):
  PE X (.Call (.Name x p) (e::Y) [] U) (tV X.K (bK m g) E):=
 (oA G q u V v y .nil B s c I d).imp λT H Q J=>j2 J λF a b fr L r=>⟨F,a,b,fr,L,by
  obtain⟨M,i,l,o⟩:=run.bind (R:=ba X.K F) r;refine⟨M,i,l,?_⟩;cases M with
  |error C=>exact o
  |ok ds=>
   intro W N t S;obtain⟨Z,D,O,j,r1⟩:=o W N t S;have P:=z _ _ _ _ l;refine⟨by rw[P9,<-S.length,P],F,Z,D,O.fr,by rw[P9];exact j,run.toE r1⟩⟩
theorem Hh{r:a0e}(h:az d g=on (.ok r,c)):r.length=0:=by cases h;rfl
theorem bO{f:FD}{n:Nat}(d:∀a b r c,g a b=on (.ok r,c)->r.length=n):∀a b r c,ae f g a b=on (.ok r,c)->r.length=n+1:=by
 intro a b r c h;unfold ae M.bind at h;split at h
 .cases h
 .cases h
 .dsimp only at h
  split at h
  .cases h
  .cases h
  .rename_i as _ i
   cases h;rw[O4,d _ _ _ _ i]
noncomputable def ms(g:Int->Int->a0k):D->D->a0k
 | .int i,.int j=>g i j
 |_,_=>OD
theorem iD{a b d:D}(h:ms g a b=on d):∃i j,a= .int i/\b= .int j/\g i j=on d:=by
 cases a<;>first|cases h|(cases b<;>first|cases h|exact⟨_,_,rfl,rfl,h⟩)
theorem Ez{g:a0N}:bv K (o_ λi j=> .int<|g i j) (ms λi j=>on<|.int<|g i j):=λF H a Q b f d l m fr c h e k=>by
 obtain⟨i,j,rfl,rfl,e⟩:=iD e;cases e;exact⟨i,j,c,h,k _ H (To.refl fr) rfl⟩
theorem jF{g:Int->Int->Bool}:bv K (o_ λi j=> .bl<|g i j) (ms λi j=>on<|.bl<|g i j):=λF H a Q b f d l m fr c h e k=>by
 obtain⟨i,j,rfl,rfl,e⟩:=iD e;cases e;exact⟨i,j,c,h,k _ H (To.refl fr) rfl⟩
theorem tY{C:a0W}{c:Int->Int->Bool}{g:a0N}(l:∀i j,c i j=OK->C i j):bv K (rI C λi j=> .int<|g i j) (ms λi j=>if c i j=OK then on (.int<|g i j)else OD):=λF H a Q b f d q r fr m o e k=>by
 obtain⟨i,j,rfl,rfl,h⟩:=iD e;split at h
 .cases h
  exact⟨i,j,m,o,l _ _ (by assumption),k _ H (To.refl fr) rfl⟩
 .cases h
noncomputable def e8(i:Int):Bool:=decide (i.natAbs<2^1000)
def vh:D->D->a0k:=ms λi j=>on<|.int<|i-j
def Ii:D->D->a0k:=ms λi j=>if(decide (0<j)&&decide (j.natAbs.log2<9000))=OK then on (.int<|i/j)else OD
def sr:D->D->a0k:=ms λi j=>if decide (0<j)=OK then on (.int<|i % j)else OD
def S_:D->D->a0k:=ms λi j=>on<|.bl<|decide (i<j)
def U_:D->D->a0k:=ms λi j=>on<|.bl<|decide (i<=j)
def gtD:D->D->a0k:=ms λi j=>on<|.bl<|decide (j<i)
def geD:D->D->a0k:=ms λi j=>on<|.bl<|decide (j<=i)
theorem gD:bv K (o_ λi j=> .int<|i-j) vh:=Ez
theorem iG:bv K (o_ λi j=> .bl<|decide (i<j)) S_:=jF
theorem jq:bv K (o_ λi j=> .bl<|decide (i<=j)) U_:=jF
theorem me:bv K (o_ λi j=> .bl<|decide (j<i)) gtD:=jF
theorem GL:bv K (o_ λi j=> .bl<|decide (j<=i)) geD:=jF
theorem oJ:bv K (rI (λ_ j=>0<j) λi j=> .int<|i % j) sr:=tY λi j h=>QG h
noncomputable def zg:R2:=λx y H Q=>∃l b a c,x= .ref l/\y= .ref b/\Rd H l (.lst a)/\Rd H b (.lst c)/\a.length+c.length<=Pe/\∀p,H p=OD->Q (.ref p) (upd H p<|.lst<|a++c)
theorem Jn:fX X (RZ .Add) zg:=by
 intro d s t H x y v u Q I i j h;obtain⟨l,b,f,w,rfl,rfl,m,hB,A,q⟩:=h;cases i;cases j;obtain⟨z,a,n,r,e⟩:=m.ok I.hok;obtain⟨B,c,C,g,o⟩:=hB.ok I.hok;have J:=r.length;have L:=g.length;refine XS e o ?_ (by simp only[O7];lia);rw[show a.toArray++c.toArray=(a++c).toArray by simp];exact⟨.ref _,_,I.lnew (t':=s.toks) (r.append g) (by rw[O8];lia),rfl,q _ I.fresh⟩
def zh(K:Pa):R2:=λx y H Q=>∃a b e,x= .ref a/\y= .ref b/\g_ K H a []/\g_ K H b e/\Q (.ref b) H
theorem Jo:fX X (RZ .Add) (zh X.K):=by
 intro l s O H x y v u Q I t w h;obtain⟨a,b,F,rfl,rfl,f,A,q⟩:=h;cases t;cases w;obtain⟨k,p,B,_⟩:=I.tuple f;obtain⟨m,P,C,_⟩:=I.tuple A;cases p;obtain⟨⟨G,D,J,i⟩,o,r,n,e⟩:=B;obtain⟨⟨M,E,L,j⟩,c,d,N,g⟩:=C;simp only at r e d g;subst r e d g;exact PySem.concat_meets ⟨_,o,rfl⟩ ⟨_,c,rfl⟩ WE XZ UC Uu (Ui _ _) (tuple_addW0 a b _ _ n N D E i j<|by simp) ⟨o,c,⟨.ref b,H,I,rfl,q⟩⟩
noncomputable def ir:D->D->a0k
 | .int i,.int j=>on<|.int<|i+j
 | .tup [],.tup b=>on<|.tup b
 | .lst a,.lst b=>if a.length+b.length<=Pe then on (.lst<|a++b)else OD
 | .tup (c::a),.tup b=>if(c::a).length+b.length<=Pe then on (.tup<|c::a++b)else OD
 |_,_=>OD
theorem cV:bv K (λx y H Q=>(o_ λi j=> .int<|i+j) x y H Q\/zg x y H Q\/zf K x y H Q\/zh K x y H Q) ir:=λF H E Q G M d v w fr h l e k=>by
 unfold ir at e;split at e
 .cases e
  exact .inl ⟨_,_,h,l,k _ H (To.refl fr) rfl⟩
 .cases e
  obtain⟨a,f,rfl,n,c⟩:=b5.sqT h;obtain⟨b,D,rfl,m,g⟩:=b5.sqT l;have q:f=[]:=c;subst q;exact .inr<|.inr<|.inr ⟨a,b,D,rfl,rfl,n,m,k _ H (To.refl fr) l⟩
 .split at e
  .cases e
   obtain⟨a,f,rfl,n,c⟩:=b5.rdL h;obtain⟨b,D,rfl,m,g⟩:=b5.rdL l;exact .inr<|.inl ⟨a,b,f,D,rfl,rfl,n,m,by rw[<-c.length,<-g.length];assumption,λp o=>k _ _ (fr.upd _ o)<|b5.newL fr o<|c.append g⟩
  .cases e
 .split at e
  .cases e
   obtain⟨a,f,rfl,n,c⟩:=b5.sqT h;obtain⟨b,D,rfl,m,g⟩:=b5.sqT l;have r:=c.length;have t:=g.length;refine .inr<|.inr<|.inl ⟨a,b,f,D,rfl,rfl,n,m,(λz=>by subst z;cases r),by rw[<-r,<-t];assumption,λz=>?_,λ_ p o=>k _ _ (fr.upd _ o)<|b5.newT fr o<|c.append g⟩;subst z;have u:=UI.mp t;subst u;rw[P9]at k;exact k _ H (To.refl fr) h
  .cases e
 .cases e
theorem bz:fX X (RZ .Add) (λx y H Q=>(o_ λi j=> .int<|i+j) x y H Q\/zg x y H Q\/zf X.K x y H Q\/zh X.K x y H Q):=qR.or<|Jn.or<|Jm.or Jo
def zA:D->D->a0k:=ms λi j=>if(e8 i&&e8 j)=OK then on (.int<|i*j)else OD
theorem zO:bv K (rI uU λi j=> .int<|i*j) zA:=tY λi j h=>by
 simp only[Pr,e8,PR]at h;exact h
noncomputable def YN:D->D->a0S
 | .non,.non=>on OK
 | .int i,.int j=>on<|decide (i=j)
 | .bl i,.bl j=>on<|decide (i=j)
 | .str i,.str j=>on<|decide (i=j)
 | .int _,.str _=>on OO
 | .str _,.int _=>on OO
 | .bl _,.str _=>on OO
 | .str _,.bl _=>on OO
 | .non,.int _=>on OO
 | .int _,.non=>on OO
 | .non,.str _=>on OO
 | .str _,.non=>on OO
 |_,_=>OD
theorem E3{F:Fx}{H:Hp}{a b:D}{c:Bool}(h:YN a b=on c)(d:b5 K F H a v)(g:b5 K F H b w):FY v w=OK/\decide (v=w)=c:=by
 cases a<;>first|cases h|(cases b<;>first|(cases h;cases d;cases g;exact⟨rfl,rfl⟩)|(cases h;cases d;cases g;exact⟨rfl,by simp⟩)|cases h)
noncomputable def isN:D->Bool
 | .non=>OK
 |_=>OO
theorem EN{F:Fx}{H:Hp}(h:b5 K F H d v):decide (v= .non)=isN d:=by
 cases d with
 |non=>cases h.non;rfl
 |bl b=>cases h.bl;rfl
 |int b=>cases h.int;rfl
 |str b=>cases h.str;rfl
 |ty b=>cases h.ty;rfl
 |txt=>unfold b5 at h;obtain⟨z,rfl⟩:=h;rfl
 |lst ds=>obtain⟨a,e,rfl,_⟩:=b5.sqL h;rfl
 |tup ds=>obtain⟨a,e,rfl,_⟩:=b5.sqT h;rfl
 |scr ds=>obtain⟨a,rfl,_⟩:=b5.scr h;rfl
 |obj C ns ds=>
  unfold b5 at h;obtain⟨a,_,_,rfl,_⟩:=h;rfl
 |bag=>
  unfold b5 at h;obtain⟨a,_,_,rfl⟩:=h;rfl
 |adr a=>
  unfold b5 at h;obtain rfl:=h;rfl
 |dct b ks vs=>
  unfold b5 at h;obtain⟨a,_,e,rfl,_⟩:=h;rfl
noncomputable def Mn:D->D->a0k
 |a,.non=>on<|.bl<|isN a
 |_,_=>OD
noncomputable def zt:D->D->a0k
 |a,.non=>on<|.bl<|!isN a
 |_,_=>OD
theorem NI:bv K (λx y H Q=>y= .non/\Q (.bl<|decide (x= .non)) H) Mn:=λF H a Q b f d h i fr c g e k=>by
 unfold Mn at e;split at e
 .cases e
  exact⟨g,by rw[EN c];exact k _ H (To.refl fr) rfl⟩
 .cases e
theorem LE:bv K (λx y H Q=>y= .non/\Q (.bl<|!decide (x= .non)) H) zt:=λF H a Q b f d h i fr c g e k=>by
 unfold zt at e;split at e
 .cases e
  exact⟨g,by rw[EN c];exact k _ H (To.refl fr) rfl⟩
 .cases e
noncomputable def dS:D->Bool
 | .int _=>OK| .bl _=>OK| .str _=>OK| .non=>OK|_=>OO
noncomputable def L3:D->D->Bool
 | .non,.non=>OK
 | .bl a,.bl b=>a==b
 | .bl a,.int b=>(if a then 1 else 0)==b
 | .int a,.bl b=>a==(if b then 1 else 0)
 | .int a,.int b=>a==b
 | .str a,.str b=>a==b
 |_,_=>OO
noncomputable def gy:D->a0B
 | .lst a=>on a
 | .tup a=>on a
 |_=>OD
def Y1(x:D)(a:a0e):Bool:=a.any λy=>L3 y x
def YK(a:Bool)(x y:D):a0k:=(gy y).bind λb=>if(dS x&&b.all dS)=OK then on (.bl (if a then !Y1 x b else Y1 x b))else OD
theorem lL{F:Fx}{H:Hp}(f:dS d=OK)(h:b5 K F H d v):fL v=OK:=by
 cases d<;>first|(cases h.int;rfl)|(cases h.bl;rfl)|(cases h.str;rfl)|(cases h.non;rfl)|cases f
theorem E4{F:Fx}{H:Hp}{a b:D}(g:dS a=OK)(h:dS b=OK)(c:b5 K F H a v)(d:b5 K F H b w):x0 v w=L3 a b:=by
 cases a<;>first
  |(exfalso;exact OY g)
  |(cases b<;>first
   |(exfalso;exact OY h)
   |(cases c.int;cases d.int;rfl)|(cases c.int;cases d.bl;rfl)|(cases c.int;cases d.str;rfl)|(cases c.int;cases d.non;rfl)
   |(cases c.bl;cases d.int;rfl)|(cases c.bl;cases d.bl;rfl)|(cases c.bl;cases d.str;rfl)|(cases c.bl;cases d.non;rfl)
   |(cases c.str;cases d.int;rfl)|(cases c.str;cases d.bl;rfl)|(cases c.str;cases d.str;rfl)|(cases c.str;cases d.non;rfl)
   |(cases c.non;cases d.int;rfl)|(cases c.non;cases d.bl;rfl)|(cases c.non;cases d.str;rfl)|(cases c.non;cases d.non;rfl))
theorem ww{F:Fx}{H:Hp}{x:D}(c:dS x=OK)(g:b5 K F H x v):∀{b:a0e} {a:a0i},b.all dS=OK->ba K F H b a->a.all fL=OK/\ZB v a=Y1 x b
 |[],a,_,h=>by have q:a=[]:=h;subst q;exact⟨rfl,rfl⟩
 |d::b,a,f,h=>by
  obtain⟨y,r,q,i,l⟩:=h;subst q;rw[Tu,Pr]at f;obtain⟨m,j⟩:=ww c g f.2 l;refine⟨by rw[Tu,lL f.1 i,m];rfl,?_⟩;unfold ZB Y1 at j⊢;rw[Uy,Uy,j,E4 f.1 c i g]
theorem GK{neg:Bool}:bv K (Z8 K neg) (YK neg):=λF H p Q x n d l m fr g j e k=>by
 unfold YK at e;cases q:gy n with
 |none=>rw[q]at e;cases e
 |some D=>
  rw[q]at e;simp only[Tj]at e;split at e
  .rename_i c
   rw[Pr]at c;cases e;cases n<;>first|(cases q;obtain⟨a,b,rfl,f,dl⟩:=b5.sqL j;obtain⟨h,i⟩:=ww c.1 g c.2 dl;exact⟨a,b,rfl,.inl f,lL c.1 g,h,by rw[i];exact k _ H (To.refl fr) rfl⟩)|(cases q;obtain⟨a,b,rfl,f,dl⟩:=b5.sqT j;obtain⟨h,i⟩:=ww c.1 g c.2 dl;exact⟨a,b,rfl,.inr f,lL c.1 g,h,by rw[i];exact k _ H (To.refl fr) rfl⟩)|cases q
  .cases e
def gt:D->D->a0k
 | .lst xs,.int i=>p0 xs i
 | .tup xs,.int i=>p0 xs i
 |_,_=>OD
theorem Fl{F:Fx}{H:Hp}(h:ba K F H c g)(e:p0 c i=on d):∃v,p0 g i=on v/\b5 K F H d v:=by
 unfold p0 at e⊢;rw[<-h.length];cases q:m_ c.length i with
 |none=>rw[q]at e;cases e
 |some j=>
  rw[q]at e;exact h.get e
theorem aT:bv K (λx y H Q=>pS K x y H Q\/F5 K x y H Q) gt:=λF H f Q n p d i j fr g h e k=>by
 unfold gt at e;split at e
 .obtain⟨a,xs,rfl,r1,dl⟩:=b5.sqL g
  obtain⟨v,c,b⟩:=Fl dl e;exact .inl ⟨a,xs,_,v,rfl,h,r1,c,k _ H (To.refl fr) b⟩
 .obtain⟨a,xs,rfl,r1,dl⟩:=b5.sqT g
  obtain⟨v,c,b⟩:=Fl dl e;exact .inr ⟨a,xs,_,v,rfl,h,r1,c,k _ H (To.refl fr) b⟩
 .cases e
theorem ay:F0 X (λx y H Q=>pS X.K x y H Q\/F5 X.K x y H Q):=eK.or Ml
noncomputable def eJ:a0e->a0k
 |[.lst xs]=>on<|.int xs.length
 |[.tup xs]=>on<|.int xs.length
 |_=>OD
theorem ba.one{F:Fx}{H:Hp}(h:ba K F H [d] i):∃v,i=[v]/\b5 K F H d v:=by
 obtain⟨x,r,e,c,g⟩:=h;have q:r=[]:=g;subst q;exact⟨x,e,c⟩
theorem ba.two{F:Fx}{H:Hp}(h:ba K F H [d,c] l):∃v w,l=[v,w]/\b5 K F H d v/\b5 K F H c w:=by
 obtain⟨x,r,e,g,i⟩:=h;obtain⟨y,rfl,j⟩:=ba.one i;exact⟨x,y,e,g,j⟩
theorem NG:d9 K (λb H Q=>∃p f,b=[.ref p]/\(eg K H p f\/g_ K H p f)/\Q (.int f.length) H) eJ:=λF H n Q x d D fr h e k=>by
 unfold eJ at e;split at e
 .cases e
  obtain⟨v,rfl,g⟩:=ba.one h;obtain⟨a,b,rfl,r,dl⟩:=b5.sqL g;exact⟨a,b,rfl,.inl r,by rw[<-dl.length];exact k _ H (To.refl fr) rfl⟩
 .cases e
  obtain⟨v,rfl,g⟩:=ba.one h;obtain⟨a,b,rfl,r,dl⟩:=b5.sqT g;exact⟨a,b,rfl,.inr r,by rw[<-dl.length];exact k _ H (To.refl fr) rfl⟩
 .cases e
noncomputable def xi:a0e->a0k
 |[.int i]=>on<|.int (if i<0 then -i else i)
 |_=>OD
theorem NK:d9 K (λa H Q=>∃i,a=[.int i]/\Q (.int (if i<0 then -i else i)) H) xi:=λF H b Q f d n fr h e k=>by
 unfold xi at e;split at e
 .cases e
  obtain⟨v,rfl,g⟩:=ba.one h;cases g.int;exact⟨_,rfl,k _ H (To.refl fr) rfl⟩
 .cases e
noncomputable def wb:a0e->a0k
 |[.int i,.int j]=>on<|.int (if j<i then j else i)
 |_=>OD
noncomputable def zD:a0e->a0k
 |[.int i,.int j]=>on<|.int (if j>i then j else i)
 |_=>OD
theorem zP:d9 K (λa H Q=>∃i j,a=[.int i,.int j]/\Q (.int (if j<i then j else i)) H) wb:=λF H f Q n d p fr h e k=>by
 unfold wb at e;split at e
 .cases e
  obtain⟨v,w,rfl,g,b⟩:=ba.two h;cases g.int;cases b.int;exact⟨_,_,rfl,k _ H (To.refl fr) rfl⟩
 .cases e
theorem HX:d9 K (λa H Q=>∃i j,a=[.int i,.int j]/\Q (.int (if j>i then j else i)) H) zD:=λF H f Q n d p fr h e k=>by
 unfold zD at e;split at e
 .cases e
  obtain⟨v,w,rfl,g,b⟩:=ba.two h;cases g.int;cases b.int;exact⟨_,_,rfl,k _ H (To.refl fr) rfl⟩
 .cases e
noncomputable def cS:a0e->Option a0c
 |[]=>on []
 | .int i::r=>(cS r).map (i::·)
 |_=>OD
theorem fh:∀{a:a0e} {b:a0c},cS a=on b->a=b.map D.int
 |[],b,h=>by cases h;rfl
 |d::a,b,h=>by
  cases d with
  |int i=>
   unfold cS at h;cases q:cS a with
   |none=>rw[q]at h;cases h
   |some c=>rw[q]at h;cases h;rw[fh q];rfl
  |_=>cases h
theorem mo:∀a:a0c,cS (a.map D.int)=on a
 |[]=>rfl
 |n::a=>by
  show(cS<|a.map D.int).map (n::·)=_;rw[mo a];rfl
def FU:a0e->a0k
 |[.lst xs]=>(cS xs).map λa=> .int a.sum
 |_=>OD
theorem NE:d9 K (λf H Q=>∃(a:ON) (b:a0c),f=[.ref a]/\eg K H a (b.map V.int)/\Q (.int b.sum) H) FU:=λF H n Q p d x fr h e k=>by
 unfold FU at e;split at e
 .rename_i f
  cases q:cS f with
  |none=>rw[q]at e;cases e
  |some b=>
   rw[q]at e;cases e;obtain⟨v,rfl,g⟩:=ba.one h;obtain⟨a,D,rfl,r,dl⟩:=b5.sqL g;rw[fh q]at dl;have c:=ba.ints b dl;subst c;exact⟨a,b,rfl,r,k _ H (To.refl fr) rfl⟩
 .cases e
noncomputable def uK:a0e->a0k
 |[.lst xs]=>on<|.lst xs
 |[.tup xs]=>on<|.lst xs
 |_=>OD
theorem lJ:d9 K (λb H Q=>∃p f,b=[.ref p]/\(eg K H p f\/g_ K H p f)/\∀l,H l=OD->Q (.ref l) (upd H l<|.lst f)) uK:=λF H n Q x d D fr h e k=>by
 unfold uK at e;split at e
 .cases e
  obtain⟨v,rfl,g⟩:=ba.one h;obtain⟨a,b,rfl,r,dl⟩:=b5.sqL g;exact⟨a,b,rfl,.inl r,λl c=>k _ _ (fr.upd _ c)<|b5.newL fr c dl⟩
 .cases e
  obtain⟨v,rfl,g⟩:=ba.one h;obtain⟨a,b,rfl,r,dl⟩:=b5.sqT g;exact⟨a,b,rfl,.inr r,λl c=>k _ _ (fr.upd _ c)<|b5.newL fr c dl⟩
 .cases e
noncomputable def u9:a0e->a0k
 |[.lst xs]=>on<|.tup xs
 |[.tup xs]=>on<|.tup xs
 |_=>OD
theorem jJ:d9 K (λb H Q=>∃p f,b=[.ref p]/\((eg K H p f/\∀l,H l=OD->Q (.ref l) (upd H l<|.tup f))\/(g_ K H p f/\Q (.ref p) H))) u9:=λF H n Q x d D fr h e k=>by
 unfold u9 at e;split at e
 .cases e
  obtain⟨v,rfl,g⟩:=ba.one h;obtain⟨a,b,rfl,r,dl⟩:=b5.sqL g;exact⟨a,b,rfl,.inl ⟨r,λl c=>k _ _ (fr.upd _ c)<|b5.newT fr c dl⟩⟩
 .cases e
  obtain⟨v,rfl,g⟩:=ba.one h;obtain⟨a,b,rfl,r,dl⟩:=b5.sqT g;exact⟨a,b,rfl,.inr ⟨r,k _ H (To.refl fr) g⟩⟩
 .cases e
noncomputable def asB:D->a0S
 | .bl b=>on b
 |_=>OD
theorem kj{b:Bool}(h:asB d=on b):d= .bl b:=by cases d<;>first|(cases h;rfl)|cases h
noncomputable def FM:D->a0S
 | .non=>on OO
 | .bl b=>on b
 | .int i=>on<|i !=0
 | .lst xs=>on<|!xs.isEmpty
 | .tup xs=>on<|!xs.isEmpty
 |_=>OD
def fB(f:FD):Dn->M Bool:=λa=>M.bind (f a) λd=>M.ofO<|asB d
def AF(f:FD):Dn->M Bool:=λa=>M.bind (f a) λd=>M.ofO<|FM d
def AG(f g:a0p):Dn->M Bool:=λa=>M.bind (f a) λc=>if c=OK then M.ret OK else g a
def AH(f:a0p):Dn->M Bool:=λa=>M.bind (f a) λc=>M.ret<|!c
def sK(f g:FD):FD:=λa=>M.bind (f a) λd=>M.bind (M.ofO<|asB d) λc=>if c=OK then g a else M.ret (.bl OO)
def G2(f:FD):FD:=λa=>M.bind (f a) λd=>M.bind (M.ofO<|asB d) λc=>M.ret<|.bl<|!c
def V_(t:a0p)(f g:FD):FD:=λa=>M.bind (t a) λc=>if c=OK then f a else g a
def lM(o d:a0T)(f g h:FD):FD:=λe=>M.bind (f e) λa=>M.bind (g e) λb=>M.bind (M.ofO<|o a b) λz=>M.bind (M.ofO<|asB z) λc=>if c=OK then M.bind (h e) (λw=>M.ofO<|d b w)else M.ret (.bl OO)
variable{c:Expr}{w:List Expr}
theorem M.ofO_bind{b d:Type}{o:Option b}{k:b->M d}{c:Bg}{z:Except ON d×Bg}(h:M.bind (M.ofO o) k c=on z):∃a,o=on a/\k a c=on z:=by
 cases o with
 |none=>cases h
 |some a=>exact⟨a,rfl,h⟩
theorem run.ofO_bind{b g i:Type}{R:Hp->g->i->Prop}{F:Fx}{j:St}{o:Option b}{k:b->M g}{H:Hp}{Q:i->Hp->Prop}{c:Bg}(h:run R F E j (M.bind (M.ofO o) k) H Q c):∃a,o=on a/\run R F E j (k a) H Q c:=by
 obtain⟨r,d,e,h⟩:=h;obtain⟨a,q,e⟩:=M.ofO_bind e;exact⟨a,q,r,d,e,h⟩
theorem run.bOk{F:Fx}{H:Hp}(fr:Fr F H g)(c:b5 K F H d v)(h:run (λ_ (a b:Bool)=>b=a) F E i (M.ofO<|asB d) H Q g):∃k,v= .bl k/\Q k H:=by
 obtain⟨b,e,k⟩:=run.ofO h;rw[kj e]at c;exact⟨b,c,k b H (To.refl fr) rfl⟩
theorem pG{f:FD}{H:Hp}(h:hO K (fB f) E m H Q):tV K f E m H λx g=>∃k,x= .bl k/\Q k g:=by
 obtain⟨F,a,b,fr,i,h⟩:=h;exact⟨F,a,b,fr,i,(run.bind (R:=b5 K F) h).mono λv l j=>l0 j λd c t e n=>run.bOk t.fr e n⟩
theorem aQ{f g:FD}(d:fX X (Qq op) r)(l:bv X.K r o)(c:PE X a<|tV X.K f E)(i:PE X b<|tV X.K g E)(e:T4 op b=OO:=by first|exact v3 _|rfl):PT X (.Compare a [op] [b] U) (hO X.K (fB (f2 o f g)) E):=
 (xT d c i e).imp λj H Q h=>qr l<|pG h
theorem BR{f g h:FD}(l:bv K r o)(Y:bv K r' s){H:Hp}(B:tV K (lM o s f g h) E σ H Q):BS r r' (tV K f E) (tV K g E) (tV K h E) σ H Q:=by
 obtain⟨F,b,D,fr,I,B⟩:=B;refine⟨F,b,D,fr,I,(run.bind (R:=b5 K F) B).mono λv H1 j=>l0 j λd n t G S=>⟨F,b,n,t.fr,I.tr<|t.tr fr,(run.bind (R:=b5 K F) S).mono λP Z j=>l0 j λp a m u V=>?_⟩⟩;obtain⟨z,T,X⟩:=run.ofO_bind V;obtain⟨c,ec,A⟩:=run.ofO_bind X;rw[kj ec]at T;refine l F Z a _ d p _ v P m.fr (b5.tr (m.tr t.fr) _ _ G) u T λvz U i hz=>⟨c,hz,?_⟩;cases c with
 |true=>
  rw[OS rfl]at A;refine⟨F,b,a,i.fr,I.tr<|(t.tr fr).trans<|(m.tr t.fr).trans<|i.tr m.fr,?_⟩;have r5:run (b5 K F) F E σ (M.bind (h b) λw=>M.ofO<|s p w) U Q a:=by
   obtain⟨J,y,e,q⟩:=A;refine⟨J,y,e,?_⟩;cases J with
   |ok d=>exact λv L x=>q v L<|i.trans x
   |error C=>exact λL x=>q L<|i.trans x
  refine(run.bind (R:=b5 K F) r5).mono λw H4 j=>l0 j λdw N W O r6=>?_;obtain⟨d3,e3,k⟩:=run.ofO r6;exact Y F H4 N Q p dw d3 P w W.fr (b5.tr ((i.tr m.fr).trans<|W.tr i.fr) _ _ u) O e3 k
 |false=>
  rw[OR OY]at A;obtain⟨J,y,e,q⟩:=A;cases e;exact q _ U i rfl
theorem k8{f g h:FD}(i:fX X (Qq op) r)(d:fX X (Qq s) v)(l:bv X.K r o)(j:bv X.K v y)(e:PE X a<|tV X.K f E)(m:PE X b<|tV X.K g E)(t:PE X c<|tV X.K h E)(k:Yo [op,s] [b,c]=OO:=by with_unfolding_all rfl):
  PT X (.Compare a [op,s] [b,c] U) (hO X.K (fB<|lM o y f g h) E):=(F7 i d e m t k).imp λu H Q q=>BR l j<|pG q
theorem IG{F:Fx}{H:Hp}{k:Bool}(h:FM d=on k)(c:b5 K F H d v):Hi K v H k:=by
 cases d with
 |non=>cases h;cases c.non;rfl
 |bl b=>cases h;cases c.bl;rfl
 |int i=>cases h;cases c.int;rfl
 |lst xs=>
  cases h;obtain⟨a,e,rfl,r,dl⟩:=b5.sqL c;refine .inl ⟨e,r,?_⟩;have:=dl.length;cases xs<;>cases e<;>first|rfl|(simp at this)
 |tup xs=>
  cases h;obtain⟨a,e,rfl,r,dl⟩:=b5.sqT c;refine .inr ⟨e,r,?_⟩;have:=dl.length;cases xs<;>cases e<;>first|rfl|(simp at this)
 |_=>cases h
theorem cT{f:FD}(b:PE X a<|tV X.K f E)(j:∀g,isTrue a X.env g=(do let v <-g;SY a.pos;SX [v] (truthy v)):=by intro _;rfl):PT X a (hO X.K (AF f) E):=
 (F6 b j).imp λo H Q i=>j2 i λF c n fr l h=>⟨F,c,n,fr,l,(run.bind (R:=b5 X.K F) h).mono λv m i=>by
  obtain⟨d,p,t,w,x⟩:=i;obtain⟨k,e,q⟩:=run.ofO x;exact⟨k,IG e w,q k m (To.refl t.fr) rfl⟩⟩
theorem c9{f:a0p}(c:PT X a<|hO X.K f E):PT X (.UnaryOp .Not a U) (hO X.K (AH f) E):=
 (KV c).imp λj H Q g=>j2 g λF e k fr i h=>⟨F,e,k,fr,i,(run.bind (R:=λ_ (a b:Bool)=>b=a) h).mono λv l g=>by
  obtain⟨d,n,t,p,w⟩:=g;subst p;exact run.ret t.fr w rfl⟩
theorem Kn{f g:a0p}{H:Hp}(h:hO K (AG f g) E m H Q):tOr (hO K f E) (hO K g E) m H Q:=by
 obtain⟨F,k,n,fr,i,h⟩:=h;refine⟨F,k,n,fr,i,(run.bind (R:=λ_ (a b:Bool)=>b=a) h).mono λv l j=>l0 j λd e t p c=>?_⟩;subst p;cases v with
 |false=>rw[OR OY]at c⊢;exact⟨F,k,e,t.fr,i.tr<|t.tr fr,c⟩
 |true=>rw[OS rfl]at c⊢;exact run.ret t.fr c rfl
theorem dY{f:a0p}(b:PT X a<|hO X.K f E):PW X (.BoolOp .Or [a] U) (hO X.K f E):=KS b
theorem dm{f g:a0p}(c:PT X a<|hO X.K f E)(d:PW X (.BoolOp .Or (b::w) U)<|hO X.K g E):PW X (.BoolOp .Or (a::b::w) U) (hO X.K (AG f g) E):=(No c d).imp λ_ _ _=>Kn
theorem cZ{e:Expr}{f:a0p}(h:PW X e<|hO X.K f E):PT X e (hO X.K f E):=PW.pt h
theorem M4{op}{f:FD}(h:PE X a<|tV X.K f E):PE X (.BoolOp op [a] U) (tV X.K f E):=K4 h
theorem run.asB{F:Fx}{k:Bool->M D}{H:Hp}(a:b5 K F H d v)(h:run (b5 K F) F E g (M.bind (M.ofO<|asB d) k) H Q i):∃c,v= .bl c/\run (b5 K F) F E g (k c) H Q i:=by
 obtain⟨c,e,h⟩:=run.ofO_bind h;rw[kj e]at a;exact⟨c,a,h⟩
theorem M8{f g:FD}(p:PE X a<|tV X.K f E)(m:PE X (.BoolOp .And (b::w) U)<|tV X.K g E):PE X (.BoolOp .And (a::b::w) U) (tV X.K (sK f g) E):=
 (K8 p m).imp λo H Q j=>j2 j λF n x fr l h=>⟨F,n,x,fr,l,(run.bind (R:=b5 X.K F) h).mono λv q j=>by
  obtain⟨d,k,t,D,G⟩:=j;obtain⟨c,e,i⟩:=run.asB D G;refine⟨c,e,?_⟩;cases c with
  |true=>rw[OS rfl]at i⊢;exact⟨F,n,k,t.fr,l.tr<|t.tr fr,i⟩
  |false=>rw[OR OY]at i⊢;exact run.ret t.fr i rfl⟩
theorem M5{f:FD}(b:PE X a<|tV X.K f E):PE X (.UnaryOp .Not a U) (tV X.K (G2 f) E):=
 (K5 b).imp λl H Q g=>j2 g λF k n fr i h=>⟨F,k,n,fr,i,(run.bind (R:=b5 X.K F) h).mono λv m g=>by
  obtain⟨d,p,t,w,x⟩:=g;obtain⟨c,e,j⟩:=run.asB w x;exact⟨c,e,run.ret t.fr j rfl⟩⟩
theorem Kd{f g:FD}(l:PT X c<|hO X.K t E)(p:PE X a<|tV X.K f E)(m:PE X b<|tV X.K g E):PE X (.IfExp c a b U) (tV X.K (V_ t f g) E):=
 (Gf l p m).imp λo H Q i=>j2 i λF n w fr j h=>⟨F,n,w,fr,j,(run.bind (R:=λ_ (a b:Bool)=>b=a) h).mono λv q i=>by
  obtain⟨d,e,t,x,k⟩:=i;subst x;cases v with
  |true=>rw[OS rfl]at k⊢;exact⟨F,n,e,t.fr,j.tr<|t.tr fr,k⟩
  |false=>rw[OR OY]at k⊢;exact⟨F,n,e,t.fr,j.tr<|t.tr fr,k⟩⟩
noncomputable def ZQ:D->Option String
 | .non=>on "NoneType"| .bl _=>on "bool"| .int _=>on "int"| .str _=>on "str"| .lst _=>on "list"| .tup _=>on "tuple"|_=>OD
def Zo:List String:=["int","bool","str","NoneType","list","tuple"]
noncomputable def zQ(a b:String):a0S:=if Zo.contains a&&Zo.contains b&&b !="NoneType"&&(b !="int"||a==b)then on (a==b)else OD
theorem zv{a:String}(h:Zo.contains a=OK):a="int"\/a="bool"\/a="str"\/a="NoneType"\/a="list"\/a="tuple":=by
 simpa[Zo]using h
theorem JG{a b:String}{c:Bool}(h:zQ a b=on c):kitOne K (.type a) (.type b)=on c:=by
 unfold zQ at h;split at h
 case isFalse=>cases h
 rename_i q;simp only[Pr]at q;cases h;rcases zv q.1.1.1 with rfl|rfl|rfl|rfl|rfl|rfl<;>rcases zv q.1.1.2 with rfl|rfl|rfl|rfl|rfl|rfl<;>first|exact Pf q.1.2 (by decide)|exact Pf q.2 (by decide)|kernel_rfl
def TyG(K:Pa)(H:Hp)(x:V)(t:OP):Prop:=l_ K H x t\/(∃a b,x= .ref a/\eg K H a b/\t= .type "list")\/(∃a b,x= .ref a/\g_ K H a b/\t= .type "tuple")
def HM(K:Pa):a0i->Hp->VK->Prop:=λa H Q=>∃x c t b,a=[x,.ty c]/\TyG K H x t/\kitOne K t (.type c)=on b/\Q (.bl b) H
theorem Ff:cK X (.builtin "isinstance") (HM X.K):=by
 intro j s u H E F Q I r h;obtain⟨x,c,t,b,rfl,f,e,q⟩:=h;cases r with
 |cons k d=>
  cases d with
  |cons d m=>
   cases m;cases d;rcases f with f|⟨a,D,rfl,n,rfl⟩|⟨a,D,rfl,n,rfl⟩
   .exact EM I k f e λl=>⟨.bl b,H,I.tok _,rfl,q⟩
   .cases k
    obtain⟨p,_,w,_⟩:=I.list n;obtain⟨o,g,i,_⟩:=w.isList;exact UQ kitx_list I.kIn ⟨o,g,i⟩ e (λz=>nomatch z) λl=>⟨.bl b,H,I.tok _,rfl,q⟩
   .cases k
    obtain⟨p,_,w,_⟩:=I.tuple n;obtain⟨o,g,i,_⟩:=w;exact UQ Xd I.kIn ⟨o,g,i⟩ e (λz=>nomatch z) λl=>⟨.bl b,H,I.tok _,rfl,q⟩
theorem Ki{F:Fx}{H:Hp}(h:ZQ d=on t)(c:b5 K F H d v):TyG K H v (.type t):=by
 cases d with
 |non=>cases h;cases c.non;exact .inl .non
 |bl b=>cases h;cases c.bl;exact .inl<|.bl b
 |int b=>cases h;cases c.int;exact .inl<|.int b
 |str b=>cases h;cases c.str;exact .inl<|.str b
 |lst ds=>cases h;obtain⟨a,e,rfl,f,_⟩:=b5.sqL c;exact .inr<|.inl ⟨a,e,rfl,f,rfl⟩
 |tup ds=>cases h;obtain⟨a,e,rfl,f,_⟩:=b5.sqT c;exact .inr<|.inr ⟨a,e,rfl,f,rfl⟩
 |_=>cases h
def GQ:a0e->a0k
 |[x,.ty c]=>(ZQ x).bind λt=>(zQ t c).map D.bl
 |_=>OD
theorem NH:d9 K (HM K) GQ:=λF H f Q n d p fr h e k=>by
 unfold GQ at e;split at e
 .rename_i x c
  cases q:ZQ x with
  |none=>rw[q]at e;cases e
  |some t=>
   rw[q]at e;simp only[Tj]at e;cases a:zQ t c with
   |none=>rw[a]at e;cases e
   |some b=>
    rw[a]at e;cases e;obtain⟨v,w,rfl,g,i⟩:=ba.two h;cases i.ty;exact⟨v,c,_,b,rfl,Ki q g,JG a,k _ H (To.refl fr) rfl⟩
 .cases e
def t_(K:Pa)(J:It)(F:Fx)(H:Hp)(b:a0e):Prop:=∀(h:Fx) (g:Hp) (a:Bg),Tr F H h g->Fr h g a->∀i,(∀d,b[i]?=on d->J.go i g/\∀x j,J.yld i g x j->bY g j/\b5 K h j d x)/\(i=b.length->J.stop i g)
theorem t_.tr{K:Pa}{F d:Fx}{H g:Hp}(t:Tr F H d g)(h:t_ K J F H ds):t_ K J d g ds:=λi j a l fr=>h i j a (t.trans l) fr
def iV(K:Pa)(f:FL)(E:a0s):TI:=λd H R=>∃F a b,Fr F H b/\io K F H a d/\run (λg (c:a0e) (J:It)=>t_ K J F g c) F E d (f a) H R b
theorem _root_.L2.PI.imp{X:Cx}{a e:Expr}(h:PI X a e t)(f:∀d H Q,i d H Q->t d H Q):PI X a e i:=λg s d H Q I q=>h g s d H Q I<|f d H Q q
variable{tg:Expr}
def iSeq(K:Pa)(g:TE):TI:=λh H R=>g h H λx d=>(∃a,x= .ref a/\(∃b,eg K d a b)/\R (Zh K a) d)\/(∃a,x= .ref a/\(∃b,g_ K d a b)/\R (Itt K a) d)
theorem K0(t:PE X l tl):PI X tg l (iSeq X.K tl):=by
 intro g s u H R I h;refine dt (t g s u H _ I h) λv d ⟨x,m,i,f,k⟩=>?_;have j:∀b∈[d.heap.objs.size],gj X g m b:=λb w=>by
  obtain rfl:b=d.heap.objs.size:=by simpa using w
  exact i.fpOk (OX _)<|i.hok.fresh<|OX _
 rcases k with⟨a,e,⟨n,r⟩,q⟩|⟨a,e,⟨n,r⟩,q⟩
 .subst e
  cases f;obtain⟨c,y,p,A⟩:=i.list r;exact Tx p.isList ⟨d.heap.objs.size,[d.heap.objs.size],_,_,m,rfl,i.kept (t':=d.toks) λb o e=>OH _ e,sY a _,⟨_,O5 _ rfl,rfl,rfl⟩,j,q⟩
 .subst e
  cases f;obtain⟨c,y,p,A⟩:=i.tuple r;exact UH (show d.heap.IsTuple a c.toArray from p) ⟨d.heap.objs.size,[d.heap.objs.size],_,_,m,rfl,i.kept (t':=d.toks) λb o e=>OH _ e,yS a _,⟨_,O5 _ rfl,rfl,rfl⟩,j,q⟩
theorem GO{F:Fx}{H:Hp}{a:ON}(h:b5 K F H (.lst s)<|.ref a):t_ K (Zh K a) F H s:=λr u k t fr i=>by
 have m:=b5.tr t _ _ h;obtain⟨v,b,e,c,dl⟩:=b5.sqL m;cases e;refine⟨λd f=>?_,λo=>⟨b,c,by rw[<-dl.length,o];exact OX _⟩⟩;obtain⟨x,q,_⟩:=dl.get f;refine⟨⟨b,x,c,q⟩,λy w g=>?_⟩;obtain⟨rfl,g⟩:=g;obtain⟨n,l,j⟩:=dl.getV<|g b c;rw[f]at l;cases l;exact⟨bY.refl _,j⟩
theorem JJ{F:Fx}{H:Hp}{a:ON}(h:b5 K F H (.tup s)<|.ref a):t_ K (Itt K a) F H s:=λr u k t fr i=>by
 have m:=b5.tr t _ _ h;obtain⟨v,b,e,c,dl⟩:=b5.sqT m;cases e;refine⟨λd f=>?_,λo=>⟨b,c,by rw[<-dl.length,o];exact OX _⟩⟩;obtain⟨x,q,_⟩:=dl.get f;refine⟨⟨b,x,c,q⟩,λy w g=>?_⟩;obtain⟨rfl,g⟩:=g;obtain⟨n,l,j⟩:=dl.getV<|g b c;rw[f]at l;cases l;exact⟨bY.refl _,j⟩
def cQ(f:FD):FL:=λa=>M.bind (f a) λd=>M.ofO<|gy d
theorem aX{f:FD}(j:PE X l<|tV X.K f E):PI X tg l (iV X.K (cQ f) E):=
 (K0 j).imp λo H R g=>j2 g λF p w fr m h=>⟨F,p,w,fr,m,(run.bind (R:=b5 X.K F) h).mono λv i g=>by
  obtain⟨d,x,t,b,D⟩:=g;obtain⟨G,e,k⟩:=run.ofO D;cases d<;>first
   |(cases e;obtain⟨a,c,rfl,n,dl⟩:=b5.sqL b;exact .inl ⟨a,rfl,⟨c,n⟩,k _ i (To.refl t.fr) (GO b)⟩)
   |(cases e;obtain⟨a,c,rfl,n,dl⟩:=b5.sqT b;exact .inr ⟨a,rfl,⟨c,n⟩,k _ i (To.refl t.fr) (JJ b)⟩)
   |cases e⟩
noncomputable def bu(a:Int)(n:Nat):a0e:=(OV n).map λ(i:Nat)=> .int<|a+(i:Int)
theorem tZ{F:Fx}{H:Hp}{b:Int}{n:Nat}:t_ K (Zg b n) F H (bu b n):=λl m c t fr i=>by
 refine⟨λd a=>?_,λg=>?_⟩
 .unfold bu at a
  have g:i<n:=by
   have:=(OM.mp a).1;simpa using this
  rw[OI,QB g]at a;cases a;exact⟨g,λx o ⟨h,j⟩=>by subst h j;exact⟨bY.refl _,rfl⟩⟩
 .show n<=i
  rw[g];simp[bu]
def fS:a0e->a0B
 |[.int j]=>if(decide (-(2^62)<=j)&&decide (j<2^62))=OK then on (bu 0 j.toNat)else OD
 |_=>OD
def pR:a0e->a0B
 |[.int i,.int j]=>if(decide (-(2^62)<=i)&&decide (i<2^62)&&decide (-(2^62)<=j)&&decide (j<2^62))=OK then on (bu i (j-i).toNat)else OD
 |_=>OD
def cJ(a:a0e->a0B)(g:FL):FL:=λb=>M.bind (g b) λc=>M.ofO<|a c
theorem bZ{a:Expr}{p U:TF}(j:Gl X "range")(b:X.mg "range"=OD)(c:PA X [a]<|hX X.K g E)(f:O1 [a] X.env=[(OO,Qh a X.env)]:=by rfl):PI X tg (.Call (.Name "range" p) [a] [] U) (iV X.K (cJ fS g) E):=
 (DF j b c f).imp λr H R d=>j2 d λF n w fr m h=>⟨F,n,w,fr,m,(run.bind (R:=ba X.K F) h).mono λM o d=>by
  obtain⟨S,x,t,D,G⟩:=d;obtain⟨l,e,k⟩:=run.ofO G;unfold fS at e;split at e
  .split at e
   .rename_i i
    cases e;simp only[Pr,PR]at i;obtain⟨v,rfl,q⟩:=ba.one D;cases q.int;exact⟨_,rfl,i.1,i.2,k _ o (To.refl t.fr) tZ⟩
   .cases e
  .cases e⟩
theorem wz{a b:Expr}{p U:TF}(m:Gl X "range")(c:X.mg "range"=OD)(f:PA X [a,b]<|hX X.K g E)(n:O1 [a,b] X.env=[(OO,Qh a X.env),(OO,Qh b X.env)]:=by rfl)(i:O1 [b] X.env=[(OO,Qh b X.env)]:=by rfl):PI X tg (.Call (.Name "range" p) [a,b] [] U) (iV X.K (cJ pR g) E):=
 (DE m c f n i).imp λy H R j=>j2 j λF x D fr o h=>⟨F,x,D,fr,o,(run.bind (R:=ba X.K F) h).mono λV q j=>by
  obtain⟨Y,G,t,M,S⟩:=j;obtain⟨l,e,k⟩:=run.ofO S;unfold pR at e;split at e
  .split at e
   .rename_i d
    cases e;simp only[Pr,PR]at d;obtain⟨v,w,rfl,r,u⟩:=ba.two M;cases r.int;cases u.int;exact⟨_,_,rfl,⟨d.1.1.1,d.1.1.2,d.1.2,d.2⟩,k _ q (To.refl t.fr) tZ⟩
   .cases e
  .cases e⟩
abbrev lv:=D->Dn->Option Dn
abbrev kr:=a0e->Dn->Option Dn
def cW(K:Pa)(g:TG)(tg:lv):Prop:=∀(F:Fx) (H:Hp) (b a:Dn) (i:St) (d:D) (v:V) (Q:a0H),io K F H b i->b5 K F H d v->tg d b=on a->(∀h,io K F H a h->Q h H)->g v i H Q
def rL(K:Pa)(g:N_)(tg:kr):Prop:=∀(F:Fx) (H:Hp) (b a:Dn) (h:St) (c:a0e) (e:a0i) (Q:a0H),io K F H b h->ba K F H c e->tg c b=on a->(∀d,io K F H a d->Q d H)->g e h H Q
noncomputable def fy(i:Nat):lv:=λd a=>if(a.getD i<|on .non).isNone then on (a.set i<|on d)else OD
noncomputable def iB:kr:=λa b=>match a with
 |[]=>on b
 |_=>OD
noncomputable def dn(t:lv)(u:kr):kr:=λb c=>match b with
 |[]=>OD
 |d::r=>(t d c).bind λa=>u r a
noncomputable def v_(t:kr):lv:=λd a=>match d with
 | .tup ds=>t ds a
 |_=>OD
theorem vd{b a:Dn}(h:fy i d b=on a):b[i]?=on OD/\a=b.set i (on d):=by
 unfold fy at h;split at h
 .rename_i q
  cases h;refine⟨?_,rfl⟩;rw[OJ]at q;cases e:b[i]? with
  |none=>rw[e]at q;cases q
  |some z=>
   rw[e]at q;cases z with
   |none=>rfl
   |some w=>cases q
 .cases h
theorem aq:cW K (gc i) (fy i):=λF H c a h d v Q g b e k=>by
 obtain⟨_,rfl⟩:=vd e;exact k _<|g.set b
theorem dj:rL K gNil iB:=λF H f a g b n Q d c e k=>by
 cases b with
 |nil=>cases e;exact⟨c,k _ d⟩
 |cons _ _=>cases e
theorem bj(m:cW K t s)(o:rL K u uf):rL K (z0 t u) (dn s uf):=λF H b a v c n Q w f e k=>by
 cases c with
 |nil=>cases e
 |cons d r=>
  obtain⟨x,l,rfl,y,A⟩:=f;have h:(s d b).bind (λa=>uf r a)=on a:=e;cases q:s d b with
  |none=>rw[q]at h;cases h
  |some g=>
   rw[q]at h;exact⟨x,l,rfl,m F H b g v d x _ w y q λi j=>o F H g a i r l Q j A h k⟩
theorem eG{n:Nat}(h:rL K t j)(w:∀f c b,j f c=on b->f.length=n):cW K (GZ K n t) (v_ j):=λF H c b g d v Q i x e k=>by
 cases d<;>first
  |(obtain⟨a,p,rfl,D,dl⟩:=b5.sqT x;exact⟨a,p,rfl,D,by rw[<-dl.length];exact w _ _ _ e,h F H c b g _ p Q i dl e k⟩)
  |cases e
theorem cE:∀b c a,iB b c=on a->b.length=0:=λb c a h=>by
 cases b with
 |nil=>rfl
 |cons _ _=>cases h
theorem bh{n:Nat}(h:∀b c a,u b c=on a->b.length=n):∀b c a,dn t u b c=on a->b.length=n+1:=λb c a e=>by
 cases b with
 |nil=>cases e
 |cons d r=>
  have g:(t d c).bind (λa=>u r a)=on a:=e;cases q:t d c with
  |none=>rw[q]at g;cases g
  |some i=>rw[q]at g;rw[O4,h _ _ _ g]
def eP(tg:lv):Prop:=∀d b a,tg d b=on a->Sub b a/\b.length=a.length
def uS(tg:kr):Prop:=∀d b a,tg d b=on a->Sub b a/\b.length=a.length
theorem aw:eP (fy i):=λd b a e=>by
 obtain⟨q,rfl⟩:=vd e;refine⟨λj c g=>?_,by rw[QC]⟩;rw[QH];by_cases z:i=j
 .subst z;rw[q]at g;cases g
 .rw[OR z];exact g
theorem dh:uS iB:=λa c b e=>by
 cases a with
 |nil=>cases e;exact⟨λ_ _ h=>h,rfl⟩
 |cons _ _=>cases e
theorem bi(j:eP t)(l:uS u):uS (dn t u):=λf b a e=>by
 cases f with
 |nil=>cases e
 |cons d r=>
  have g:(t d b).bind (λa=>u r a)=on a:=e;cases q:t d b with
  |none=>rw[q]at g;cases g
  |some m=>
   rw[q]at g;obtain⟨k,n⟩:=j _ _ _ q;obtain⟨p,o⟩:=l _ _ _ g;exact⟨λi c h=>p i c<|k i c h,n.trans o⟩
theorem eC(h:uS t):eP (v_ t):=λd b a e=>by
 cases d<;>first|exact h _ _ _ e|cases e
structure lA (F:Fx) (D:ON) (H H':Hp) (β':Bg):Prop where
 kp:∀a o,H a=on o->a≠D->(∀b l,F.bg=on (b,l)->a≠b/\a≠l)->H' a=on o
 fr:Fr F H' β'
theorem lA.trans{F:Fx}{D:ON}{H d g:Hp}(a:lA F D H d β1)(b:lA F D d g i):lA F D H g i:=⟨λx o h n m=>b.kp x o (a.kp x o h n m) n m,b.fr⟩
theorem To.toD{F:Fx}{H d:Hp}(t:To F H d g)(D:ON):lA F D H d g:=⟨λa o h _ m=>t.kp a o h m,t.fr⟩
theorem lA.tr{F:Fx}{D:ON}{H d:Hp}(fr:Fr F H j)(g:F.A D)(t:lA F D H d i):Tr F H F d:=
 ⟨λ_ h _=>h,λa o h e=>t.kp a o e (λz=>h<|z▸g) λb l q=>⟨λz=>h<|z▸(fr.bgA b l q).1,λz=>h<|z▸(fr.bgA b l q).2.1⟩,rfl⟩
structure AR where
 R:Fx->Hp->ON->List Pu.D->Prop
 Z:List Pu.D->Prop
 tr:∀{F F2:Fx} {H H':Hp} {D:ON} {as:List Pu.D},R F H D as->(∀o,H D=on o->H' D=on o)->Tr F H F2 H'->R F2 H' D as
 zp:∀{as os:List Pu.D},Z (as++os)->Z as
noncomputable def RL(K:Pa):AR where
 R:=λF H D b=>∃a,H D=on (.lst a)/\ba K F H b a
 Z:=λl=>l.length<=Pe
 tr:=λh k t=>by
  obtain⟨a,d,g⟩:=h;exact⟨a,k _ d,ba.tr t _ _ g⟩
 zp:=λh=>by rw[O8]at h;lia
def f6(K:Pa)(R:AR)(D:ON)(j:TB)(f:Dn->M (List Pu.D)):Prop:=∀(F:Fx) (H:Hp) (a:Dn) (k d:Bg) (i:St) (c e:List Pu.D) (Q:a0H),Fr F H k->F.A D->(∀b l,F.bg=on (b,l)->D≠b/\D≠l)->io K F H a i->R.R F H D c->
 f a k=on (.ok e,d)->R.Z (c++e)->(∀g h,lA F D H h d->io K F h a g->R.R F h D (c++e)->Q g h)->j i H Q
abbrev kW(K:Pa):=f6 K<|RL K
def js(f:Dn->M Pu.D):Dn->M (List Pu.D):=λa=>M.bind (f a) λd=>M.ret [d]
theorem M.bind_inv{c g:Type}{m:M c}{k:c->M g}{f d:Bg}{r:g}(h:M.bind m k f=on (.ok r,d)):∃a b,m f=on (.ok a,b)/\k a b=on (.ok r,d):=by
 unfold M.bind at h;split at h
 .cases h
 .cases h
 .rename_i a b e
  exact⟨a,b,e,h⟩
theorem E0.run{b i:Type}{R:Hp->b->i->Prop}{F:Fx}{j:St}{m:M b}{H:Hp}{Q:i->Hp->Prop}{c d:Bg}{a:b}(e:m c=on (.ok a,d))(h:∀v g,To F H g d->R g a v->Q v g):run R F E0 j m H Q c:=⟨.ok a,d,e,h⟩
theorem aJ{D:ON}{f:Dn->M Pu.D}:kW K D (AO D<|tV K f E0) (js f):=λF H E G g w S V Q fr y i m A e B k=>by
 obtain⟨c,C,x⟩:=A;obtain⟨d,U,I,J⟩:=M.bind_inv e;cases J;refine⟨F,E,G,fr,m,E0.run I λv r t L=>?_⟩;have j:=t.kp D _ C i;have dl:=ba.tr (t.tr fr) _ _ x;refine⟨c,j,by rw[<-x.length];have:=(show(S++[d]).length<=Pe from B);simp at this;lia,?_⟩;have u:lA F D r (upd r D<|.lst<|c++[v]) g:=by
  refine⟨λa o h n _=>by rw[bb n];exact h,λa h q=>?_,fr.bgA,λb l q=>?_⟩
  .by_cases z:a=D
   .subst z;rw[ax]at q;cases q
   .rw[bb z]at q;exact t.fr.occ a h q
  .rw[bb (i b l q).1.symm,bb (i b l q).2.symm]
   exact t.fr.bag b l q
 have p:=u.tr t.fr y;exact k w _ ((t.toD D).trans u) (m.tr<|(t.tr fr).trans p) ⟨_,ax,ba.append (ba.tr p _ _ dl) ⟨v,[],rfl,b5.tr p _ _ L,rfl⟩⟩
def l9(tg:lv)(e:a0p)(b:Dn->M (List Pu.D)):List Pu.D->Dn->M (List Pu.D)
 |[],_=>M.ret []
 |d::ds,δ=>match tg d δ with
  |none=>M.fail
  |some a=>M.bind (e a) λc=>M.bind (if c=OK then b a else M.ret []) λo=>M.bind (l9 tg e b ds δ) λf=>M.ret<|o++f
theorem oI{R:AR}{D:ON}{tg:lv}{b:Dn->M (List Pu.D)}(hg:cW K g tg)(sg:eP tg)(hb:f6 K R D tb b){F:Fx}{H:Hp}{as os f:List Pu.D}(fr:Fr F H β)(hA:F.A D)(hn:∀b l,F.bg=on (b,l)->D≠b/\D≠l)(vk:io K F H s σ)(hR:R.R F H D as)
  (it:t_ K J F H f) (e:l9 tg tt b f s β=on (.ok os,β')) (hz:R.Z<|as++os) (k:∀j t,lA F D H t β'->io K F t s j->R.R F t D (as++os)->Q j t):dF J g (hO K tt E0) tb σ H Q:=by
 refine⟨λi m j t=>m+i=f.length/\∃a r v,lA F D H t a/\io K F t s j/\R.R F t D r/\l9 tg tt b (f.drop i) s a=on (.ok v,β')/\r++v=as++os,
  ⟨f.length,by lia,β,as,os,⟨λ_ _ h _ _=>h,fr⟩,vk,hR,e,rfl⟩,?_⟩
 rintro i m j t ⟨hm,a,r,v,B,C,I,u,V⟩;have X:=B.tr fr hA;obtain⟨iy,is⟩:=it F t a X B.fr i;cases T:f[i]? with
 |none=>
  have U:f.length<=i:=Ul.mp T;rw[QT U]at u;cases u;refine .inl ⟨is (by lia),k j t B C ?_⟩;rw[<-V,P9];exact I
 |some d=>
  have U:i<f.length:=(OM.mp T).1;obtain⟨go,yl⟩:=iy d T;have ed:f.drop i=d::f.drop (i+1):=by
   rw[PU U];congr 1;exact Pn<|(OE U).symm.trans T
  rw[ed]at u;unfold l9 at u;cases q:tg d s with
  |none=>rw[q]at u;cases u
  |some n=>
   rw[q]at u;obtain⟨c,E,e2,e3⟩:=M.bind_inv u;obtain⟨o,p,W,e5⟩:=M.bind_inv e3;obtain⟨aa,af,e6,e7⟩:=M.bind_inv e5;cases e7;obtain⟨s1,s2⟩:=sg _ _ _ q;refine .inr ⟨go,λL Y=>lA F D H Y p/\io K F Y s L/\R.R F Y D (r++o),?_,λx H2 hy=>?_⟩
   .rintro L Y ⟨t9,vk9,hR9⟩
    exact⟨m-1,by lia,by lia,p,r++o,aa,t9,vk9,hR9,e6,by rw[Ql];exact V⟩
   .obtain⟨sm,dx⟩:=yl x H2 hy
    have G:To F t H2 a:=B.fr.same sm;have N:=G.tr B.fr;refine hg F H2 s n j d x _ (C.tr N) dx q λab w=>⟨F,n,a,G.fr,w,E0.run e2 λc' H3 S ec=>?_⟩;subst ec;have y:=S.tr G.fr;have O:=R.tr I (λo z=>S.kp D o (sm _ _ z) hn)<|N.trans y;have P:lA F D H H3 E:=B.trans<|(G.trans S).toD D;have ac:R.Z (r++o):=by
     rw[<-V,<-Ql]at hz;exact R.zp hz
    cases c' with
    |true=>
     rw[OS rfl]at W⊢;refine hb F H3 n E p ab r o _ S.fr hA hn (w.tr y) O W ac λag H4 t4 ad ae=>?_;exact⟨P.trans t4,ad.sub s1 s2,ae⟩
    |false=>
     rw[OR OY]at W⊢;cases W;exact⟨P,(w.tr y).sub s1 s2,by rw[P9];exact O⟩
def YO(c:Dn->M (List Pu.D))(tg:lv)(e:a0p)(b:Dn->M (List Pu.D)):Dn->M (List Pu.D):=λa=>M.bind (c a) λf=>l9 tg e b f a
theorem pY{D:ON}{tg:lv}{b:Dn->M (List Pu.D)}(j:cW K g tg)(c:eP tg)(l:f6 K R D s b):f6 K R D (AN (iV K C E0) λJ=>dF J g (hO K I E0) s) (YO C tg I b):=λF H f n m B x E Q fr q a h r e u k=>by
 obtain⟨G,p,v,w⟩:=M.bind_inv e;refine⟨F,f,n,fr,h,E0.run v λJ i t y=>?_⟩;exact oI j c l t.fr q a (h.tr<|t.tr fr) (R.tr r (λo z=>t.kp D o z a)<|t.tr fr) y w u λd i A=>k d i<|(t.toD D).trans A
theorem yf{D:ON}{tg:lv}{b:Dn->M (List Pu.D)}(d:cW K g tg)(a:eP tg)(h:kW K D i b):kW K D (AN (iV K j E0) λJ=>dF J g (hO K l E0) i) (YO j tg l b):=pY d a h
noncomputable def ko(nv:Nat)(b0:a0a)(δ:Dn):Dn:=Pg nv OD++b0.map λj=>δ.getD j OD
def cB(nv:Nat)(b0:a0a)(it:Dn->M (List Pu.D))(tg:lv)(tt:a0p)(b:Dn->M (List Pu.D)):Dn->M Pu.D:=λa c=>match it a c with
 |none=>OD
 |some (.error C,β1)=>on (.error C,β1)
 |some (.ok ds,β1)=>match l9 tg tt b ds (ko nv b0 a) β1 with
  |some (.ok os,β2)=>if os.length<=Pe then on (.ok<|.lst os,β2)else OD
  |_=>OD
theorem rF{F:Fx}{H:Hp}{a:a0h}(h:io K F H r s):io K F H (ko a.length b0 r) (lN a b0 s):=by
 refine⟨by simp[ko,lN],λi d e=>?_⟩;unfold ko at e;unfold lN;rw[U3]at e⊢;rw[QZ]at e⊢;by_cases g:i<a.length
 .rw[OS g,Ro,OS g]at e
  cases e
 .rw[OR g,OI]at e⊢
  cases q:b0[i-a.length]? with
  |none=>rw[q]at e;cases e
  |some j=>
   rw[q]at e;simp only[QI,WK]at e⊢;rw[OJ]at e;cases z:r[j]? with
   |none=>rw[z]at e;cases e
   |some w=>
    rw[z]at e;have l:w=on d:=e;subst l;obtain⟨v,m,o⟩:=h.tell j d z;exact⟨v,by rw[OJ,m];rfl,o⟩
theorem vf{c:a0h}{f:a0a}{k:Dn->M (List Pu.D)}{g:TG}{tg:lv}{p:a0p}{P:a0Y}{b:Dn->M (List Pu.D)}(Z:cW K g tg)(G:eP tg)(S:∀D,kW K D (P D) b){T:St}{H:Hp}{Q:VK}(h:tV K (cB c.length f k tg p b) E T H Q):
  qs c f (iV K k E) (λD J=>dF J g (hO K p E0)<|P D) T H Q:=by
 obtain⟨F,V,X,fr,U,r,v,e,h⟩:=h;unfold cB at e;refine⟨F,V,X,fr,U,?_⟩;split at e
 .cases e
 .rename_i C β1 q
  cases e;exact⟨.error C,_,q,h⟩
 .rename_i ds β1 q
  split at e
  .rename_i os β2 q2
   split at e
   .rename_i hz
    cases e;refine⟨.ok ds,β1,q,λJ u t s D i=>?_⟩;have d:¬F.A D:=t.fr.fresh i;have nb:∀b l,F.bg=on (b,l)->D≠b/\D≠l:=λb l z=>⟨λw=>d<|w▸(fr.bgA b l z).1,λw=>d<|w▸(fr.bgA b l z).2.1⟩;have W:=t.fr.upd (.lst []) i;have B:Fr ⟨λa=>F.A a\/a=D,F.bg⟩ (upd u D<|.lst []) β1:=by
     refine⟨λa ha z=>?_,λb l z=>let ⟨x,y,w⟩:=fr.bgA b l z;⟨.inl x,.inl y,w⟩,W.fr.bag⟩
     rcases ha with ha|ha
     .exact W.fr.occ a ha z
     .subst ha;rw[ax]at z;cases z
    have j:Tr F u ⟨λa=>F.A a\/a=D,F.bg⟩ (upd u D<|.lst []):=⟨λa ha hs z=>by
     rcases z with z|z
     .exact ha z
     .subst z;exact hs i,λa o ha z=>by rw[bb<|aI z i];exact z,rfl⟩
    refine oI (R:=RL K) (D:=D) (as:=[]) (os:=os) Z G (S D) B (.inr rfl) nb (rF<|U.tr<|(t.tr fr).trans j) ⟨[],ax,rfl⟩ (s.tr j) q2 (show os.length<=Pe from hz) λaa Y I ab L=>?_;obtain⟨m,N,O⟩:=L;have tf:To F u Y v:=by
     refine⟨λa o z n=>I.kp a o (by rw[bb<|aI z i];exact z) (aI z i) n,λa ha z=>I.fr.occ a (QY ha) z,fr.bgA,I.fr.bag⟩
    refine h _ Y (t.trans tf) ⟨D,m,rfl,⟨d,.inl N⟩,ba.tr (F:=⟨λa=>F.A a\/a=D,F.bg⟩) ⟨λa ha _ z=>ha<|QY z,λa o _ z=>z,rfl⟩ _ _ O⟩
   .cases e
  .cases e
inductive Sl where
 |sh (d:D)|own (ds:a0e)|grd (ac:a0r)|odc (b:Bool) (ks:List f0) (vs:a0e)
abbrev a0E:=Option Sl
abbrev Ds:=List a0E
inductive p3 where
 |nx (δ:Ds)|rt (d:D)|bk (δ:Ds)|ct (δ:Ds)|ex (C:ON) (δ:Ds)|rg (ac:a0r)
abbrev a0A:=p3->Bg->Prop
abbrev G:=Ds->Bg->Option (p3×Bg)
abbrev Ow:=ON->a0L
noncomputable def d5(B:Ow)(b:a0q):Fx:=⟨λa=>B a≠OD,b⟩
noncomputable def lw(B:Ow)(b:a0q):Fx:=⟨λa=>B a=on 0\/B a=on 1,b⟩
def bD(K:Pa)(F:Fx)(H:Hp)(P:ON->Prop):a0r->a0o->Prop
 |[],[]=>True
 |ds::ac,r::rs=>P r/\(∃a,H r=on (.lst a)/\ba K F H ds a)/\bD K F H P ac rs
 |_,_=>False
theorem bD.tr{K:Pa}{F i:Fx}{H d:Hp}(t:Tr F H i d):∀{b:a0r} {a:a0o},bD K F H P b a->(∀r xs,r∈a->P r->H r=on (.lst xs)->P2 r/\d r=on (.lst xs))->bD K i d P2 b a
 |[],[],_,_=>trivial
 |ds::b,r::a,h,f=>by
  obtain⟨j,⟨xs,l,m⟩,o⟩:=h;obtain⟨p,q⟩:=f r xs OL j l;exact⟨p,⟨xs,q,ba.tr t _ _ m⟩,bD.tr t o λu g v=>f u g<|OF _ v⟩
 |[],_::_,h,_=>h.elim
 |_::_,[],h,_=>h.elim
theorem bD.all{K:Pa}{F:Fx}{H:Hp}:∀{c:a0r} {a:a0o},bD K F H P c a->∀r∈a,P r/\∃b,H r=on (.lst b)
 |[],[],_,r,hr=>by cases hr
 |ds::c,r0::a,h,r,hr=>by
  obtain⟨d,⟨b,g,j⟩,i⟩:=h;rcases OQ.mp hr with rfl|hr
  .exact⟨d,b,g⟩
  .exact bD.all i r hr
 |[],_::_,h,_,_=>h.elim
 |_::_,[],h,_,_=>h.elim
theorem bD.den{K:Pa}{F d:Fx}{H:Hp}(t:Tr F H d H):∀{b:a0r} {a:a0o},bD K F H P b a->(∀r,r∈a->P r->¬d.A r)->ba K d H (b.map D.lst) (a.map V.ref)
 |[],[],_,_=>rfl
 |ds::b,r::a,h,f=>by
  obtain⟨g,⟨c,i,j⟩,l⟩:=h;exact ba.cons ⟨r,c,rfl,⟨f r OL g,.inl i⟩,ba.tr t _ _ j⟩<|bD.den t l λm o=>f m<|OF _ o
 |[],_::_,h,_=>h.elim
 |_::_,[],h,_=>h.elim
theorem bD.len{K:Pa}{F:Fx}{H:Hp}:∀{ac:a0r} {a:a0o},bD K F H P ac a->ac.length=a.length
 |[],[],_=>rfl
 |ds::ac,r::a,h=>by simp[bD.len h.2.2]
 |[],_::_,h=>h.elim
 |_::_,[],h=>h.elim
def ji(K:Pa)(F:Fx)(c H:Hp)(e:a0r)(v:V):Prop:=∃a b,v= .ref a/\c a=OD/\H a=on (.lst<|b.map V.ref)/\(a::b).Nodup/\bD K F H (λr=>c r=OD) e b
def ZJ(K:Pa)(F:Fx)(H:Hp)(a:ON)(b:Bool)(e:List f0)(f:a0e):Prop:=∃k c,H a=on (dX a b k c)/\e=c.map (·.1)/\(∀x∈c,iK K F H b x.1 x.2.1)/\ba K F H f (c.map (·.2.2))
theorem ZJ.tr{K:Pa}{F g:Fx}{H d:Hp}{a:ON}{b:Bool}(t:Tr F H g d)(h:ZJ K F H a b r s)(k:∀o,H a=on o->d a=on o):ZJ K g d a b r s:=by
 obtain⟨c,e,i,j,l,m⟩:=h;exact⟨c,e,k _ i,j,λx q=>(l x q).tr t,ba.tr t _ _ m⟩
def x4(H:Hp)(a:ON):Prop:=(∃b,H a=on (.lst b))\/∃d,H a=on (.ext d)
theorem x4.imp{H d:Hp}{a:ON}(h:x4 H a)(k:∀o,H a=on o->d a=on o):x4 d a:=Or.imp (λ⟨b,z⟩=>⟨b,k _ z⟩) (λ⟨g,z⟩=>⟨g,k _ z⟩) h
def qj(K:Pa)(B:Ow)(c:a0q)(H:Hp)(i:Nat):Sl->V->Prop
 | .sh d,v=>b5 K (d5 B c) H d v
 | .own ds,v=>∃a f,v= .ref a/\B a=on (i+2)/\H a=on (.lst f)/\ba K (d5 B c) H ds f
 | .grd ac,v=>∃a e,v= .ref a/\B a=on (i+2)/\H a=on (.lst<|e.map V.ref)/\(a::e).Nodup/\bD K (d5 B c) H (λr=>B r=on (i+2)) ac e
 | .odc b ks vs,v=>∃a,v= .ref a/\B a=on (i+2)/\ZJ K (d5 B c) H a b ks vs
theorem qj.tr{K:Pa}{H g:Hp}(h:qj K B u H j s v)(t:Tr (d5 B u) H (d5 B2 u) g)(k:∀c,B c=on (j+2)->B2 c=on (j+2)/\∀o,H c=on o->g c=on o):qj K B2 u g j s v:=by
 cases s with
 |sh d=>exact b5.tr t _ _ h
 |own cs=>
  obtain⟨c,l,e,a,f,i⟩:=h;exact⟨c,l,e,(k c a).1,(k c a).2 _ f,ba.tr t _ _ i⟩
 |grd ac=>
  obtain⟨c,n,e,a,f,i,m⟩:=h;exact⟨c,n,e,(k c a).1,(k c a).2 _ f,i,bD.tr t m λr _ _ p q=>⟨(k r p).1,(k r p).2 _ q⟩⟩
 |odc b ks vs=>
  obtain⟨c,e,a,f⟩:=h;exact⟨c,e,(k c a).1,f.tr t (k c a).2⟩
structure fc (K:Pa) (H₀:Hp) (B:Ow) (bg:a0q) (H:Hp) (δ:Ds) (β:Bg) (σ:St):Prop where
 fr:Fr (d5 B bg) H β
 bgt:∀b l,bg=on (b,l)->B b=on 1/\B l=on 1
 len:δ.length=σ.length
 cov:∀a,H₀ a≠OD->H a≠OD
 new:∀a k,B a=on (k+2)->H₀ a=OD
 lst:∀a k,B a=on (k+2)->x4 H a
 tell:∀(i:Nat) (s:Sl),δ[i]?=on (on s)->∃v,σ[i]?=on (on v)/\qj K B bg H i s v
structure hW (B:Ow) (H:Hp) (B':Ow) (H':Hp):Prop where
 kp:∀a o,H a=on o->(B a=OD\/B a=on 0)->H' a=on o
 tg:∀a,B a=on 0\/B a=on 1->B' a=B a
 nn:∀a o,H a=on o->B a=OD->B' a=OD
 al:∀a,H a≠OD->H' a≠OD
theorem hW.refl(B:Ow)(H:Hp):hW B H B H:=⟨λ_ _ h _=>h,λ_ _=>rfl,λ_ _ _ h=>h,λ_ h=>h⟩
theorem hW.trans{H d g:Hp}(a:hW B H B1 d)(b:hW B1 d B2 g):hW B H B2 g:=by
 refine⟨λx o h n=>b.kp x o (a.kp x o h n) ?_,λx h=>?_,λx o h n=>b.nn x o (a.kp x o h<|.inl n)<|a.nn x o h n,λx h=>b.al x<|a.al x h⟩
 .rcases n with n|n
  .exact .inl (a.nn x o h n)
  .exact .inr ((a.tg x<|.inl n).trans n)
 .have e:=a.tg x h
  rw[<-e]at h;exact(b.tg x h).trans e
def jH(K:Pa)(a:Hp)(b:a0q)(E:a0s)(Dn:ot)(B:Ow)(H:Hp)(o:p3)(j:Bg):Prop:=match o with
 | .nx δ'=>∀h i g,hW B H i g->fc K a i b g δ' j h->Dn.nx h g
 | .bk δ'=>∀h i g,hW B H i g->fc K a i b g δ' j h->Dn.bk h g
 | .ct δ'=>∀h i g,hW B H i g->fc K a i b g δ' j h->Dn.ct h g
 | .rt d=>∀v i g,hW B H i g->Fr (d5 i b) g j->b5 K (d5 i b) g d v->Dn.rt v g
 | .rg ac=>∀v i g,hW B H i g->Fr (d5 i b) g j->ji K (d5 i b) a g ac v->Dn.rt v g
 | .ex C δ'=>∀h i g,hW B H i g->fc K a i b g δ' j h->E h (.ref C) OD g
theorem jH.pre{K:Pa}{E:a0s}{Dn:ot}{H l:Hp}(s:hW B H B1 l)(h:jH K H₀ q E Dn B H o m):jH K H₀ q E Dn B1 l o m:=by
 cases o with
 |nx δ=>exact λg i j t=>h g i j<|s.trans t
 |bk δ=>exact λg i j t=>h g i j<|s.trans t
 |ct δ=>exact λg i j t=>h g i j<|s.trans t
 |rt d=>exact λv i j t=>h v i j<|s.trans t
 |rg d=>exact λv i j t=>h v i j<|s.trans t
 |ex C δ=>exact λg i j t=>h g i j<|s.trans t
def tG(K:Pa)(a:Hp)(g:G)(E:a0s):TS:=λDn h H=>∃B b c e o d,fc K a B b H c e h/\g c e=on (o,d)/\jH K a b E Dn B H o d
theorem _root_.L2.PS.imp{X:Cx}{e:Qd}(h:PS X e t)(f:∀D d H,i D d H->t D d H):PS X e i:=λg s d H D I q=>h g s d H D I<|f D d H q
theorem _root_.L2.PSs.imp{X:Cx}{e:a0R}(h:PSs X e t)(f:∀D d H,i D d H->t D d H):PSs X e i:=λg s d H D I q=>h g s d H D I<|f D d H q
noncomputable def vw(δ:Ds):Dn:=δ.map λs=>match s with
 |some (.sh d)=>on d
 |_=>OD
noncomputable def gs(δ:Ds):Dn:=δ.map λs=>match s with
 |some (.sh d)=>on d
 |some (.own ds)=>on<|.lst ds
 |some (.grd ac)=>on<|.lst<|ac.map D.lst
 |some (.odc b ks vs)=>on<|.dct b ks vs
 |none=>OD
variable{f:Hp}{B:Ow}{p:a0q}{R:Hp}{δ:Ds}{β T:Bg}{W:St}
theorem M1{i:Nat}{d:D}(e:(vw δ)[i]?=on (on d)):δ[i]?=on (on<|.sh d):=by
 unfold vw at e;rw[OI]at e;cases q:δ[i]? with
 |none=>rw[q]at e;cases e
 |some z=>
  rw[q]at e;cases z with
  |none=>cases e
  |some s=>
   cases s with
   |sh c=>cases e;rfl
   |own ds=>cases e
   |grd ac=>cases e
   |odc b ks vs=>cases e
theorem fc.view(h:fc K f B p H δ β W):io K (d5 B p) H (vw δ) W:=⟨by unfold vw;rw[OC,h.len],λi d e=>h.tell i _<|M1 e⟩
theorem Y6:Tr (d5 B p) H (lw B p) H:=⟨λa h _ z=>by
 have b:¬(B a≠OD):=h;rcases z with z|z
 .exact b (by rw[z];simp)
 .exact b (by rw[z];simp),λ_ _ _ h=>h,rfl⟩
theorem fc.frA(h:fc K f B p H δ β W):Fr (lw B p) H β:=⟨λa c=>h.fr.occ a (by
 show B a≠OD;rcases c with z|z<;>rw[z]<;>simp),λb l e=>⟨.inr (h.bgt b l e).1,.inr (h.bgt b l e).2,(h.fr.bgA b l e).2.2⟩,h.fr.bag⟩
theorem fc.viewA(h:fc K f B p H δ β W):io K (lw B p) H (gs δ) W:=by
 refine⟨by unfold gs;rw[OC,h.len],λi d e=>?_⟩;unfold gs at e;rw[OI]at e;cases q:δ[i]? with
 |none=>rw[q]at e;cases e
 |some z=>
  rw[q]at e;cases z with
  |none=>cases e
  |some s=>
   obtain⟨v,m,o⟩:=h.tell i s q;cases s with
   |sh c=>cases e;exact⟨v,m,b5.tr Y6 _ _ o⟩
   |own ds=>
    cases e;obtain⟨a,k,g,j,l,t⟩:=o;refine⟨v,m,a,k,g,⟨λz=>?_,.inl l⟩,ba.tr Y6 _ _ t⟩;have z':B a=on 0\/B a=on 1:=z;rw[j]at z';rcases z' with z'|z'<;>cases z'
   |grd ac=>
    cases e;obtain⟨a,D,g,j,l,t,u⟩:=o;have w:∀c,B c=on (i+2)->¬(lw B p).A c:=λc y z=>by
     have z':B c=on 0\/B c=on 1:=z;rw[y]at z';rcases z' with z'|z'<;>cases z'
    exact⟨v,m,a,_,g,⟨w a j,.inl l⟩,bD.den Y6 u λr _ C=>w r C⟩
   |odc b ks vs=>
    cases e;obtain⟨a,g,j,n,k,l,t,u,I⟩:=o;refine⟨v,m,?_⟩;unfold b5;refine⟨a,n,k,g,⟨λz=>?_,l⟩,t,λx J=>(u x J).tr Y6,ba.tr Y6 _ _ I⟩;have z':B a=on 0\/B a=on 1:=z;rw[j]at z';rcases z' with z'|z'<;>cases z'
theorem fc.to{F:Fx}(h:fc K f B p H δ β W)(hF:F.bg=p)(t:To F H R T):fc K f B p R δ T W/\hW B H B R:=by
 have u:∀a,B a≠on 1->∀b l,F.bg=on (b,l)->a≠b/\a≠l:=λa x b l e=>by
  rw[hF]at e;exact⟨λz=>x<|z▸(h.bgt b l e).1,λz=>x<|z▸(h.bgt b l e).2⟩
 have D:∀a o,H a=on o->B a≠on 1->R a=on o:=λa o e n=>t.kp a o e<|u a n;have fr:Fr (d5 B p) R T:=⟨λa x z=>(by
  by_cases y:B a=on 1
  .by_cases g:∃b l,p=on (b,l)/\(a=b\/a=l)
   .obtain⟨b,l,e,q⟩:=g
    obtain⟨j,m⟩:=t.fr.bag b l<|hF.trans e;rcases q with rfl|rfl
    .rw[j]at z;cases z
    .rw[m]at z;cases z
   .cases q:H a with
    |none=>exact h.fr.occ a x q
    |some o=>
     rw[t.kp a o q λb l e=>⟨λw=>g ⟨b,l,hF.symm.trans e,.inl w⟩,λw=>g ⟨b,l,hF.symm.trans e,.inr w⟩⟩]at z;cases z
  .cases q:H a with
   |none=>exact h.fr.occ a x q
   |some o=>rw[D a o q y]at z;cases z),h.fr.bgA,λb l e=>t.fr.bag b l<|hF.trans e⟩
 have G:Tr (d5 B p) H (d5 B p) R:=⟨λ_ n _=>n,λa o n e=>D a o e (λz=>n (by show B a≠OD;rw[z];simp)),rfl⟩;have E:∀a,H a≠OD->R a≠OD:=λa x z=>by
  by_cases g:∃b l,p=on (b,l)/\(a=b\/a=l)
  .obtain⟨b,l,e,q⟩:=g
   obtain⟨j,m⟩:=t.fr.bag b l<|hF.trans e;rcases q with rfl|rfl
   .rw[j]at z;cases z
   .rw[m]at z;cases z
  .cases q:H a with
   |none=>exact x q
   |some o=>
    rw[t.kp a o q λb l e=>⟨λw=>g ⟨b,l,hF.symm.trans e,.inl w⟩,λw=>g ⟨b,l,hF.symm.trans e,.inr w⟩⟩]at z;cases z
 refine⟨⟨fr,h.bgt,h.len,λa x=>E a<|h.cov a x,h.new,λc k r=>(h.lst c k r).imp λo z=>D c o z (by rw[r];intro z;cases z),λi s e=>?_⟩,λa o e n=>D a o e (by rcases n with n|n<;>rw[n]<;>simp),λ_ _=>rfl,λ_ _ _ n=>n,E⟩
 obtain⟨v,A,C⟩:=h.tell i s e;exact⟨v,A,C.tr G λc d=>⟨d,λo q=>D c o q<|by rw[d];intro z;cases z⟩⟩
theorem fc.set(h:fc K f B p H δ β W)(a:b5 K (d5 B p) H d v):fc K f B p H (δ.set i<|on<|.sh d) β (W.set i<|on v):=by
 refine⟨h.fr,h.bgt,by rw[QC,QC,h.len],h.cov,h.new,h.lst,λj c e=>?_⟩;rw[QH]at e;rw[QH];by_cases q:i=j
 .subst q
  rw[OS rfl]at e⊢;split at e
  .rename_i g
   cases e;rw[OS<|by rw[<-h.len];exact g];exact⟨v,rfl,a⟩
  .cases e
 .rw[OR q]at e⊢
  exact h.tell j c e
noncomputable def gNil:G:=λδ β=>on (.nx δ,β)
noncomputable def aW(g h:G):G:=λδ β=>match g δ β with
 |some (.nx δ1,β1)=>h δ1 β1
 |r=>r
def eY(i:Nat)(f:FD):G:=λδ β=>match f (vw δ) β with
 |some (.ok d,β1)=>on (.nx<|δ.set i<|on<|.sh d,β1)
 |some (.error C,β1)=>on (.ex C δ,β1)
 |none=>OD
noncomputable def rn(f:FD):G:=λδ β=>match f (gs δ) β with
 |some (.ok _,β1)=>on (.nx δ,β1)
 |some (.error C,β1)=>on (.ex C δ,β1)
 |none=>OD
noncomputable def kg(f:FD):G:=λδ β=>match f (gs δ) β with
 |some (.ok d,β1)=>on (.rt d,β1)
 |some (.error C,β1)=>on (.ex C δ,β1)
 |none=>OD
noncomputable def L1(t:a0p)(g h:G):G:=λδ β=>match t (gs δ) β with
 |some (.ok OK,β1)=>g δ β1
 |some (.ok OO,β1)=>h δ β1
 |some (.error C,β1)=>on (.ex C δ,β1)
 |none=>OD
variable{a:Qd}{b:a0R}
theorem aZ:PSs X [] (tG X.K X.H₀ gNil E):=se.imp λD W H d=>by
 obtain⟨B,p,δ,β,o,T,ok,e,h⟩:=d;cases e;exact h W B H (hW.refl B H) ok
theorem ad(i:PS X a<|tG X.K X.H₀ g E)(j:PSs X b<|tG X.K X.H₀ h E):PSs X (a::b) (tG X.K X.H₀ (aW g h) E):=(dB i j).imp λD W H l=>by
 obtain⟨B,p,δ,β,o,T,ok,e,q⟩:=l;unfold aW at e;split at e
 .rename_i δ1 β1 m
  refine⟨B,p,δ,β,.nx δ1,β1,ok,m,λt u R s d=>⟨u,p,δ1,β1,o,T,d,e,jH.pre s ?_⟩⟩;exact q
 .rename_i r v
  refine⟨B,p,δ,β,o,T,ok,e,?_⟩;cases o with
  |nx δ1=>exact Pf e<|v δ1 T
  |_=>exact q
theorem ah(d:PS X a<|tG X.K X.H₀ g E):PSs X [a] (tG X.K X.H₀ g E):=oy d
theorem aF{x:PP}{f:FD}(h:PS X (.Assign [.Name x pos'] e U)<|kY (tV X.K f E)<|gc i):PS X (.Assign [.Name x pos'] e U) (tG X.K X.H₀ (eY i f) E):=h.imp λD W H m=>by
 obtain⟨B,p,δ,β,o,T,ok,e,q⟩:=m;refine⟨d5 B p,vw δ,β,ok.fr,ok.view,?_⟩;unfold eY at e;split at e
 .rename_i d β1 j
  cases e;refine⟨.ok d,_,j,λv R t a=>?_⟩;obtain⟨g,l⟩:=ok.to rfl t;exact q _ B R l<|g.set a
 .rename_i C β1 j
  cases e;refine⟨.error C,_,j,λR t=>?_⟩;obtain⟨g,l⟩:=ok.to rfl t;exact q _ B R l g
 .cases e
theorem jU{f:FD}(h:PS X (.Expr e U)<|yX<|tV X.K f E):PS X (.Expr e U) (tG X.K X.H₀ (rn f) E):=h.imp λD W H l=>by
 obtain⟨B,p,δ,β,o,T,ok,e,q⟩:=l;refine⟨lw B p,gs δ,β,ok.frA,ok.viewA,?_⟩;unfold rn at e;split at e
 .rename_i d β1 i
  cases e;refine⟨.ok d,_,i,λv R t a=>?_⟩;obtain⟨g,j⟩:=ok.to rfl t;exact q _ B R j g
 .rename_i C β1 i
  cases e;refine⟨.error C,_,i,λR t=>?_⟩;obtain⟨g,j⟩:=ok.to rfl t;exact q _ B R j g
 .cases e
noncomputable def iF(B:Ow):Ow:=λa=>if B a=on 0\/B a=on 1 then B a else OD
theorem LA{B:Ow}{p:a0q}{H:Hp}:Tr (lw B p) H (d5 (iF B) p) H:=⟨λa h _ z=>by
 have d:iF B a≠OD:=z;unfold iF at d;split at d
 .rename_i q;exact h q
 .exact d rfl,λ_ _ _ h=>h,rfl⟩
theorem GE{B:Ow}{H:Hp}:hW B H (iF B) H:=⟨λ_ _ h _=>h,λa h=>by unfold iF;rw[OS h],λa o h n=>by unfold iF;rw[n];simp,λ_ h=>h⟩
theorem aC{f:FD}(h:PS X (.Return (on e) U)<|FQ<|tV X.K f E):PS X (.Return (on e) U) (tG X.K X.H₀ (kg f) E):=h.imp λD W H r=>by
 obtain⟨B,p,δ,β,o,T,ok,e,q⟩:=r;refine⟨lw B p,gs δ,β,ok.frA,ok.viewA,?_⟩;unfold kg at e;split at e
 .rename_i d β1 j
  cases e;refine⟨.ok d,_,j,λv R t c=>?_⟩;obtain⟨g,m⟩:=ok.to rfl t;refine q _ (iF B) R (m.trans GE) ⟨λa k=>g.fr.occ a ?_,λb l e=>?_,g.fr.bag⟩<|b5.tr LA _ _ c
  .have i:iF B a≠OD:=k
   show B a≠OD;unfold iF at i;split at i
   .exact i
   .exact Pf rfl i
  .refine⟨?_,?_,(g.fr.bgA b l e).2.2⟩
   .show iF B b≠OD
    unfold iF;rw[OS<|.inr (ok.bgt b l e).1,(ok.bgt b l e).1];simp
   .show iF B l≠OD
    unfold iF;rw[OS<|.inr (ok.bgt b l e).2,(ok.bgt b l e).2];simp
 .rename_i C β1 j
  cases e;refine⟨.error C,_,j,λR t=>?_⟩;obtain⟨g,m⟩:=ok.to rfl t;exact q _ B R m g
 .cases e
theorem bA{c:Expr}{a b:a0R}(l:PT X c<|hO X.K t E)(k:PSs X a<|tG X.K X.H₀ g E)(m:PSs X b<|tG X.K X.H₀ h E):PS X (.If c a b U) (tG X.K X.H₀ (L1 t g h) E):=(HN l k m).imp λD W H r=>by
 obtain⟨B,p,δ,β,o,T,ok,e,q⟩:=r;refine⟨lw B p,gs δ,β,ok.frA,ok.viewA,?_⟩;unfold L1 at e;split at e
 .rename_i β1 i
  refine⟨.ok OK,_,i,λv R t f=>?_⟩;subst f;obtain⟨d,j⟩:=ok.to rfl t;rw[OS rfl];exact⟨B,p,δ,β1,o,T,d,e,jH.pre j q⟩
 .rename_i β1 i
  refine⟨.ok OO,_,i,λv R t f=>?_⟩;subst f;obtain⟨d,j⟩:=ok.to rfl t;rw[OR OY];exact⟨B,p,δ,β1,o,T,d,e,jH.pre j q⟩
 .rename_i C β1 i
  cases e;refine⟨.error C,_,i,λR t=>?_⟩;obtain⟨d,j⟩:=ok.to rfl t;exact q _ B R j d
 .cases e
abbrev M_:=D->Ds->Option Ds
abbrev nX:=a0e->Ds->Option Ds
def o6(K:Pa)(g:TG)(tg:M_):Prop:=∀(f:Hp) (B:Ow) (p:a0q) (H:Hp) (δ a:Ds) (β:Bg) (W:St) (d:D) (v:V) (Q:a0H),fc K f B p H δ β W->b5 K (d5 B p) H d v->tg d δ=on a->(∀h,fc K f B p H a β h->Q h H)->g v W H Q
def rJ(K:Pa)(g:N_)(tg:nX):Prop:=∀(f:Hp) (B:Ow) (p:a0q) (H:Hp) (δ a:Ds) (β:Bg) (W:St) (b:a0e) (c:a0i) (Q:a0H),fc K f B p H δ β W->ba K (d5 B p) H b c->tg b δ=on a->(∀d,fc K f B p H a β d->Q d H)->g c W H Q
noncomputable def PC(i:Nat):M_:=λd δ=>on<|δ.set i<|on<|.sh d
noncomputable def vq:nX:=λa δ=>match a with
 |[]=>on δ
 |_=>OD
noncomputable def mS(t:M_)(u:nX):nX:=λb δ=>match b with
 |[]=>OD
 |d::r=>(t d δ).bind λa=>u r a
noncomputable def Zv(t:nX):M_:=λd δ=>match d with
 | .tup ds=>t ds δ
 |_=>OD
theorem aA:o6 K (gc i) (PC i):=λf B p H δ a β W d v Q b c e k=>by
 cases e;exact k _<|b.set c
theorem cb:rJ K L2.gNil vq:=λf B p H δ a β W b w Q c n e k=>by
 cases b with
 |nil=>cases e;exact⟨n,k _ c⟩
 |cons _ _=>cases e
theorem aM(m:o6 K t s)(o:rJ K u uf):rJ K (z0 t u) (mS s uf):=λf B p H δ a β W b D Q c n e k=>by
 cases b with
 |nil=>cases e
 |cons d r=>
  obtain⟨x,l,rfl,v,w⟩:=n;have h:(s d δ).bind (λa=>uf r a)=on a:=e;cases q:s d δ with
  |none=>rw[q]at h;cases h
  |some g=>
   rw[q]at h;exact⟨x,l,rfl,m f B p H δ g β W d x _ c v q λi j=>o f B p H g a β i r l Q j w h k⟩
theorem bR:∀b δ a,vq b δ=on a->b.length=0:=λb δ a h=>by
 cases b with
 |nil=>rfl
 |cons _ _=>cases h
theorem aL{n:Nat}(h:∀b δ a,u b δ=on a->b.length=n):∀b δ a,mS t u b δ=on a->b.length=n+1:=λb δ a e=>by
 cases b with
 |nil=>cases e
 |cons d r=>
  have g:(t d δ).bind (λa=>u r a)=on a:=e;cases q:t d δ with
  |none=>rw[q]at g;cases g
  |some i=>rw[q]at g;rw[O4,h _ _ _ g]
theorem cR{n:Nat}(h:rJ K t g)(x:∀c δ b,g c δ=on b->c.length=n):o6 K (GZ K n t) (Zv g):=λf B p H δ b β W d v Q D E e k=>by
 cases d<;>first
  |(obtain⟨a,w,rfl,F,dl⟩:=b5.sqT E;exact⟨a,w,rfl,F,by rw[<-dl.length];exact x _ _ _ e,h f B p H δ b β W _ w Q D dl e k⟩)
  |cases e
def AA(f:FD)(tg:M_):G:=λδ β=>match f (vw δ) β with
 |some (.ok d,β1)=>(tg d δ).map λa=>(.nx a,β1)
 |some (.error C,β1)=>on (.ex C δ,β1)
 |none=>OD
theorem qG{f:FD}{tg:M_}(l:o6 X.K g tg)(h:PS X (.Assign [s] e U)<|kY (tV X.K f E) g):PS X (.Assign [s] e U) (tG X.K X.H₀ (AA f tg) E):=h.imp λD W H w=>by
 obtain⟨B,p,δ,β,o,T,ok,e,q⟩:=w;refine⟨d5 B p,vw δ,β,ok.fr,ok.view,?_⟩;unfold AA at e;split at e
 .rename_i d β1 j
  cases a:tg d δ with
  |none=>rw[a]at e;cases e
  |some b=>
   rw[a]at e;cases e;refine⟨.ok d,_,j,λv R t c=>?_⟩;obtain⟨i,m⟩:=ok.to rfl t;exact l X.H₀ B p R δ b _ W d v _ i c a λr u=>q r B R m u
 .rename_i C β1 j
  cases e;refine⟨.error C,_,j,λR t=>?_⟩;obtain⟨i,m⟩:=ok.to rfl t;exact q _ B R m i
 .cases e
def z9(i:Nat)(a:a0T)(f:FD):G:=λδ β=>match(vw δ).getD i OD with
 |none=>OD
 |some c=>match f (vw δ) β with
  |some (.ok d,β1)=>(a c d).map λz=>(.nx<|δ.set i<|on<|.sh z,β1)
  |some (.error C,β1)=>on (.ex C δ,β1)
  |none=>OD
theorem iR{f:FD}(l:bv X.K s op)(h:PS X a<|Ks i (tV X.K f E) s):PS X a (tG X.K X.H₀ (z9 i op f) E):=h.imp λD W H I=>by
 obtain⟨B,p,δ,β,o,T,ok,e,q⟩:=I;unfold z9 at e;split at e
 .cases e
 .rename_i c j
  have m:(vw δ)[i]?=on (on c):=by
   rw[OJ]at j;cases z:(vw δ)[i]? with
   |none=>rw[z]at j;cases j
   |some w=>rw[z]at j;simp at j;rw[j]
  obtain⟨v,J,L⟩:=ok.view.tell i c m;refine⟨v,J,d5 B p,vw δ,β,ok.fr,ok.view,?_⟩;split at e
  .rename_i d β1 r
   cases b:op c d with
   |none=>rw[b]at e;cases e
   |some z=>
    rw[b]at e;cases e;refine⟨.ok d,_,r,λw R t k=>?_⟩;obtain⟨g,y⟩:=ok.to rfl t;refine l (d5 B p) R T _ c d z v w t.fr (b5.tr (t.tr ok.fr) _ _ L) k b λu N O P=>?_;obtain⟨A,Q⟩:=g.to rfl O;exact q _ B N (y.trans Q)<|A.set P
  .rename_i C β1 r
   cases e;refine⟨.error C,_,r,λR t=>?_⟩;obtain⟨g,y⟩:=ok.to rfl t;exact q _ B R y g
  .cases e
theorem hW.tr{B d:Ow}{H R:Hp}{p:a0q}(s:hW B H d R):Tr (d5 B p) H (d5 d p) R:=
 ⟨λa h b z=>by
  have c:B a=OD:=by
   cases q:B a with
   |none=>rfl
   |some t=>exact Pf (show B a≠OD by rw[q];simp) h
  cases q:H a with
  |none=>exact b q
  |some o=>exact z<|s.nn a o q c,λa o h e=>s.kp a o e<|.inl (by
  cases q:B a with
  |none=>rfl
  |some t=>exact Pf (show B a≠OD by rw[q];simp) h),rfl⟩
def ck(t:a0p)(g:G):Nat->G
 |0,_,_=>OD
 |n+1,δ,β=>match t (gs δ) β with
  |some (.ok OK,β1)=>match g δ β1 with
   |some (.nx δ1,β2)=>ck t g n δ1 β2
   |some (.ct δ1,β2)=>ck t g n δ1 β2
   |some (.bk δ1,β2)=>on (.nx δ1,β2)
   |r=>r
  |some (.ok OO,β1)=>on (.nx δ,β1)
  |some (.error C,β1)=>on (.ex C δ,β1)
  |none=>OD
theorem nE:∀{n:Nat} {δ:Ds} {β:Bg} {r:p3×Bg},ck t g n δ β=on r->ck t g (n+1) δ β=on r
 |0,_,_,_,h=>by cases h
 |n+1,δ,β,r,h=>by
  have e:∀m,ck t g (m+1) δ β=match t (gs δ) β with
    |some (.ok OK,a)=>match g δ a with
     |some (.nx δ1,c)=>ck t g m δ1 c
     |some (.ct δ1,c)=>ck t g m δ1 c
     |some (.bk δ1,c)=>on (.nx δ1,c)
     |r=>r
    |some (.ok OO,a)=>on (.nx δ,a)
    |some (.error C,a)=>on (.ex C δ,a)
    |none=>OD:=λm=>rfl
  rw[e]at h⊢;cases q:t (gs δ) β with
  |none=>rw[q]at h;cases h
  |some z=>
   obtain⟨b,a⟩:=z;rw[q]at h;cases b with
   |error C=>exact h
   |ok b=>
    cases b with
    |false=>exact h
    |true=>
     dsimp only at h⊢
     cases f:g δ a with
     |none=>rw[f]at h;cases h
     |some y=>
      obtain⟨o,c⟩:=y;rw[f]at h;cases o with
      |nx δ1=>exact nE h
      |ct δ1=>exact nE h
      |bk δ1=>exact h
      |rt d=>exact h
      |rg d=>exact h
      |ex C δ1=>exact h
theorem ua{n m:Nat}{δ:Ds}{β:Bg}(h:ck t g n δ β=on r)(l:n<=m):ck t g m δ β=on r:=by
 induction m with
 |zero=>
  obtain rfl:n=0:=by lia
  exact h
 |succ m a=>
  by_cases q:n=m+1
  .subst q;exact h
  .exact nE (a<|by lia)
end
open Classical in
def YM(t:a0p)(g:G):G:=λD E=>if h:∃r n,ck t g n D E=on r then on h.choose else OD
theorem Mw(h:ck t g n d e=on r):YM t g d e=on r:=by
 have a:∃r n,ck t g n d e=on r:=⟨r,n,h⟩;unfold YM;rw[dif_pos a];obtain⟨m,D⟩:=a.choose_spec;have c:=ua h<|Nat.le_max_left n m;have b:=ua D<|Nat.le_max_right n m;rw[c]at b;rw[<-Pn b]
theorem JQ(h:YM t g b c=on r):∃n,ck t g n b c=on r:=by
 unfold YM at h;split at h
 .rename_i a
  obtain⟨m,D⟩:=a.choose_spec;cases h;exact⟨m,D⟩
 .cases h
section
variable{X:Cx}{E:a0s}{e:Expr}{st:Qd}{h:a0R}{s:TF}{K:Pa}
theorem rY(T:Ye (Po X.prog X.w) X.A X.env X.xe)(U:PT X c<|hO X.K t E)(W:PSs X body<|tG X.K X.H₀ g E):PS X (.While c body [] s) (tG X.K X.H₀ (YM t g) E):=(F8 T U W).imp λD σ H Y=>by
 obtain⟨B,V,δ,β,o,l,ok,e,q⟩:=Y;obtain⟨n,e⟩:=JQ e;refine⟨λm u P=>∃j M S,hW B H j P/\fc X.K X.H₀ j V P M S u/\ck t g m M S=on (o,l),⟨n,B,δ,β,hW.refl B H,ok,e⟩,?_⟩;rintro m u P ⟨j,M,S,r,h,f⟩;refine⟨lw j V,gs M,S,h.frA,h.viewA,?_⟩;cases m with
 |zero=>cases f
 |succ m=>
  unfold ck at f;split at f
  .rename_i β2 y
   refine⟨.ok OK,_,y,λv N tt hd=>?_⟩;subst hd;obtain⟨b,k⟩:=h.to rfl tt;rw[OS rfl];refine⟨λF Q=>∃O a G,hW B H O Q/\fc X.K X.H₀ O V Q a G F/\ck t g m a G=on (o,l),λF Q ⟨O,a,G,z⟩=>⟨m,Rz m,O,a,G,z⟩,?_⟩;split at f
   .rename_i a G I
    exact⟨j,V,M,β2,.nx a,G,b,I,λp J R L i=>⟨J,a,G,r.trans<|k.trans L,i,f⟩⟩
   .rename_i a G I
    exact⟨j,V,M,β2,.ct a,G,b,I,λp J R L i=>⟨J,a,G,r.trans<|k.trans L,i,f⟩⟩
   .rename_i a G I
    cases f;exact⟨j,V,M,β2,.bk a,_,b,I,λp J R L i=>q p J R (r.trans<|k.trans L) i⟩
   .rename_i x Z h2 h3
    refine⟨j,V,M,β2,o,l,b,f,?_⟩;have q2:=jH.pre (r.trans k) q;cases o with
    |nx a=>exact Pf f<|Z _ _
    |ct a=>exact Pf f<|h2 _ _
    |bk a=>exact Pf f<|h3 _ _
    |rt d=>exact q2
    |rg d=>exact q2
    |ex C a=>exact q2
  .rename_i β2 y
   cases f;refine⟨.ok OO,_,y,λv N tt hd=>?_⟩;subst hd;obtain⟨b,k⟩:=h.to rfl tt;rw[OR OY];exact q _ j N (r.trans k) b
  .rename_i C β2 y
   cases f;refine⟨.error C,_,y,λN tt=>?_⟩;obtain⟨b,k⟩:=h.to rfl tt;exact q _ j N (r.trans k) b
  .cases f
noncomputable def nS(e:M_)(g:G):a0e->G
 |[],δ,β=>on (.nx δ,β)
 |d::ds,δ,β=>match e d δ with
  |none=>OD
  |some h=>match g h β with
   |some (.nx δ2,β2)=>nS e g ds δ2 β2
   |some (.ct δ2,β2)=>nS e g ds δ2 β2
   |some (.bk δ2,β2)=>on (.nx δ2,β2)
   |r=>r
def rm(h:Ds->M a0e)(s:M_)(g:G):G:=λe D=>match h e D with
 |some (.ok ds,β1)=>nS s g ds e β1
 |some (.error C,β1)=>on (.ex C e,β1)
 |none=>OD
abbrev wD(it:FL):M_->G->G:=rm λe=>it<|vw e
theorem Kz(hw:∀{B z H δ β Q R},fc X.K X.H₀ B z H δ β Q->run (λY (M:a0e) (J:It)=>t_ X.K J (d5 B z) Y M) (d5 B z) E Q (it δ) H R β->wi Q H R)(l:o6 X.K tgg tg)(h:PS X (.For tgt iter body [] s)<|FS wi tgg<|tG X.K X.H₀ g E):PS X (.For tgt iter body [] s) (tG X.K X.H₀ (rm it tg g) E):=h.imp λD Q H h_=>by
 obtain⟨B,z,δ,β,o,y,ok,e,q⟩:=h_;refine hw ok ?_;unfold rm at e;split at e
 .rename_i M β1 Z
  refine⟨.ok M,_,Z,λJ S t hJ=>?_⟩;obtain⟨V,s1⟩:=ok.to rfl t;refine⟨λi m n F=>m+i=M.length/\∃k p G,hW B S k F/\fc X.K X.H₀ k z F p G n/\nS tg g (M.drop i) p G=on (o,y),⟨M.length,by lia,B,δ,β1,hW.refl B S,V,e⟩,?_⟩;rintro i m n F ⟨hm,k,p,G,I,c,b⟩;obtain⟨iy,is⟩:=hJ (d5 k z) F G I.tr c.fr i;cases T:M[i]? with
  |none=>
   have U:M.length<=i:=Ul.mp T;rw[QT U]at b;cases b;exact .inl ⟨is (by lia),q n k F (s1.trans I) c⟩
  |some d=>
   have U:i<M.length:=(OM.mp T).1;obtain⟨go,yl⟩:=iy d T;have ed:M.drop i=d::M.drop (i+1):=by
    rw[PU U];congr 1;exact Pn<|(OE U).symm.trans T
   rw[ed]at b;unfold nS at b;split at b
   .cases b
   .rename_i f e3
    refine .inr ⟨go,λL H9=>∃W r u,hW B S W H9/\fc X.K X.H₀ W z H9 r u L/\nS tg g (M.drop<|i+1) r u=on (o,y),λL H9 ⟨W,r,u,z1,z2,z3⟩=>⟨m-1,by lia,by lia,W,r,u,z1,z2,z3⟩,λx H3 hy=>?_⟩;obtain⟨sm,dx⟩:=yl x H3 hy;obtain⟨aa,s3⟩:=c.to rfl<|c.fr.same sm;refine l X.H₀ k z H3 p f G n d x _ aa dx e3 λab v=>?_;have w:=I.trans s3;split at b
    .rename_i a β5 N
     exact⟨k,z,f,G,.nx a,β5,v,N,λA O H6 P j=>⟨O,a,β5,w.trans P,j,b⟩⟩
    .rename_i a β5 N
     exact⟨k,z,f,G,.ct a,β5,v,N,λA O H6 P j=>⟨O,a,β5,w.trans P,j,b⟩⟩
    .rename_i a β5 N
     cases b;exact⟨k,z,f,G,.bk a,_,v,N,λA O H6 P j=>q A O H6 (s1.trans<|w.trans P) j⟩
    .rename_i x h1 h2 h3
     refine⟨k,z,f,G,o,y,v,b,?_⟩;have q2:=jH.pre (s1.trans w) q;cases o with
     |nx a=>exact Pf b<|h1 _ _
     |ct a=>exact Pf b<|h2 _ _
     |bk a=>exact Pf b<|h3 _ _
     |rt d=>exact q2
     |rg d=>exact q2
     |ex C a=>exact q2
 .rename_i C β1 Z
  cases e;refine⟨.error C,_,Z,λY t=>?_⟩;obtain⟨c,I⟩:=ok.to rfl t;exact q _ B Y I c
 .cases e
theorem bJ(l:o6 X.K tgg c)(h:PS X (.For b a body [] s)<|FS (iV X.K d E) tgg<|tG X.K X.H₀ g E):PS X (.For b a body [] s) (tG X.K X.H₀ (wD d c g) E):=Kz (λe r=>⟨_,_,_,e.fr,e.view,r⟩) l h
theorem fc.claim{E:Ds}{A:St}(S:ON->Prop)(D:fc K H₀ B x H E Q A)(t:To (d5 B x) H H' O)(g:∀c,S c->H c=OD/\x4 H' c)(V:∀{r:Ow},(∀c,S c->r c=on (i+2))->(∀c,r c≠OD->B c≠OD\/S c)->Tr (d5 B x) H (d5 r x) H'->qj K r x H' i P v):
  ∃C,fc K H₀ C x H' (E.set i<|on P) O (A.set i<|on v)/\hW B H C H':=by
 classical
 obtain⟨a,F⟩:=D.to rfl t;have hB:∀c,S c->B c=OD:=λc f=>Q7 λz=>D.fr.occ c z (g c f).1;have m:∀c n,B c=on n->¬S c:=λc n e z=>by rw[hB c z]at e;cases e
 have p:hW B H (λc=>if S c then on (i+2)else B c) H':=⟨F.kp,λc f=>OR<|f.elim (m c 0)<|m c 1,λc o h n=>(OR λz=>by rw[(g c z).1]at h;cases h).trans n,F.al⟩;have G:Tr (d5 B x) H (d5 (λc=>if S c then on (i+2)else B c) x) H':=p.tr;have u:∀b l,x=on (b,l)->(if S b then on (i+2)else B b)=on 1/\(if S l then on (i+2)else B l)=on 1:=λb l e=>by
  obtain⟨M,I⟩:=D.bgt b l e;exact⟨(OR<|m b 1 M).trans M,(OR<|m l 1 I).trans I⟩
 refine⟨λc=>if S c then on (i+2)else B c,⟨⟨λc f z=>?_,λb l e=>⟨λz=>(by cases z.symm.trans (u b l e).1),λz=>(by cases z.symm.trans (u b l e).2),(D.fr.bgA b l e).2.2⟩,a.fr.bag⟩,u,by rw[QC,QC,D.len],a.cov,λc k f=>?_,λc k f=>?_,λj s e=>?_⟩,p⟩
 .by_cases q:S c
  .rcases(g c q).2 with⟨_,w⟩|⟨_,w⟩<;>(rw[w]at z;cases z)
  .exact a.fr.occ c (λy=>f<|(OR q).trans y) z
 .by_cases z:S c
  .cases w:H₀ c with
   |none=>rfl
   |some o=>exact Pf (g c z).1 (D.cov c<|by rw[w];simp)
  .exact D.new c k ((OR z).symm.trans f)
 .by_cases z:S c
  .exact(g c z).2
  .exact a.lst c k ((OR z).symm.trans f)
 .rw[QH]at e⊢
  by_cases q:i=j
  .subst q
   rw[OS rfl]at e⊢;split at e
   .rename_i J
    cases e;rw[OS<|by rw[<-D.len];exact J];exact⟨_,rfl,V (λc z=>OS z) (λc z=>Q7 λy=>z<|(OR λw=>y<|.inr w).trans<|Q7 λw=>y<|.inl w) G⟩
   .cases e
  .rw[OR q]at e⊢
   obtain⟨w,L,N⟩:=D.tell j s e;exact⟨w,L,N.tr G λc d=>⟨(OR<|m c _ d).trans d,λo h=>t.kp c o h λb l z=>⟨λy=>(by subst y;rw[(D.bgt _ _ z).1]at d;cases d),λy=>(by subst y;rw[(D.bgt _ _ z).2]at d;cases d)⟩⟩⟩
theorem fc.newAt{e:Ds}{b:St}(s:fc K H₀ B j H e k b)(d:H p=OD)(g:x4 (upd H p u) p)(D:∀{a:Ow},a p=on (i+2)->Tr (d5 B j) H (d5 a j) (upd H p u)->qj K a j (upd H p u) i l (.ref p)):
  ∃f,fc K H₀ f j (upd H p u) (e.set i<|on l) k (b.set i<|on<|.ref p)/\hW B H f (upd H p u):=s.claim (·=p) (s.fr.upd u d) (λc z=>by cases z;exact⟨d,g⟩) λh _ E=>D (h p rfl) E
theorem fc.writeAt{E:Ds}(D:fc K H₀ B w H E A x)(M:x[i]?=on (on<|.ref a))(hB:B a=on (i+2))(p:x4 (upd H a u) a)(S:Tr (d5 B w) H (d5 B w) (upd H a u)->qj K B w (upd H a u) i C (.ref a)):
  fc K H₀ B w (upd H a u) (E.set i<|on C) A x/\hW B H B (upd H a u):=by
 have f:hW B H B (upd H a u):=by
  refine⟨λc o h n=>?_,λ_ _=>rfl,λ_ _ _ n=>n,λc g=>?_⟩
  .rw[bb]
   .exact h
   .intro z;subst z;rw[hB]at n;rcases n with n|n<;>cases n
  .by_cases z:c=a
   .subst z;rw[ax];simp
   .rw[bb z];exact g
 have G:Tr (d5 B w) H (d5 B w) (upd H a u):=f.tr;refine⟨⟨⟨λc g z=>?_,D.fr.bgA,λb l e=>?_⟩,D.bgt,by rw[QC,D.len],λa V=>f.al a<|D.cov a V,D.new,λc k g=>(by
  by_cases z:c=a
  .subst z;exact p
  .exact(D.lst c k g).imp λo y=>by rw[bb z];exact y),λj s e=>?_⟩,f⟩
 .by_cases q:c=a
  .subst q;rw[ax]at z;cases z
  .rw[bb q]at z;exact D.fr.occ c g z
 .obtain⟨b1,m⟩:=D.bgt b l e
  rw[bb (λz=>by subst z;rw[hB]at b1;cases b1),bb (λz=>by subst z;rw[hB]at m;cases m)];exact D.fr.bag b l e
 .rw[QH]at e
  by_cases q:i=j
  .subst q
   rw[OS rfl]at e;split at e
   .cases e
    exact⟨_,M,S G⟩
   .cases e
  .rw[OR q]at e
   obtain⟨v,r,t⟩:=D.tell j s e;exact⟨v,r,t.tr G λc d=>⟨d,λo z=>(bb λy=>by subst y;rw[hB]at d;cases d;exact q rfl).trans z⟩⟩
theorem fc.newOwn{h:Ds}{a:St}(s:fc K H₀ B f H h g a)(c:H p=OD)(D:ba K (d5 B f) H j d):
  ∃b,fc K H₀ b f (upd H p<|.lst d) (h.set i<|on<|.own j) g (a.set i<|on<|.ref p)/\hW B H b (upd H p<|.lst d):=s.newAt c (.inl ⟨d,ax⟩) λe t=>⟨p,d,rfl,e,ax,ba.tr t _ _ D⟩
theorem fc.writeOwn{e:Ds}(h:fc K H₀ B b H e d c)(s:c[i]?=on (on<|.ref a))(hB:B a=on (i+2))(E:H a=on (.lst f))(D:ba K (d5 B b) H ds xs):
  fc K H₀ B b (upd H a<|.lst xs) (e.set i<|on<|.own ds) d c/\hW B H B (upd H a<|.lst xs):=h.writeAt s hB (.inl ⟨xs,ax⟩) λt=>⟨a,xs,rfl,hB,ax,ba.tr t _ _ D⟩
def wC(i:Nat)(f:FL):G:=λe h=>match f (vw e) h with
 |some (.ok ds,β1)=>if ds.length<=Pe then on (.nx<|e.set i<|on<|.own ds,β1)else OD
 |some (.error C,β1)=>on (.ex C e,β1)
 |none=>OD
theorem kH(h:PS X st<|kY (Kq<|hX X.K f E)<|gc i):PS X st (tG X.K X.H₀ (wC i f) E):=h.imp λD r H j=>by
 obtain⟨B,G,M,S,o,k,ok,e,q⟩:=j;refine⟨d5 B G,vw M,S,ok.fr,ok.view,?_⟩;unfold wC at e;split at e
 .rename_i ds β1 b
  split at e
  .rename_i l
   cases e;refine⟨.ok ds,_,b,λV g t s=>⟨by rw[<-s.length];exact l,λp m=>?_⟩⟩;obtain⟨a,c⟩:=ok.to rfl t;obtain⟨u,d,n⟩:=a.newOwn (i:=i) m s;exact q _ _ _ (c.trans n) d
  .cases e
 .rename_i C β1 b
  cases e;refine⟨.error C,_,b,λg t=>?_⟩;obtain⟨a,c⟩:=ok.to rfl t;exact q _ B g c a
 .cases e
def sI(i:Nat)(f:FL):G:=λe h=>match e.getD i OD with
 |some (.own cs)=>match f (vw e) h with
  |some (.ok [d],β1)=>if cs.length<Pe then on (.nx<|e.set i<|on<|.own<|cs++[d],β1)else OD
  |some (.error C,β1)=>on (.ex C e,β1)
  |_=>OD
 |_=>OD
theorem getD_some{D:Type}{e:List (Option D)}{i:Nat}{s:D}(h:e.getD i OD=on s):e[i]?=on (on s):=by
 rw[OJ]at h;cases z:e[i]? with
 |none=>rw[z]at h;cases h
 |some w=>rw[z]at h;simp at h;rw[h]
theorem jA(h:PS X st<|yX<|tBM X.K "list" xR (pF i)<|hX X.K f E):PS X st (tG X.K X.H₀ (sI i f) E):=h.imp λD P H y=>by
 obtain⟨B,s,G,M,o,A,ok,e,q⟩:=y;unfold sI at e;split at e
 .rename_i cs u
  obtain⟨v,l,a,S,rfl,F,I,Q⟩:=ok.tell i _<|getD_some u;refine⟨_,l,.inl ⟨rfl,S,eg.of I⟩,d5 B s,vw G,M,ok.fr,ok.view,?_⟩;split at e
  .rename_i d β1 m
   split at e
   .rename_i J
    cases e;refine⟨.ok [d],_,m,λx w t V=>?_⟩;obtain⟨b,n⟩:=ok.to rfl t;obtain⟨v,rfl,L⟩:=ba.one V;obtain⟨R,c,T,g,p,N,j,k⟩:=b.tell i _<|getD_some u;rw[l]at c;cases c;cases p;refine⟨a,g,v,rfl,rfl,j,by rw[<-k.length];exact J,?_⟩;obtain⟨r,O⟩:=b.writeOwn (ds:=cs++[d]) (xs:=g++[v]) l F j<|ba.append k<|ba.cons L ba.nil;exact q _ _ _ (n.trans O) r
   .cases e
  .rename_i C β1 m
   cases e;refine⟨.error C,_,m,λw t=>?_⟩;obtain⟨b,n⟩:=ok.to rfl t;exact q _ B w n b
  .cases e
 .cases e
noncomputable def nw(n:Nat)(ds:a0e):Ds:=ds.map (λd=>on<|Sl.sh d)++Pg (n-ds.length) OD
def gG(n:Nat)(g:G):a0e->M D:=λe h=>match g (nw n e) h with
 |some (.rt d,β')=>on (.ok d,β')
 |some (.nx _,β')=>on (.ok .non,β')
 |some (.ex C _,β')=>on (.error C,β')
 |_=>OD
theorem vi{F:Fx}{N:a0h}(fr:Fr F H x)(E:ba K F H w y):∃B,fc K H B F.bg H (nw N.length w) x (gx N y)/\(∀a,F.A a->B a=on 0\/B a=on 1)/\(∀a,B a=on 1->∃b l,F.bg=on (b,l)/\(a=b\/a=l))/\(∀a,B a≠OD->F.A a):=by
 classical
 refine⟨λa=>if F.A a then(if ∃b l,F.bg=on (b,l)/\(a=b\/a=l)then on 1 else on 0)else OD,⟨⟨λa D=>fr.occ a ?_,λb l e=>?_,fr.bag⟩,λb l e=>?_,?_,λ_ h=>h,λc k m=>(by
  have f:(if F.A c then(if ∃b l,F.bg=on (b,l)/\(c=b\/c=l)then on 1 else on 0)else OD)=on (k+2):=m;split at f
  .split at f<;>cases f
  .cases f),λc k m=>(by
  have f:(if F.A c then(if ∃b l,F.bg=on (b,l)/\(c=b\/c=l)then on 1 else on 0)else OD)=on (k+2):=m;split at f
  .split at f<;>cases f
  .cases f),λi s e=>?_⟩,λa D=>?_,λa D=>?_,λa D=>?_⟩
 .have g:(if F.A a then(if ∃b l,F.bg=on (b,l)/\(a=b\/a=l)then on 1 else on 0)else OD)≠(OD:a0L):=D
  split at g
  .assumption
  .exact Pf rfl g
 .obtain⟨a1,a2,a3⟩:=fr.bgA b l e
  refine⟨?_,?_,a3⟩
  .show(if F.A b then(if ∃j l,F.bg=on (j,l)/\(b=j\/b=l)then on 1 else on 0)else OD)≠(OD:a0L)
   rw[OS a1];split<;>simp
  .show(if F.A l then(if ∃j p,F.bg=on (j,p)/\(l=j\/l=p)then on 1 else on 0)else OD)≠(OD:a0L)
   rw[OS a2];split<;>simp
 .obtain⟨a1,a2,a3⟩:=fr.bgA b l e
  exact⟨by rw[OS a1,OS ⟨b,l,e,.inl rfl⟩],by rw[OS a2,OS ⟨b,l,e,.inr rfl⟩]⟩
 .unfold nw gx
  rw[O8,O8,OC,OC,QZ,QZ,E.length]
 .unfold nw at e
  unfold gx;rw[U3,OC]at e;rw[U3,OC,<-E.length];by_cases n:i<w.length
  .rw[OS n,OI]at e
   rw[OS n,OI];cases z:w[i]? with
   |none=>rw[z]at e;cases e
   |some d=>
    rw[z]at e;cases e;obtain⟨v,r,t⟩:=E.get z;refine⟨v,by rw[r];rfl,?_⟩;have o:Tr F H (d5 (λa=>if F.A a then(if ∃b l,F.bg=on (b,l)/\(a=b\/a=l)then on 1 else on 0)else OD) F.bg) H:=by
     refine⟨λa D _ u=>?_,λ_ _ _ h=>h,rfl⟩;have q:(if F.A a then(if ∃b l,F.bg=on (b,l)/\(a=b\/a=l)then on 1 else on 0)else OD)≠(OD:a0L):=u;rw[OR D]at q;exact q rfl
    exact b5.tr o _ _ t
  .rw[OR n,Ro]at e
   split at e<;>cases e
 .simp only[OS D]
  split
  .exact .inr rfl
  .exact .inl rfl
 .simp only at D
  split at D
  .split at D
   .assumption
   .cases D
  .cases D
 .simp only at D
  split at D
  .assumption
  .exact Pf rfl D
variable{P:Py}{w:PD}{mg:a0j}{X:PZ}
theorem JT{st:Qd}{N M:a0h}(F:hL K x qual st f fd)(S:bt N M<|ag st)
  (y:∀(j:OP) (A:Qc) (D:a0C) (s:OT) (H:Hp) (E:XK),dv k (A.deeper<|Tg qual (ag st) s.heap.objs.size f j)->
   PSs (gi (hE P w) P w K mg X N qual (ag st) f j A D s H E) (cI st) (tG K H g (λ_=>E))):fw P w K mg X (hE P w) (k+1) f fd M (Ic K M.length<|gG N.length g):=by
 refine F.okE S (λvs H Q E h=>h.1) λj A D s H vs Q E Y h=>?_;obtain⟨hl,p,V,β,fr,hd,r,i,e,h⟩:=h;refine⟨_,y j A D s H E Y,?_⟩;obtain⟨B,ok,T,Z,hn⟩:=vi (N:=N) fr hd;have I:∀{u:Ow} {c:Hp},hW B H u c->Fr (d5 u p.bg) c i->To p H c i/\Tr (d5 u p.bg) c p c:=λ{u c} s m=>by
  have hs:∀a,p.A a->u a≠OD:=λa G=>by
   rw[s.tg a<|T a G];rcases T a G with z|z<;>rw[z]<;>simp
  refine⟨⟨λa o G n=>s.kp a o G ?_,λa G=>m.occ a<|hs a G,λb l e=>fr.bgA b l e,m.bag⟩,λa G _ z=>G<|hs a z,λ_ _ _ h=>h,rfl⟩;cases q:B a with
  |none=>exact .inl rfl
  |some t=>
   have:=T a (hn a<|by rw[q];simp);rcases this with z|z
   .rw[q]at z;exact .inr z
   .obtain⟨b,l,e,w⟩:=Z a z
    obtain⟨n1,n2⟩:=n b l e;rcases w with w|w
    .exact Pf w n1
    .exact Pf w n2
 unfold gG at e;split at e
 .rename_i d β1 O
  cases e;refine⟨B,p.bg,nw N.length V,β,.rt d,i,ok,O,λv u c s m hv=>?_⟩;obtain⟨R,U⟩:=I s m;exact h v c R<|b5.tr U _ _ hv
 .rename_i J β1 O
  cases e;refine⟨B,p.bg,nw N.length V,β,.nx J,i,ok,O,λW u c s L=>?_⟩;obtain⟨R,U⟩:=I s L.fr;exact h _ c R rfl
 .rename_i C J β1 O
  cases e;refine⟨B,p.bg,nw N.length V,β,.ex C J,i,ok,O,λW u c s L=>?_⟩;obtain⟨R,U⟩:=I s L.fr;exact h c R
 .cases e
variable{y:Py}{A:Qc}
theorem Ox(l:A.handled=OD)(D t:ON)(M:t≠D)(b:a0M):WG y w A D [D,t] b.size (λi v=>b[i]?=on v) (λi h=>h.IsTupleIter D t i/\h.IsTuple t b) where
 live:=λ_ _ st=>let ⟨o,e,_⟩:=st.1;⟨o,e⟩
 frame:=λ_ _ _ st k=>⟨st.1.at λo e=>k D (by simp) o e,by
  obtain⟨o,e,r⟩:=st.2;exact⟨o,k t (by simp) o e,r⟩⟩
 item:=λi s Q E p st q=>by
  obtain⟨o,d,G,c⟩:=id st.1;obtain⟨n,f,_,K,g⟩:=st.2;have j:b[i]?=on b[i]:=by simp[p]
  unfold Q2;refine My<|wpAny_callSpecial?_slot (name:=RU "__next__") st.1.typeIs SJ<|P5 SJ st.1.typeIs WH ?_<|Ww _;show O6 _ _ (Yn (.ref D) 0>>=_) _ _ _;refine My<|QK d c (x:= .ref t) rfl ?_;show O6 _ _ (if(Pc t==P7)=OK then _ else _) _ _ _;rw[OR (show ¬((Pc t==P7)=OK)from OY)];show O6 _ _ (Yn (.ref D) 1>>=_) _ _ _;refine My<|QK d c (x:= .int i 0) rfl ?_;show O6 _ _ (seqItems? (.ref t)>>=_) _ _ _;refine My<|Q3 f g ?_;simp only[Qu,j];refine My<|Tz d c (by simp)<|OG ⟨b[i],rfl,OG<|q _ _ s.toks j ⟨?_,?_⟩<|QP ..⟩
  .exact⟨_,Sm _ d<|UY<|Rk c _,(VJ ..).trans G,by rw[Rk c];simp[Tw]⟩
  .exact⟨n,(QP ..).extBut _ _ M f,by assumption,K,g⟩
 done:=λs Q E st u=>by
  obtain⟨o,d,G,c⟩:=id st.1;obtain⟨n,f,_,K,g⟩:=st.2;have j:b[b.size]?=OD:=by simp
  unfold Q2;refine My<|wpAny_callSpecial?_slot (name:=RU "__next__") st.1.typeIs SJ<|P5 SJ st.1.typeIs WH ?_<|Ww _;show O6 _ _ (Yn (.ref D) 0>>=_) _ _ _;refine My<|QK d c (x:= .ref t) rfl ?_;show O6 _ _ (if(Pc t==P7)=OK then _ else _) _ _ _;rw[OR (show ¬((Pc t==P7)=OK)from OY)];show O6 _ _ (Yn (.ref D) 1>>=_) _ _ _;refine My<|QK d c (x:= .int b.size 0) rfl ?_;show O6 _ _ (seqItems? (.ref t)>>=_) _ _ _;refine My<|Q3 f g ?_;simp only[Qu,j];refine My<|SS<|My<|Tz d c (by simp) ?_;show O6 _ _ (YA (.type "StopIteration") []>>=_) _ _ _;refine My ?_;simp only[YA,newTuple];refine My (Qy ?_<|by size_fits);refine My (m:=Tv _ _)<|Ss (a:=P7) (by first|rfl|(simp only[Tv];rfl)) ?_;refine Qy ?_ (by size_fits)
  simp only[raiseNew];refine My<|X2 ?_
  first|rw[show A.in1.handled=OD from l]|rw[l];skip
  refine My<|OG<|wpAny_throw ?_;exact u _ _ (((QP ..).extBut.push _).push _) ⟨_,O5 _ rfl,rfl⟩
structure Ap (z TI TO i1 i2:ON) (f1 f2:a0o):Prop where
 a1:TI≠z
 a2:TO≠z
 a3:i1≠z
 a4:i2≠z
 a5:TI≠TO
 a6:TI≠i1
 a7:TI≠i2
 a8:TO≠i1
 a9:TO≠i2
 b1:i1≠i2
 c1:z∉f1
 c2:TO∉f1
 c3:i2∉f1
 d1:z∉f2
 d2:TO∉f2
 d3:i1∉f2
 m1:i1∈f1
 m2:i2∈f2
end
section
variable{prog:Py}{w:PD}{A:Qc}{E:a0f}{s:OT}
theorem cF{s:ON}{f:a0o}{h w:PZ}(a:PL s h w)(n:s∉f):∀b∈f,∀o,h.get? b=on o->w.get? b=on o:=λb c o e=>a.extBut b o (λq=>n<|q▸c) e
theorem AU{z TI TO r t:ON}{f1 f2:a0o}{u B k:Nat}{P1 P2:Nat->OP->Prop}{W X:Nat->PZ->Prop}{a b:OP}{Q:a0f}(L:WG prog w A r f1 u P1 W)(N:WG prog w A t f2 B P2 X)(d:Ap z TI TO r t f1 f2)
  (P:UM s.heap z TI TO .none) (eI:Sb s.heap TI (.ref r)<|.ref t) (eO:Sb s.heap TO a b) (s1:W k s.heap) (s2:X k s.heap) (k1:k<u) (k2:k<B)
  (hQ:∀D tk x y,P1 k x->P2 k y->UM D z TI TO (Tw s.heap.objs.size)->Sb D TO x y->W (k+1) D->X (k+1) D->Sb D s.heap.objs.size x y->D.objs.size=s.heap.objs.size+1->(∀c o,c≠z->c≠TO->c≠r->c≠t->s.heap.get? c=on o->D.get? c=on o)->Q (.ref s.heap.objs.size) {s with heap:=D,toks:=tk}):
  O6 (Po prog w) A (Builtin.«zip.__next__» ⟨[.ref z],[]⟩) (λG s'=>∃v,G= .done (.ret v)/\Q v s') E s:=by
 obtain⟨Z,gg,dd,af,os⟩:=s;show O6 _ _ (Yn (.ref z) 2>>=_) _ _ _;refine My<|QK P rfl (x:= .bool OO) rfl ?_;show O6 _ _ (Yn (.ref z) 3>>=_) _ _ _;refine My<|QK P rfl (x:= .ref TI) rfl ?_;refine My<|Q3 eI rfl ?_;show O6 _ _ (Rc (.ref z)>>=_) _ _ _;refine My ?_;unfold Rc;refine My<|QK P rfl (x:= .none) rfl<|OG ?_;simp only[P8];refine My<|SS ?_;refine My<|QK P rfl (x:= .ref TO) rfl ?_;refine My<|QL P (by simp) λK C g=>?_
 replace C:UM K z TI TO .ellipsis:=C
 replace g:PL z Z K:=g
 refine My ?_;simp only[List.zipIdx_cons,List.zipIdx_nil,Sh,Sz];refine My<|My<|VS ?_;show O6 _ _ (Q2 (.ref r)>>=_) _ _ _;refine My<|L.item k _ _ _ k1 (L.frame _ _ _ s1<|cF g d.c1) λx M ag px S h=>OG ?_
 replace h:PL r K M:=h
 have R:Sb M TO a b:=h.extBut _ _ d.a8<|g.extBut _ _ d.a2 eO;refine My<|Q3 R rfl ?_;refine My<|VB R λV F i=>?_
 replace F:Sb V TO x b:=F
 replace i:PL TO M V:=i
 refine My<|WQ<|OG ?_;refine My<|My<|VS ?_;show O6 _ _ (Q2 (.ref t)>>=_) _ _ _;refine My<|N.item k _ _ _ k2 (N.frame _ _ _ (N.frame _ _ _ (N.frame _ _ _ s2<|cF g d.d1)<|cF h d.d3)<|cF i d.d2) λy g4 ah py aa j=>OG ?_
 replace j:PL t V g4:=j
 have T:Sb g4 TO x b:=j.extBut _ _ d.a9 F;refine My<|Q3 T rfl ?_;refine My<|VB T λf m l=>?_
 replace m:Sb f TO x y:=m
 replace l:PL TO g4 f:=l
 refine My<|WQ<|OG<|OG ?_;refine My<|Q3 m rfl ?_;refine My<|Xq ?_;have zs:f.objs.size=Z.objs.size:=by rw[l.1,j.1,i.1,h.1,g.1]
 have U:UM f z TI TO .ellipsis:=l.extBut _ _ d.a2.symm<|j.extBut _ _ d.a4.symm<|i.extBut _ _ d.a2.symm<|h.extBut _ _ d.a3.symm C;have ab:∀c o,c≠z->c≠TO->c≠r->c≠t->Z.get? c=on o->f.get? c=on o:=λc o u B n3 n4 e=>l.extBut _ _ B<|j.extBut _ _ n4<|i.extBut _ _ B<|h.extBut _ _ n3<|g.extBut _ _ u e;have ac:W (k+1) f:=L.frame _ _ _ (L.frame _ _ _ (L.frame _ _ _ S<|cF i d.c2)<|cF j d.c3)<|cF l d.c2;have ad:X (k+1) f:=N.frame _ _ _ aa<|cF l d.d2;have zl:z<f.objs.size:=Ph U;show O6 _ _ (T9 (.ref z) (.ref f.objs.size)>>=_) _ _ _;refine My ?_;unfold T9;have ae:UM (f.push {cls:= .type "tuple",data:= .seq #[x,y]}) z TI TO .ellipsis:=OH _ U;refine My<|QL ae (by simp) λg7 H I=>?_
 replace H:UM g7 z TI TO (Tw f.objs.size):=H
 refine QL H (by simp) λO p J=>?_
 replace p:UM O z TI TO (Tw f.objs.size):=p
 have Y:∀c o,c≠z->f.get? c=on o->O.get? c=on o:=λc o n e=>J.extBut _ _ n<|I.extBut _ _ n<|OH _ e;have eT:Sb O f.objs.size x y:=J.extBut _ _ (RT zl)<|I.extBut _ _ (RT zl)<|O5 _ rfl;have z8:O.objs.size=f.objs.size+1:=by rw[J.1,I.1,QD]
 rw[zs]at p eT z8;refine OG ⟨_,rfl,?_⟩;show Q (.ref f.objs.size) ⟨O,gg,dd,_,os⟩;rw[zs];exact hQ O _ x y px py p (Y _ _ d.a2 m) (L.frame _ _ _ ac λb hb o e=>Y b o (λq=>d.c1<|q▸hb) e) (N.frame _ _ _ ad λb hb o e=>Y b o (λq=>d.d1<|q▸hb) e) eT z8 λc o u B n3 n4 e=>Y c o u<|ab c o u B n3 n4 e
theorem Fv{z TI TO n r:ON}{f1 f2:a0o}(H:WG prog w A n f1 m P1 S1)(I:WG prog w A r f2 T P2 S2)(i:Ap z TI TO n r f1 f2)
  (u:UM s.heap z TI TO .none) (Y:Sb s.heap TI (.ref n)<|.ref r) (Z:Sb s.heap TO a b) (U:S1 k s.heap) (G:S2 k s.heap) (N:k=m\/(k<m/\k=T))
  (W:∀D e K,(∀c o,c≠z->c≠TO->c≠n->c≠r->s.heap.get? c=on o->D.get? c=on o)->(∃o,D.get? e=on o/\o.cls= .type "StopIteration")->E (.ref e) {s with heap:=D,toks:=K}):
  O6 (Po prog w) A (Builtin.«zip.__next__» ⟨[.ref z],[]⟩) Q E s:=by
 obtain⟨M,gg,dd,S,os⟩:=s;show O6 _ _ (Yn (.ref z) 2>>=_) _ _ _;refine My<|QK u rfl (x:= .bool OO) rfl ?_;show O6 _ _ (Yn (.ref z) 3>>=_) _ _ _;refine My<|QK u rfl (x:= .ref TI) rfl ?_;refine My<|Q3 Y rfl ?_;show O6 _ _ (Rc (.ref z)>>=_) _ _ _;refine My ?_;unfold Rc;refine My<|QK u rfl (x:= .none) rfl<|OG ?_;simp only[P8];refine My<|SS ?_;refine My<|QK u rfl (x:= .ref TO) rfl ?_;refine My<|QL u (by simp) λJ j f=>?_
 replace j:UM J z TI TO .ellipsis:=j
 replace f:PL z M J:=f
 refine My ?_;simp only[List.zipIdx_cons,List.zipIdx_nil,Sh,Sz];refine My<|My<|VS ?_;show O6 _ _ (Q2 (.ref n)>>=_) _ _ _;rcases N with rfl|⟨N,rfl⟩
 .refine My (H.done _ _ _ (H.frame _ _ _ U<|cF f i.c1) λt e d O=>?_)
  replace d:VU n J t:=d
  obtain⟨P,h,v⟩:=O;have y:UM t z TI TO .ellipsis:=d _ _ i.a3.symm j;have p:e≠z:=λq=>by subst q;rw[y]at h;cases h;simp at v
  exact QL y (by simp) λL _ g=>W L e _ (λc o m _ R _ q=>g.extBut _ _ m<|d _ _ R<|f.extBut _ _ m q) ⟨P,g.extBut _ _ p h,v⟩
 .refine My (H.item k _ _ _ N (H.frame _ _ _ U<|cF f i.c1) λx t V px aa d=>OG ?_)
  replace d:PL n J t:=d
  have B:Sb t TO a b:=d.extBut _ _ i.a8<|f.extBut _ _ i.a2 Z;refine My<|Q3 B rfl ?_;refine My<|VB B λL ab g=>?_
  replace g:PL TO t L:=g
  refine My<|WQ<|OG ?_;refine My<|My<|VS ?_;show O6 _ _ (Q2 (.ref r)>>=_) _ _ _;refine My<|I.done _ _ _ (I.frame _ _ _ (I.frame _ _ _ (I.frame _ _ _ G<|cF f i.d1)<|cF d i.d3)<|cF g i.d2) λX e l O=>?_
  replace l:VU r L X:=l
  obtain⟨P,h,v⟩:=O;have C:UM X z TI TO .ellipsis:=l _ _ i.a4.symm<|g.extBut _ _ i.a2.symm<|d.extBut _ _ i.a3.symm j;have p:e≠z:=λq=>by subst q;rw[C]at h;cases h;simp at v
  exact QL C (by simp) λg5 _ F=>W g5 e _ (λc o m T R n4 q=>F.extBut _ _ m<|l _ _ n4<|g.extBut _ _ T<|d.extBut _ _ R<|f.extBut _ _ m q) ⟨P,F.extBut _ _ p h,v⟩
theorem AT{z TI TO e f:ON}{f1 f2:a0o}(i:∀d:Qc,d.handled=A.handled->WG prog w d e f1 J P1 S1)(j:∀d:Qc,d.handled=A.handled->WG prog w d f f2 n2 P2 S2)(l:Ap z TI TO e f f1 f2)
  (h:UM s.heap z TI TO .none) (m:Sb s.heap TI (.ref e)<|.ref f) (n:Sb s.heap TO a b) (p:S1 k s.heap) (q:S2 k s.heap) (r:k<J) (t:k<n2)
  (u:∀D g x y,P1 k x->P2 k y->UM D z TI TO (Tw s.heap.objs.size)->Sb D TO x y->S1 (k+1) D->S2 (k+1) D->Sb D s.heap.objs.size x y->D.objs.size=s.heap.objs.size+1->(∀c o,c≠z->c≠TO->c≠e->c≠f->s.heap.get? c=on o->D.get? c=on o)->Q (on<|.ref s.heap.objs.size) {s with heap:=D,toks:=g}):
  O6 (Po prog w) A (S7<|.ref z) Q E s:=by
 have G:s.TypeIs (.ref z) "zip":=⟨_,h,rfl⟩;unfold S7;exact My<|T6<|wpAny_callSpecial?_slot (name:=RU "__next__") G U2<|P5 U2 G F.entry_zip_next (AU (i _ rfl) (j _ rfl) l h m n p q r t λD g x y K M S V v B C H I=>OG<|u D g x y K M S V v B C H I)<|F.args_zip_next_1 _
theorem Fu{z TI TO f g:ON}{f1 f2:a0o}(j:∀d:Qc,d.handled=A.handled->WG prog w d f f1 x P1 S1)(l:∀d:Qc,d.handled=A.handled->WG prog w d g f2 n2 P2 S2)(m:Ap z TI TO f g f1 f2)
  (h:UM s.heap z TI TO .none) (n:Sb s.heap TI (.ref f)<|.ref g) (p:Sb s.heap TO a b) (q:S1 k s.heap) (r:S2 k s.heap) (t:k=x\/(k<x/\k=n2))
  (u:∀D i,(∀c o,c≠z->c≠TO->c≠f->c≠g->s.heap.get? c=on o->D.get? c=on o)->Q OD {s with heap:=D,toks:=i}):O6 (Po prog w) A (S7<|.ref z) Q E s:=by
 have G:s.TypeIs (.ref z) "zip":=⟨_,h,rfl⟩;unfold S7;refine My<|T6<|wpAny_callSpecial?_slot (name:=RU "__next__") G U2<|P5 U2 G F.entry_zip_next (Fv (j _ rfl) (l _ rfl) m h n p q r t λD e i v y=>?_)<|F.args_zip_next_1 _;obtain⟨o,B,C⟩:=y;refine My<|RF (T:="StopIteration") (b:=OK) ⟨o,B,C⟩ Xl ?_;exact OG<|u _ _ v
def vr(b:Bool)(h:PZ)(a:ON)(s:a0M):Prop:=if b=OK then h.IsList a s else h.IsTuple a s
noncomputable def Ia(b:Bool):String:=if b=OK then "list_iterator"else "tuple_iterator"
noncomputable abbrev q9(b:Bool)(a:ON):Qk:={cls:= .type<|Ia b,data:= .fields #[.ref a,.int 0 0]}
def iw(b:Bool)(h:PZ)(s a:ON)(k:Nat):Prop:=if b=OK then h.IsListIter s a k else h.IsTupleIter s a k
theorem vr.keep{b:Bool}{h s:PZ}(x:vr b h a c)(k:∀o,h.get? a=on o->s.get? a=on o):vr b s a c:=by
 unfold vr at x⊢;split at x
 .rename_i q;rw[OS q];exact x.at λo e=>k o e
 .rename_i q;rw[OR q]
  obtain⟨o,e,r⟩:=x;exact⟨o,k o e,r⟩
theorem qO{b:Bool}(x:vr b s.heap a c)(h:Q (.ref s.heap.objs.size) {s with heap:=s.heap.push (q9 b a)}):O6 (Po prog w) A (Va<|.ref a) Q E s:=by
 cases b with
 |true=>exact Tx (show s.heap.IsList a c from x) h
 |false=>exact UH (show s.heap.IsTuple a c from x) h
theorem uR(b:Bool)(c:A.handled=OD)(D a:ON)(E:a≠D)(s:a0M):WG prog w A D [D,a] s.size (λi v=>s[i]?=on v) (λi h=>iw b h D a i/\vr b h a s):=by
 cases b with
 |true=>exact XI c D a E s
 |false=>exact Ox c D a E s
abbrev Zm(s:Bool)(h:PZ)(a:ON):PZ:=h.push<|q9 s a
abbrev Zl(s a:Bool)(h:PZ)(b c:ON):PZ:=(Zm s h b).push<|q9 a c
abbrev Zk(s b:Bool)(h:PZ)(a c:ON):PZ:=(Zl s b h a c).push {cls:= .type "tuple",data:= .seq #[.ref h.objs.size,.ref (Zm s h a).objs.size]}
abbrev Zj(s a:Bool)(h:PZ)(b c:ON):PZ:=(Zk s a h b c).push {cls:= .type "tuple",data:= .seq #[.none,.none]}
abbrev YF(s a:Bool)(h:PZ)(b c:ON):PZ:=(Zj s a h b c).push {cls:= .type "zip",data:= .fields #[.none,.bool OO,.bool OO,.ref (Zl s a h b c).objs.size,.ref (Zk s a h b c).objs.size]}
theorem zC(D c:Bool)(a b:ON)(E G:a0M):
  Meets (Builtin.«zip.__new__» ⟨[.type "zip",.ref a,.ref b],[]⟩) (λ_ R s=>vr D s.heap a E/\vr c s.heap b G/\R (.ok<|.ret<|.ref (Zj D c s.heap a b).objs.size) {s with heap:=YF D c s.heap a b}):=
 .of_wp λprog w A R s h=>by
  obtain⟨f,g,d,i,K⟩:=s;obtain⟨k,l,q⟩:=h;have j:=sub_zip;have m:vr D (Shared.heap ⟨f,g,d,i,K⟩) a E:=k;have n:vr c (Shared.heap ⟨f.push<|q9 D a,g,d,i,K⟩) b G:=l.keep λo e=>OH _ e
  wp_walk using qO m,qO n
  exact⟨_,rfl,q⟩
theorem E8{D d:Bool}(r:vr D s.heap y B)(t:vr d s.heap z C)
  (h:∀G,UM G (s.heap.objs.size+4) (s.heap.objs.size+2) (s.heap.objs.size+3) .none->Sb G (s.heap.objs.size+2) (.ref s.heap.objs.size) (.ref<|s.heap.objs.size+1)->Sb G (s.heap.objs.size+3) .none .none->iw D G s.heap.objs.size y 0->iw d G (s.heap.objs.size+1) z 0->G.objs.size=s.heap.objs.size+5->(∀c o,s.heap.get? c=on o->G.get? c=on o)->Q (.ref<|s.heap.objs.size+4) {s with heap:=G}):
  O6 (Po prog w) A (VL (.type "zip") [.ref y,.ref z]) Q E s:=by
 refine callType_new F.called_zip (by decide) (F.typeCall_zip_2 _ _) (F.newCall_zip_2 _ _) (λK=>F.args_object_init_3 K _ _) F.entry_zip_new (zC D d y z B C) ⟨r,t,?_⟩;have g:(Zm D s.heap y).objs.size=s.heap.objs.size+1:=QD ..;have i:(Zl D d s.heap y z).objs.size=s.heap.objs.size+2:=by rw[QD,g]
 have j:(Zk D d s.heap y z).objs.size=s.heap.objs.size+3:=by rw[QD,i]
 have k:(Zj D d s.heap y z).objs.size=s.heap.objs.size+4:=by rw[QD,j]
 have u:(YF D d s.heap y z).objs.size=s.heap.objs.size+5:=by rw[QD,k]
 have l:(YF D d s.heap y z).get? (Zj D d s.heap y z).objs.size=on _:=O5 _ rfl;have m:(YF D d s.heap y z).get? (Zk D d s.heap y z).objs.size=on _:=OH _<|O5 _ rfl;have n:(YF D d s.heap y z).get? (Zl D d s.heap y z).objs.size=on _:=OH _<|OH _<|O5 _ rfl;have q:(YF D d s.heap y z).get? (Zm D s.heap y).objs.size=on _:=OH _<|OH _<|OH _<|O5 _ rfl;have v:(YF D d s.heap y z).get? s.heap.objs.size=on _:=OH _<|OH _<|OH _<|OH _<|O5 _ rfl;show _/\_;rw[i,j,k]at l;rw[g,i]at n;rw[j]at m;rw[g]at q;rw[k];have f:∀(b:Bool) (G:PZ) (p a:ON),G.get? p=on (q9 b a)->iw b G p a 0:=λb G p a e=>by
  cases b with
  |true=>exact⟨_,e,rfl,rfl⟩
  |false=>exact⟨_,e,rfl,rfl⟩
 exact⟨⟨_,l,rfl⟩,h _ l n m (f _ _ _ _ v) (f _ _ _ _ q) u λc o x=>OH _<|OH _<|OH _<|OH _<|OH _ x⟩
def si(b:Bool)(K:Pa)(H:Hp)(a:ON)(s:a0i):Prop:=if b=OK then eg K H a s else g_ K H a s
noncomputable def ZM(A a:Bool)(K:Pa)(b c:ON):It:=
 ⟨λi H=>∃s w x y,si A K H b s/\si a K H c w/\s[i]?=on x/\w[i]?=on y,
  λi H v d=>∃p x y,H p=OD/\v= .ref p/\d=upd H p (.tup [x,y])/\∀s w,si A K H b s->si a K H c w->s[i]?=on x/\w[i]?=on y,
  λi H=>∃s w,si A K H b s/\si a K H c w/\(s.length=i\/(i<s.length/\w.length=i))⟩
variable{X:Cx}{A:a0d}{σ:St}{H:Hp}
theorem b_.src{b:Bool}(I:b_ X A σ H s)(h:si b X.K H a c):∃w:a0g,aB c w/\vr b s.heap a w.toArray:=by
 cases b with
 |true=>
  obtain⟨w,r,p,_⟩:=I.list (show eg X.K H a c from h);exact⟨w,r,p.isList⟩
 |false=>
  obtain⟨w,r,p,_⟩:=I.tuple (show g_ X.K H a c from h);exact⟨w,r,p⟩
theorem b_.src_inj{b:Bool}(I:b_ X A σ H s)(h:si b X.K H a c)(w:si b X.K H a d):c=d:=by
 cases b with
 |true=>exact I.list_inj (show eg X.K H a c from h) w
 |false=>exact I.tuple_inj (show g_ X.K H a c from h) w
theorem iw.get{b:Bool}{h:PZ}(x:iw b h f a k):∃o,h.get? f=on o/\o.cls= .type (Ia b)/\∃s,o.data= .fields s:=by
 cases b with
 |true=>obtain⟨o,e,c,d⟩:=(show h.IsListIter f a k from x);exact⟨o,e,c,_,d⟩
 |false=>obtain⟨o,e,c,d⟩:=(show h.IsTupleIter f a k from x);exact⟨o,e,c,_,d⟩
theorem iw.keep{b:Bool}{h s:PZ}(x:iw b h c a k)(q:∀o,h.get? c=on o->s.get? c=on o):iw b s c a k:=by
 cases b with
 |true=>exact(show h.IsListIter c a k from x).at λo e=>q o e
 |false=>exact(show h.IsTupleIter c a k from x).at λo e=>q o e
theorem b_.turnNew{E:PZ}{t':Nat}{ch:a0o}{p:ON}{o:HO}(I:b_ X A σ H s)(a:∀b∈ch,gj X A H b)(k:∀b u,b∉ch->s.heap.get? b=on u->E.get? b=on u)(d:s.heap.objs.size<=p)(G:cq X.prog X.w (upd H p o) E p o):b_ X A σ (upd H p o) {s with heap:=E,toks:=t'}:=by
 have D:H p=OD:=I.hok.fresh d;have K:∀b u,H b=on u->b∉ch:=λb u e z=>by rw[(a b z).1]at e;cases e
 refine I.call' (s':={s with heap:=E,toks:=t'}) (ch:=ch) rfl ⟨λb u e _ _ hc=>k b u hc e,λb u e _ _ hc=>⟨u.slots,k b u hc e⟩,λb u e z hc=>?_,λb u e hc=>⟨u,k b u hc e⟩,λb M e=>?_,λb u M e=>?_,λb M e=>⟨#[],?_⟩⟩ (λb u e=>?_) I.bare λb f=>?_
 .rw[bb<|PQ<|Pj (Ph e) d];exact z
 .rw[bb<|aI e D];exact e
 .rw[bb<|aI e D];exact e
 .rw[bb<|aI e D,e];simp
 .by_cases z:b=p
  .subst z;rw[ax]at e;cases e;exact G
  .rw[bb z]at e
   refine(I.hok b u e).stay (λc v hc q=>k c v ?_ q) (λc q=>by rw[bb<|aI q D];exact q) λc S q=>by rw[bb<|aI q D];exact q
   rcases hc with rfl|hc
   .exact K _ _ e
   .exact K _ _ hc
 .obtain⟨j,f1,f2,g,h,i⟩:=a b f
  exact⟨g,f1,h,i⟩
theorem b_.turnL{w:PZ}{ch:a0o}(I:b_ X A σ H s)(a:∀b∈ch,gj X A H b)(k:∀b u,b∉ch->s.heap.get? b=on u->w.get? b=on u):b_ X A σ H {s with heap:=w,toks:=t'}:=by
 have D:∀b u,H b=on u->b∉ch:=λb u e z=>by rw[(a b z).1]at e;cases e
 refine I.call' (s':={s with heap:=w,toks:=t'}) (ch:=ch) rfl ⟨λb u e _ _ hc=>k b u hc e,λb u e _ _ hc=>⟨u.slots,k b u hc e⟩,λb u e z hc=>z,λb u e hc=>⟨u,k b u hc e⟩,λb E e=>e,λb u E e=>e,λb E e=>⟨#[],by rw[e];simp⟩⟩ (λb u e=>?_) I.bare λb d=>?_
 .refine(I.hok b u e).stay (λc v hc q=>k c v ?_ q) (λc q=>q) λc G q=>q
  rcases hc with rfl|hc
  .exact D _ _ e
  .exact D _ _ hc
 .obtain⟨i,f1,f2,f,g,h⟩:=a b d
  exact⟨f,f1,g,h⟩
theorem b_.src_ne{b:Bool}(I:b_ X A σ H s)(h:si b X.K H a l)(f:gj X A H c):a≠c:=by
 obtain⟨i,f1,f2,f3,j,k⟩:=f;have d:∀o,X.K.lookup a=on o->a≠c:=λo e z=>by
  have g:=I.ok.mod.kin a o e;subst z;rcases f3 with f3|f3
  .exact I.ok.noex a o g f3
  .exact Pf (Pj (Ph (I.ok.bs a o g).1) f3) (P6 _)
 have w:∀u,Rd H a u->a≠c:=λu r z=>by
  subst z;rcases r with r|⟨_,r⟩<;>rw[i]at r<;>cases r
 cases b with
 |true=>
  rcases(show eg X.K H a l from h)with h|⟨o,_,_,e,_⟩
  .exact w _ h
  .exact d o e
 |false=>
  rcases(show g_ X.K H a l from h)with h|⟨o,_,_,e,_⟩
  .exact w _ h
  .exact d o e
theorem FK{w:PD}{K:Pa}{x1}(b1 b2:Bool)(C F z TI TO f g:ON)(nd:[z,TI,TO,f,g].Nodup):
  ml P w K (.Tuple elts x1 pos) (ZM b1 b2 K C F) [z,TI,TO,f,g] z (λi h=>UM h z TI TO .none/\Sb h TI (.ref f) (.ref g)/\(∃a b,Sb h TO a b)/\iw b1 h f C i/\iw b2 h g F i) where
 mem:=by simp
 obj:=λi h G b j=>by
  obtain⟨p,r,⟨a,b',J⟩,L,N⟩:=G;simp only[OQ,PV,RB]at j;rcases j with rfl|rfl|rfl|rfl|rfl
  .exact⟨_,p,λv q=>by cases q⟩
  .exact⟨_,r,λv q=>by cases q⟩
  .exact⟨_,J,λv q=>by cases q⟩
  .obtain⟨o,e,_,fs,d⟩:=L.get
   exact⟨o,e,λv q=>by rw[d]at q;cases q⟩
  .obtain⟨o,e,_,fs,d⟩:=N.get
   exact⟨o,e,λv q=>by rw[d]at q;cases q⟩
 keep:=λi h D G k=>by
  obtain⟨p,r,⟨a,b',J⟩,L,N⟩:=G;exact⟨k z (by simp) _ p,k TI (by simp) _ r,⟨a,b',k TO (by simp) _ J⟩,L.keep λo e=>k f (by simp) o e,N.keep λo e=>k g (by simp) o e⟩
 item:=by
  intro X hP hw hK n i A s σ H E I O G hg;subst hP hw hK;obtain⟨xs,ys,x,y,M,S,hx,hy⟩:=hg;obtain⟨p,r,⟨a,b',J⟩,L,N⟩:=G;obtain⟨l,r1,p1⟩:=b_.src I M;obtain⟨m,r2,p2⟩:=b_.src I S;have V:=I.ok.hd n;simp only[Pz,OQ,PV,RB,V0]at nd;obtain⟨⟨Y,z2,U,W⟩,⟨t1,t2,t3⟩,⟨Z,o2⟩,R,_⟩:=nd;have t:∀c∈[z,TI,TO,f,g],C≠c:=λc n=>b_.src_ne I M<|O c n;have B:∀c∈[z,TI,TO,f,g],F≠c:=λc n=>b_.src_ne I S<|O c n;have ap:Ap z TI TO f g [f,C] [g,F]:=⟨Ne.symm Y,Ne.symm z2,Ne.symm U,Ne.symm W,t1,t2,t3,Z,o2,R,by simp[U,(t z<|by simp).symm],by simp[Z,(t TO<|by simp).symm],by simp[Ne.symm R,(t g<|by simp).symm],by simp[W,(B z<|by simp).symm],by simp[o2,(B TO<|by simp).symm],by simp[R,(B f<|by simp).symm],by simp,by simp⟩;have k1:i<l.toArray.size:=by
   rw[O7,<-r1.length];exact(OM.mp hx).1
  have k2:i<m.toArray.size:=by
   rw[O7,<-r2.length];exact(OM.mp hy).1
  refine AT (λA' D=>uR b1 (D.trans V) f C (t f<|by simp) l.toArray) (λA' D=>uR b2 (D.trans V) g F (B g<|by simp) m.toArray) ap p r J ⟨L,p1⟩ ⟨N,p2⟩ k1 k2 λD tk u v pu pv fz fO f1 f2 fT sz kp=>?_;refine⟨_,rfl,wpAny_letOwnedTupleGo_zip (s:={s with heap:=D,toks:=tk}) fz λT aa Q=>?_⟩
  replace Q:PL z D T:=Q
  have zT:s.heap.objs.size≠z:=RT<|Ph p;obtain⟨u',hu,ru⟩:=r1.get hx;obtain⟨v',hv,rv⟩:=r2.get hy;have eu:u=u':=by
   have:l[i]?=on u:=by simpa using pu
   rw[this]at hu;exact Pn hu
  have ev:v=v':=by
   have:m[i]?=on v:=by simpa using pv
   rw[this]at hv;exact Pn hv
  subst eu ev;have kk:∀b o,b∉[z,TI,TO,f,g]->s.heap.get? b=on o->T.get? b=on o:=λb o j e=>by
   simp only[OQ,PV,RB,V0]at j;exact Q.extBut b o j.1<|kp b o j.1 j.2.2.1 j.2.2.2.1 j.2.2.2.2 e
  have I2:b_ X A σ (upd H s.heap.objs.size<|.tup [x,y]) {s with heap:=T,toks:=tk}:=by
   refine b_.turnNew I O kk (OX _) ⟨by show 2<=Pe;decide,[u,v],.cons ru<|.cons rv .nil,_,Q.extBut _ _ zT fT,rfl,_,rfl⟩
  refine⟨.ref s.heap.objs.size,_,I2,rfl,⟨s.heap.objs.size,x,y,I.hok.fresh<|OX _,rfl,rfl,λas bs h1 h2=>⟨by rw[b_.src_inj I h1 M];exact hx,by rw[b_.src_inj I h2 S];exact hy⟩⟩,⟨aa,?_,⟨u,v,?_⟩,?_,?_⟩,λb j=>?_⟩
  .exact Q.extBut _ _ (Ne.symm Y) (kp TI _ (Ne.symm Y) t1 t2 t3 r)
  .exact Q.extBut _ _ (Ne.symm z2) fO
  .exact f1.1.keep λo e=>Q.extBut _ _ (Ne.symm U) e
  .exact f2.1.keep λo e=>Q.extBut _ _ (Ne.symm W) e
  .rw[bb]
   .exact(O b j).1
   .intro q
    have ol:∃o,s.heap.get? b=on o:=by
     simp only[OQ,PV,RB]at j;rcases j with rfl|rfl|rfl|rfl|rfl
     .exact⟨_,p⟩
     .exact⟨_,r⟩
     .exact⟨_,J⟩
     .obtain⟨o,e,_⟩:=L.get;exact⟨o,e⟩
     .obtain⟨o,e,_⟩:=N.get;exact⟨o,e⟩
    obtain⟨o,e⟩:=ol;exact Pf (Ph e) (by rw[q];exact P6 _)
 done:=by
  intro X hP hw hK n i A s σ H E I O G hg;subst hP hw hK;obtain⟨xs,ys,M,S,hl⟩:=hg;obtain⟨p,r,⟨a,b',J⟩,L,N⟩:=G;obtain⟨l,r1,p1⟩:=b_.src I M;obtain⟨m,r2,p2⟩:=b_.src I S;have V:=I.ok.hd n;simp only[Pz,OQ,PV,RB,V0]at nd;obtain⟨⟨Y,z2,U,W⟩,⟨t1,t2,t3⟩,⟨Z,o2⟩,R,_⟩:=nd;have t:∀c∈[z,TI,TO,f,g],C≠c:=λc n=>b_.src_ne I M<|O c n;have B:∀c∈[z,TI,TO,f,g],F≠c:=λc n=>b_.src_ne I S<|O c n;have ap:Ap z TI TO f g [f,C] [g,F]:=⟨Ne.symm Y,Ne.symm z2,Ne.symm U,Ne.symm W,t1,t2,t3,Z,o2,R,by simp[U,(t z<|by simp).symm],by simp[Z,(t TO<|by simp).symm],by simp[Ne.symm R,(t g<|by simp).symm],by simp[W,(B z<|by simp).symm],by simp[o2,(B TO<|by simp).symm],by simp[R,(B f<|by simp).symm],by simp,by simp⟩;have g1:l.toArray.size=xs.length:=by rw[O7,<-r1.length]
  have g2:m.toArray.size=ys.length:=by rw[O7,<-r2.length]
  refine Fu (λA' D=>uR b1 (D.trans V) f C (t f<|by simp) l.toArray) (λA' D=>uR b2 (D.trans V) g F (B g<|by simp) m.toArray) ap p r J ⟨L,p1⟩ ⟨N,p2⟩ ?_ λD tk kp=>⟨rfl,b_.turnL I O λb o j e=>?_⟩
  .rw[g1,g2]
   rcases hl with hl|⟨h1,h2⟩
   .exact .inl hl.symm
   .exact .inr ⟨h1,h2.symm⟩
  .simp only[OQ,PV,RB,V0]at j
   exact kp b o j.1 j.2.2.1 j.2.2.2.1 j.2.2.2.2 e
 self:=λ_ _ _ _ _ G h=>wpAny_pyIter_zip G.1 h
end
section
variable{X:Cx}{E:a0s}{K:Pa}
def iZp(K:Pa)(e:TA):TI:=λf H R=>e f H λE a=>∃D d b c G M,E=[.ref b,.ref c]/\si D K a b G/\si d K a c M/\R (ZM D d K b c) a
theorem KZ{x1}(A:Gl X "zip")(M:X.mg "zip"=OD)(S:PA X [a,b] ta)(V:O1 [a,b] X.env=[(OO,Qh a X.env),(OO,Qh b X.env)]:=by rfl)(g:O1 [b] X.env=[(OO,Qh b X.env)]:=by rfl):
  PI X (.Tuple z x1 U) (.Call (.Name "zip" p) [a,b] [] x) (iZp X.K ta):=by
 intro f s n H R I h;refine Call_ (ij I A M Boot.«zip»<|QJ (dt (S x f s n H _ I h) λus d ⟨vs,o,i,W,D⟩=>?_) (by rw[V,g])<|by rw[g];rfl);obtain⟨E,t,u,v,xs,ys,e,D,Y,q⟩:=D;subst e;cases W with
 |cons r k=>
  cases k with
  |cons B k=>
   cases k;cases r;cases B;obtain⟨C,Q,F⟩:=b_.src i D;obtain⟨J,T,L⟩:=b_.src i Y;refine E8 F L λG w N O l m sz Z=>?_;refine wpAny_pyIter_zip (s:={d with heap:=G}) w ?_;have P:b_ X f n o {d with heap:=G}:=i.kept (t':=d.toks) Z;refine⟨_,[d.heap.objs.size+4,d.heap.objs.size+2,d.heap.objs.size+3,d.heap.objs.size,d.heap.objs.size+1],_,ZM E t X.K u v,o,rfl,P,FK E t u v (d.heap.objs.size+4) (d.heap.objs.size+2) (d.heap.objs.size+3) d.heap.objs.size (d.heap.objs.size+1) (by simp),⟨w,N,⟨_,_,O⟩,l,m⟩,λc y=>?_,q⟩;have j:d.heap.objs.size<=c:=by
    simp only[OQ,PV,RB]at y;rcases y with rfl|rfl|rfl|rfl|rfl
    .exact Rj _ _
    .exact Rj _ _
    .exact Rj _ _
    .exact OX _
    .exact Rj _ _
   exact i.fpOk j<|i.hok.fresh j
noncomputable def fE:a0e->a0e->a0e
 |x::xs,y::ys=> .tup [x,y]::fE xs ys
 |_,_=>[]
theorem uV:∀(D E:a0e),(fE D E).length=SL D.length E.length
 |[],E=>by simp[fE]
 |x::D,[]=>by simp[fE]
 |x::D,y::E=>by
  show(fE D E).length+1=_;rw[uV D E,O4,O4];lia
theorem uW:∀{E G:a0e} {i:Nat} {d:D},(fE E G)[i]?=on d->∃x y,E[i]?=on x/\G[i]?=on y/\d= .tup [x,y]
 |[],G,i,d,h=>by simp[fE]at h
 |x::E,[],i,d,h=>by simp[fE]at h
 |x::E,y::G,0,d,h=>by
  simp[fE]at h;exact⟨x,y,rfl,rfl,h.symm⟩
 |x::E,y::G,i+1,d,h=>by
  have K:(fE E G)[i]?=on d:=by simpa[fE]using h
  obtain⟨a,b,c,e,f⟩:=uW K;exact⟨a,b,by simpa using c,by simpa using e,f⟩
def Fw:a0e->a0B
 |[a,b]=>(gy a).bind λD=>(gy b).map λE=>fE D E
 |_=>OD
theorem b5.sqS(h:b5 K F H d v)(e:gy d=on j):∃b a,v= .ref a/\∀f c,Tr F H f c->∃D,si b K c a D/\ba K f c j D:=by
 cases d<;>first
  |(cases e;obtain⟨a,D,rfl,_⟩:=b5.sqL h;refine⟨OK,a,rfl,λf c t=>?_⟩;obtain⟨i,E,g,G,dl⟩:=b5.sqL<|b5.tr t _ _ h;cases g;exact⟨E,G,dl⟩)
  |(cases e;obtain⟨a,D,rfl,_⟩:=b5.sqT h;refine⟨OO,a,rfl,λf c t=>?_⟩;obtain⟨i,E,g,G,dl⟩:=b5.sqT<|b5.tr t _ _ h;cases g;exact⟨E,G,dl⟩)
  |cases e
theorem JI{G h:Bool}(o:∀b a,Tr F H b a->∃D,si G K a L D/\ba K b a N D)(q:∀b a,Tr F H b a->∃D,si h K a O D/\ba K b a P D):t_ K (ZM G h K L O) F H (fE N P):=λb a V t fr i=>by
 obtain⟨D,c,M⟩:=o b a t;obtain⟨E,e,S⟩:=q b a t;refine⟨λd X=>?_,λr=>?_⟩
 .obtain⟨x,y,f,g,rfl⟩:=uW X
  obtain⟨u,j,s⟩:=M.get f;obtain⟨v,k,w⟩:=S.get g;refine⟨⟨D,E,u,v,c,e,j,k⟩,λz C A=>?_⟩;obtain⟨p,I,J,l,rfl,rfl,B⟩:=A;obtain⟨m,n⟩:=B D E c e;rw[j]at m;rw[k]at n;cases m;cases n;exact⟨bY.upd l,b5.newT fr l<|ba.cons s<|ba.cons w ba.nil⟩
 .rw[uV]at r
  have f:=M.length;have g:=S.length;refine⟨D,E,c,e,?_⟩;rw[<-f,<-g];lia
def pX(g:FL):FL:=cJ Fw g
theorem mr{W}(o:Gl X "zip")(M:X.mg "zip"=OD)(S:PA X [a,b]<|hX X.K g E)(V:O1 [a,b] X.env=[(OO,Qh a X.env),(OO,Qh b X.env)]:=by rfl)(i:O1 [b] X.env=[(OO,Qh b X.env)]:=by rfl):
  PI X (.Tuple s W x) (.Call (.Name "zip" p) [a,b] [] Y) (iV X.K (pX g) E):=
 (KZ o M S V i).imp λJ H R j=>j2 j λF z N fr q h=>⟨F,z,N,fr,q,(run.bind (R:=ba X.K F) h).mono λZ f j=>by
  obtain⟨ds,O,t,P,Q⟩:=j;obtain⟨l,e,k⟩:=run.ofO Q;unfold Fw at e;split at e
  .rename_i c d
   obtain⟨v,L,rfl,r,u⟩:=ba.two P;cases D:gy c with
   |none=>rw[D]at e;cases e
   |some xs=>
    cases G:gy d with
    |none=>rw[D,G]at e;cases e
    |some ys=>
     rw[D,G]at e;cases e;obtain⟨T,w,rfl,m⟩:=b5.sqS r D;obtain⟨y,A,rfl,n⟩:=b5.sqS u G;obtain⟨U,B,_⟩:=m F f<|Tr.refl F f;obtain⟨C,I,_⟩:=n F f<|Tr.refl F f;exact⟨T,y,w,A,U,C,rfl,B,I,k _ f (To.refl t.fr)<|JI m n⟩
  .cases e⟩
variable{a:List Expr}
end
section
variable{P:Py}{w:PD}{K:Pa}{e:a0j}{d:PZ}{N:a0h}{c:PP}{a:Scope}{f:ON}{g:OP}{A:Qc}{b:a0C}{s:OT}{H:Hp}{E:XK}
end
section
variable{X:Cx}{E:a0s}{K:Pa}
variable{y A v:Expr}{w:List Expr}{rest:a0P}{u:Scope}{z:TF}{B cp:a0h}{b0:a0a}{g:TG}{I:a0Y}
theorem aN:eQ X [] (hO X.K (λ_=>M.ret OK) E0):=λa s b H Q I c=>by obtain⟨F,g,u,fr,d,r⟩:=c;exact vS a s b H Q I<|run.ret fr r rfl
theorem rA(a:PT X c<|hO X.K t E0):eQ X [c] (hO X.K t E0):=F9 a
theorem bf(c:X.calm=OK)(S:cy X u B cp b0)(d:PI X A v<|iV X.K l E)
  (e:∀(G:a0m) (C:ON) (a:a0o) (s:OT) (H:Hp),PG (aP X B u G C a s H) A g/\eQ (aP X B u G C a s H) w (hO X.K m E0)/\∀D,PB (aP X B u G C a s H) y (⟨A,v,w,0⟩::rest) u z 0 D<|I D)
  (f:cW X.K g k) (M:eP k) (i:∀D,kW X.K D (I D) b) (V:∀x,P3 v X.env x=Rm x:=by intro _;rfl):PE X (.ListComp y (⟨A,v,w,0⟩::rest) u z) (tV X.K (cB cp.length b0 l k m b) E):=
 (oz c S d e V).imp λj H Q h=>vf f M i h
theorem vC{a c:TF}(j:X.N.Nodup)(d:X.N[i]?=on x)(k:x5 X.env.scope x)(l:X.calm=OK)(S:cy X u B cp b0)(m:PI X A v<|iV X.K F E)
  (n:∀(G:a0m) (C:ON) (f:a0o) (s:OT) (H:Hp),PG (aP X B u G C f s H) A g/\eQ (aP X B u G C f s H) w (hO X.K J E0)/\∀D,PB (aP X B u G C f s H) y (⟨A,v,w,0⟩::rest) u z 0 D<|I D)
  (o:cW X.K g t) (M:eP t) (p:∀D,kW X.K D (I D) b)
  (e:TY (.ListComp y (⟨A,v,w,0⟩::rest) u z) (on<|.Name x a) c.line X.env=Rm OK:=by rfl)
  (V:∀x,P3 v X.env x=Rm x:=by intro _;rfl) (q:b0d X x:=by first|exact .inl rfl|exact .inr rfl|assumption):
  PS X (.Assign [.Name x a] (.ListComp y (⟨A,v,w,0⟩::rest) u z) c) (tG X.K X.H₀ (eY i<|cB cp.length b0 F t J b) E):=
 aF ((xU j d k l S m n e V q).imp λD r H h=>vf o M p h)
noncomputable def zu:D->a0k
 | .int i=>on<|.int<|-i
 |_=>OD
theorem zM:Ip K (rU λi=> .int<|-i) zu:=λF H u Q g d b fr a e k=>by
 cases g<;>first|(cases e;exact⟨_,a,k _ H (To.refl fr) rfl⟩)|cases e
noncomputable def Fm:D->a0t
 | .int i=>on i
 |_=>OD
noncomputable def qd(g:a0e)(u a:a0t):a0e:=(g.drop<|HT.sIx g.length 0 u).take<|HT.sIx g.length g.length a-HT.sIx g.length 0 u
def slD:D->a0t->a0t->a0k
 | .lst xs,lo,hi=>on<|.lst<|qd xs lo hi
 | .scr ns,lo,hi=>on<|.lst<|qd (ns.map D.int) lo hi
 |_,_,_=>OD
def uQ(f:Option<|FD):Dn->M a0t:=λu=>match f with
 |none=>M.ret OD
 |some g=>M.bind (g u) λd=>M.bind (M.ofO<|Fm d) λi=>M.ret<|on i
def fSl(f:FD)(u a:Option<|FD):FD:=λg=>M.bind (f g) λd=>M.bind (uQ u g) λl=>M.bind (uQ a g) λh=>M.ofO<|slD d l h
def AQ(X:Cx)(e:Option Expr)(f:Option<|FD)(E:a0s):Prop:=PO X e (λc H Q=>∃F g u,Fr F H u/\io X.K F H g c/\run (λ_ (a b:a0t)=>b=a) F E c (uQ f g) H Q u)
theorem vW:AQ X OD OD E:=λa s b H Q I c=>by obtain⟨F,g,u,fr,d,r⟩:=c;exact xX a s b H Q I<|run.ret fr r rfl
theorem vV(h:PE X e<|tV X.K f E):AQ X (on e) (on f) E:=λa s c H Q I b=>j2 b λF g u fr j r=>xW h a s c H Q I ⟨F,g,u,fr,j,(run.bind (R:=b5 X.K F) r).mono λv l b=>by
  obtain⟨d,w,t,y,z⟩:=b;obtain⟨i,e,k⟩:=run.ofO_bind z;cases d<;>first|(cases e;exact⟨_,y,run.ret t.fr k rfl⟩)|cases e⟩
theorem ba.cut(h:ba K F H b c)(g a:a0t):ba K F H (qd b g a) (nK c g a):=by
 unfold qd nK;rw[h.length];exact(h.drop _).take _
theorem rQ{S y:Option Expr}{fl A:Option (FD)}(B:PE X e<|tV X.K f E)(C:AQ X S fl E)(I:AQ X y A E):PE X (.Subscript e (.Slice S y OD p2) z) (tV X.K (fSl f fl A) E):=
 (vT xH B C I).imp λN H Q o=>j2 o λF g V fr q r=>⟨F,g,V,fr,q,(run.bind (R:=b5 X.K F) r).mono λv O ⟨d,D,t,s,x⟩=>
  ⟨F,g,D,t.fr,q.tr<|t.tr fr,(run.bind (R:=λ_ (a b:a0t)=>b=a) x).mono λl P ⟨T,G,n,u,J⟩=>
   ⟨F,g,G,n.fr,q.tr<|(t.tr fr).trans<|n.tr t.fr,(run.bind (R:=λ_ (a b:a0t)=>b=a) J).mono λh U o=>by
    obtain⟨Z,W,i,w,L⟩:=o;subst u w;obtain⟨c,e,k⟩:=run.ofO L;have j:=b5.tr ((n.tr t.fr).trans<|i.tr n.fr) _ _ s;cases d<;>first
     |(cases e;obtain⟨a,Y,rfl,M,dl⟩:=b5.sqL j;exact⟨a,Y,rfl,M,λp m=>k _ _ (i.fr.upd _ m)<|b5.newL i.fr m<|dl.cut l h⟩)
     |(cases e;obtain⟨a,rfl,M⟩:=b5.scr j;exact⟨a,_,rfl,M,λp m=>k _ _ (i.fr.upd _ m)<|b5.newL i.fr m<|(ba.ofInts _).cut l h⟩)
     |cases e⟩⟩⟩
def Bg.ok(β:Bg):Prop:=β.cells≠[]/\β.cells.length<=64/\(∀c∈β.cells,0<=c)/\0<=β.j
end
noncomputable def Bg.pos(D:Bg):Nat:=(D.i % (D.cells.length:Int)).toNat
def Bg.cell(D:Bg):Int:=D.cells.getD D.pos 0
noncomputable def Bg.nxt(D:Bg):Int:=(D.j+D.cell % 2147483629+77)*48271 % 2147483629
noncomputable def kQ(E:Bg)(D:Int):Int:=if 10^18<=E.cell then E.cell % D else E.nxt/64 % D
noncomputable def l5(D:Bg)(E:Int):Bg:=if 10^18<=D.cell then⟨D.cells.set D.pos<|D.cell/E,D.i,D.j⟩else⟨D.cells,D.i+1,D.nxt⟩
open Classical in
def cU:a0e->M D:=λG E=>match G with
 |[.bag,.int lot]=>if E.ok/\0<lot/\lot<1073741824 then on (Qj<|D.int<|kQ E lot,l5 E lot)else OD
 |_=>OD
theorem Gx{D:Bg}(h:D.ok)(a:0<c)(b:c<1073741824):cU [.bag,.int c] D=on (.ok<|.int<|kQ D c,l5 D c):=by
 unfold cU;exact OS ⟨h,a,b⟩
theorem DU{E:Bg}(h:cU b E=on (r,a)):∃D,b=[.bag,.int D]/\E.ok/\0<D/\D<1073741824/\r= .ok (.int<|kQ E D)/\a=l5 E D:=by
 unfold cU at h;split at h
 .split at h
  .rename_i D q
   cases h;exact⟨D,rfl,q.1,q.2.1,q.2.2,rfl,rfl⟩
  .cases h
 .cases h
theorem Bg.ok.at{β:Bg}(h:β.ok):β.pos<β.cells.length/\β.cells[β.pos]?=on β.cell/\0<=β.cell/\β.i % (β.cells.length:Int)=(β.pos:Int):=by
 obtain⟨D,G,E,b⟩:=id h;have c:0<β.cells.length:=List.length_pos_iff.mpr D;have K:0<=β.i % (β.cells.length:Int):=TR _ (by lia);have M:β.i % (β.cells.length:Int)<β.cells.length:=Ug _ (by lia);have a:β.pos<β.cells.length:=by unfold Bg.pos;lia
 have e:β.cell=β.cells[β.pos]:=by
  unfold Bg.cell;rw[OJ,OE a];rfl
 refine⟨a,by rw[e];exact OE a,by rw[e];exact E _<|PF a,?_⟩;unfold Bg.pos;lia
theorem xS{D:Bg}(h:D.ok)(b:0<g):0<=kQ D g/\kQ D g<g/\(l5 D g).ok:=by
 obtain⟨f,_,d,_⟩:=h.at;obtain⟨E,G,K,e⟩:=id h;unfold kQ l5;split
 .refine⟨TR _ (by lia),Ug _ b,?_,by rw[QC];exact G,λc a=>?_,e⟩
  .intro z
   have:=Qr U4 z;rw[QC]at this;exact E<|UI.mp this
  .rcases Ra a with a|rfl
   .exact K c a
   .exact Int.ediv_nonneg d (by lia)
 .exact⟨TR _ (by lia),Ug _ b,E,G,K,TR _<|by decide⟩
section
variable{X:Cx}{E:a0s}{K:Pa}{a b:Expr}{es:List Expr}{s:TF}
theorem To.none(t:To F H H1 β1)(h:H1 p=OD):H p=OD:=by
 cases q:H p with
 |none=>rfl
 |some o=>
  have:H1 p=on o:=t.kp p o q λb l e=>by
   obtain⟨c,d⟩:=t.fr.bag b l e;exact⟨λw=>(by subst w;rw[c]at h;cases h),λw=>(by subst w;rw[d]at h;cases h)⟩
  rw[this]at h;cases h
noncomputable def Fx.but(F:Fx)(a:ON):Fx:=⟨λc=>F.A c\/c=a,F.bg⟩
theorem Fx.tr_but{F:Fx}(fr:Fr F H g)(d:H p=OD)(a:∀c o,H c=on o->H1 c=on o):Tr F H (F.but p) H1:=⟨λc e f z=>by
 rcases z with z|z
 .exact e z
 .subst z;exact f d,λc o _ h=>a c o h,rfl⟩
theorem Fx.tr_of{F:Fx}:Tr (F.but p) H F H:=⟨λc h _ z=>h<|QY z,λ_ _ _ h=>h,rfl⟩
def jh(K:Pa)(F:Fx)(s H:Hp)(D:a0e)(v:V):Prop:=∃a b,v= .ref a/\s a=OD/\H a=on (.lst b)/\ba K (F.but a) H D b
def Y7(K:Pa)(f:FL)(E:a0s):TE:=λc H Q=>∃F a b,Fr F H b/\io K F H a c/\run (jh K F H) F E c (f a) H Q b
def Y8(K:Pa)(f:Dn->M a0r)(E:a0s):TE:=λc H Q=>∃F a b,Fr F H b/\io K F H a c/\run (ji K F H) F E c (f a) H Q b
noncomputable def Zq(ds:a0e):a0B:=if ds.length<=Pe then on ds else OD
def HQ(a:a0e->a0B)(g:FL):FL:=λb=>M.bind (g b) λs=>M.ofO<|a s
theorem jh.new(t:To F H H1 f)(d:H1 p=OD)(a:ba K F H1 g e):jh K F H (upd H1 p<|.lst e) g (.ref p):=
 ⟨p,e,rfl,t.none d,ax,ba.tr (Fx.tr_but t.fr d λc o h=>by rw[bb<|aI h d];exact h) _ _ a⟩
def Io(K:Pa)(r:a0I)(G:a0e->a0B):Prop:=∀(F:Fx) (a H:Hp) (b:Bg) (Q:VK) (s D:a0e) (E:a0i),To F a H b->ba K F H s E->G s=on D->
 (∀v c,To F H c b->jh K F a c D v->Q v c)->r E H Q
theorem Gi(i:cK X (.type T) r)(l:Io X.K r op)(j:Gl X x)(b:X.mg x=OD)(m:Su x=on (.type T))(D:PA X (e::es)<|hX X.K g E)(G:x≠"__name__":=by decide)(c:b0c x:=by decide)
  (n:b0a X e es:=by rfl) (d:b0b X s es:=by rfl):PE X (.Call (.Name x p) (e::es) [] s) (Y7 X.K (HQ op g) E):=
 (ng i j b m D G c n d).imp λv H Q f=>j2 f λF M S fr o h=>⟨F,M,S,fr,o,(run.bind (R:=ba X.K F) h).mono λV q f=>by
  obtain⟨w,a,t,y,z⟩:=f;obtain⟨A,u,k⟩:=run.ofO z;exact l F H q a Q w A V t y u k⟩
def zK:a0e->a0B
 |[.lst xs]=>on xs
 |[.tup xs]=>on xs
 |_=>OD
theorem JB:Io K (λb H Q=>∃p s,b=[.ref p]/\(eg K H p s\/g_ K H p s)/\∀l,H l=OD->Q (.ref l) (upd H l<|.lst s)) zK:=λF D H E Q G M S t h e k=>by
 unfold zK at e;split at e
 .cases e
  obtain⟨v,rfl,g⟩:=ba.one h;obtain⟨a,b,rfl,r,dl⟩:=b5.sqL g;exact⟨a,b,rfl,.inl r,λl c=>k _ _ (t.fr.upd _ c)<|jh.new t c dl⟩
 .cases e
  obtain⟨v,rfl,g⟩:=ba.one h;obtain⟨a,b,rfl,r,dl⟩:=b5.sqT g;exact⟨a,b,rfl,.inr r,λl c=>k _ _ (t.fr.upd _ c)<|jh.new t c dl⟩
 .cases e
theorem ba.rep(h:ba K F H c d):∀n:Nat,ba K F H (Pg n c).flatten (Pg n d).flatten
 |0=>rfl
 |n+1=>by
  rw[QN,RN,QN,RN];exact ba.append h<|ba.rep h n
noncomputable def vN(a:a0e)(d:D):a0B:=match d with
 | .int k=>if(decide (-(2^63)<=k)&&decide (k<2^63)&&decide (a.length<=Pe)&&decide (a.length*k.toNat<=Pe))=OK then on (Pg k.toNat a).flatten else OD
 |_=>OD
def zq(g:FL)(f:FD):FL:=λb=>M.bind (g b) λa=>M.bind (M.ofO<|Zq a) λa=>M.bind (f b) λd=>M.ofO<|vN a d
theorem Nx(ha:PA X es<|hX X.K g E)(O:PE X b<|tV X.K f E):PE X (.BinOp (.List es pos') .Mult b s) (Y7 X.K (zq g f) E):=
 (eU La (fi ha) O).imp λP H Q j=>j2 j λF G β fr B r=>⟨F,G,β,fr,B,(run.bind (R:=ba X.K F) r).mono λD T j=>by
  obtain⟨ds,a,t,S,r1⟩:=j;obtain⟨U,n,W⟩:=run.ofO_bind r1;unfold Zq at n;split at n
  .rename_i Y
   cases n;refine⟨by rw[<-S.length];exact Y,λp I=>?_⟩;have m:=t.fr.upd (.lst D) I;have J:=t.fr.fresh I;refine⟨F,G,a,m.fr,(B.tr<|t.tr fr).tr<|m.tr t.fr,?_⟩;obtain⟨L,V,e,h⟩:=W;have u:run (jh X.K F H) F E P (M.bind (f G) λd=>M.ofO<|vN ds d) (upd T p<|.lst D) Q a:=by
    refine⟨L,V,e,?_⟩;cases L with
    |ok d=>exact λv y c=>h v y<|m.trans c
    |error C=>exact λy c=>h y<|m.trans c
   refine(run.bind (R:=b5 X.K F) u).mono λw Z j=>l0 j λd aa c hw r3=>?_;obtain⟨os,i,k⟩:=run.ofO r3;unfold vN at i;split at i
   .split at i
    .rename_i kk o
     cases i;simp only[Pr,PR]at o;cases hw;have A:Z p=on (.lst D):=c.kp p _ ax λb l q=>⟨λz=>J<|z▸(fr.bgA b l q).1,λz=>J<|z▸(fr.bgA b l q).2.1⟩;have x:=m.trans c;exact⟨p,_,D,rfl,rfl,A,o.1.1.1,o.1.1.2,by rw[<-S.length];exact o.2,λq N=>k _ _ (c.fr.upd _ N)<|jh.new (t.trans x) N<|(ba.tr (x.tr t.fr) _ _ S).rep _⟩
    .cases i
   .cases i
  .cases n⟩
def i9(nv:Nat)(b0:a0a)(it:Dn->M (List Pu.D))(tg:lv)(s:a0p)(b:Dn->M (List Pu.D)):Dn->M (List Pu.D):=λa E=>match it a E with
 |none=>OD
 |some (.error C,β1)=>on (.error C,β1)
 |some (.ok ds,β1)=>match l9 tg s b ds (ko nv b0 a) β1 with
  |some (.ok os,β2)=>if os.length<=Pe then on (.ok os,β2)else OD
  |_=>OD
theorem BQ{G:a0h}{S:a0a}{V:Dn->M (List Pu.D)}{g:TG}{s:lv}{X:a0p}{I:a0Y}{b:Dn->M (List Pu.D)}(T:cW K g s)(sg:eP s)(U:∀D,kW K D (I D) b){L:St}{H:Hp}{Q:VK}(h:Y7 K (i9 G.length S V s X b) E L H Q):
  qs G S (iV K V E) (λD J=>dF J g (hO K X E0)<|I D) L H Q:=by
 obtain⟨F,δ,β,fr,N,r,k,e,h⟩:=h;unfold i9 at e;refine⟨F,δ,β,fr,N,?_⟩;split at e
 .cases e
 .rename_i C β1 q
  cases e;exact⟨.error C,_,q,h⟩
 .rename_i ds β1 q
  split at e
  .rename_i os β2 q2
   split at e
   .rename_i W
    cases e;refine⟨.ok ds,β1,q,λJ j t Y D c=>?_⟩;have d:¬F.A D:=t.fr.fresh c;have Z:∀b l,F.bg=on (b,l)->D≠b/\D≠l:=λb l z=>⟨λw=>d<|w▸(fr.bgA b l z).1,λw=>d<|w▸(fr.bgA b l z).2.1⟩;have O:=t.fr.upd (.lst []) c;have m:Fr ⟨λa=>F.A a\/a=D,F.bg⟩ (upd j D<|.lst []) β1:=by
     refine⟨λa ha z=>?_,λb l z=>let ⟨x,y,w⟩:=fr.bgA b l z;⟨.inl x,.inl y,w⟩,O.fr.bag⟩
     rcases ha with ha|ha
     .exact O.fr.occ a ha z
     .subst ha;rw[ax]at z;cases z
    have f:Tr F j ⟨λa=>F.A a\/a=D,F.bg⟩ (upd j D<|.lst []):=⟨λa ha hs z=>by
     rcases z with z|z
     .exact ha z
     .subst z;exact hs c,λa o ha z=>by rw[bb<|aI z c];exact z,rfl⟩
    refine oI (R:=RL K) (D:=D) (as:=[]) (os:=os) T sg (U D) m (.inr rfl) Z (rF<|N.tr<|(t.tr fr).trans f) ⟨[],ax,rfl⟩ (Y.tr f) q2 (show os.length<=Pe from W) λaa P p ab u=>?_;obtain⟨i,v,B⟩:=u;have tf:To F j P k:=by
     refine⟨λa o z n=>p.kp a o (by rw[bb<|aI z c];exact z) (aI z c) n,λa ha z=>p.fr.occ a (QY ha) z,fr.bgA,p.fr.bag⟩
    exact h _ P (t.trans tf) ⟨D,i,rfl,t.none c,v,B⟩
   .cases e
  .cases e
def qg(s:lv)(E:a0p)(b:Dn->M (List<|List Pu.D)):List Pu.D->Dn->M (List<|List Pu.D)
 |[],_=>M.ret []
 |d::ds,δ=>match s d δ with
  |none=>M.fail
  |some a=>M.bind (E a) λc=>M.bind (if c=OK then b a else M.ret []) λo=>M.bind (qg s E b ds δ) λG=>M.ret<|o++G
def D_(K:Pa)(F:Fx)(D:ON)(s H:Hp)(E:List<|List Pu.D)(a:a0i):Prop:=(∀c,s c≠OD->H c≠OD)/\∃b,a=b.map V.ref/\(D::b).Nodup/\bD K F H (λr=>s r=OD) E b
theorem D_.mono{F:Fx}{D:ON}(g:F.A D)(i:∀b l,F.bg=on (b,l)->H0 b≠OD/\H0 l≠OD)(fr:Fr F H β)(t:lA F D H H1 u)(h:D_ K F D H0 H as n):D_ K F D H0 H1 as n:=by
 obtain⟨cv,E,e,a,j⟩:=h;refine⟨λc k z=>?_,E,e,a,bD.tr (t.tr fr g) j λr G m p q=>⟨p,t.kp r _ q (λz=>?_) λb l w=>⟨λz=>?_,λz=>?_⟩⟩⟩
 .cases q:H c with
  |none=>exact cv c k q
  |some o=>
   by_cases s:c=D
   .subst s;exact t.fr.occ _ g z
   .by_cases d:∃b l,F.bg=on (b,l)/\(c=b\/c=l)
    .obtain⟨b,l,w,f⟩:=d
     rcases f with rfl|rfl
     .exact t.fr.occ _ (fr.bgA _ _ w).1 z
     .exact t.fr.occ _ (fr.bgA _ _ w).2.1 z
    .rw[t.kp c o q s λb l w=>⟨λy=>d ⟨b,l,w,.inl y⟩,λy=>d ⟨b,l,w,.inr y⟩⟩]at z
     cases z
 .subst z;exact(Pz.mp a).1 m
 .subst z;exact(i _ _ w).1 p
 .subst z;exact(i _ _ w).2 p
def rK(K:Pa)(D:ON)(i:TB)(f:Dn->M (List<|List Pu.D)):Prop:=∀(F:Fx) (s H:Hp) (E:Dn) (V d:Bg) (h:St) (a:a0i) (G S:List<|List Pu.D) (Q:a0H),Fr F H V->F.A D->(∀b l,F.bg=on (b,l)->D≠b/\D≠l)->(∀b l,F.bg=on (b,l)->s b≠OD/\s l≠OD)->io K F H E h->H D=on (.lst a)->D_ K F D s H G a->
 f E V=on (.ok S,d)->G.length+S.length<=Pe->(∀e g c,lA F D H g d->io K F g E e->g D=on (.lst c)->D_ K F D s g (G++S) c->Q e g)->i h H Q
def sP(f:Dn->M (List Pu.D)):Dn->M (List<|List Pu.D):=λa=>M.bind (f a) λd=>M.ret [d]
theorem bD.snoc(p:P r)(c:H r=on (.lst e))(d:ba K F H f e):∀{a:List (List Pu.D)} {b:a0o},bD K F H P a b->bD K F H P (a++[f]) (b++[r])
 |[],[],_=>⟨p,⟨e,c,d⟩,trivial⟩
 |_::_,_::_,h=>⟨h.1,h.2.1,bD.snoc p c d h.2.2⟩
 |[],_::_,h=>h.elim
 |_::_,[],h=>h.elim
theorem su{D:ON}:rK K D (AO D<|Y7 K f E0) (sP f):=λF G H δ β i W s as os Q fr j m O P R S e Y k=>by
 obtain⟨d,aa,Z,e2⟩:=M.bind_inv e;cases e2;refine⟨F,δ,β,fr,P,E0.run Z λv T t hv=>?_⟩;have p:=t.kp D _ R m;have u:=S.mono j O fr<|t.toD D;obtain⟨r,xs,rfl,E,n1,n2⟩:=hv;obtain⟨cv,X,w,nd,U⟩:=u;obtain⟨A,c,B,C,I⟩:=S;have g:s.length=as.length:=by rw[w,OC,U.len]
 have J:c=X:=by
  have:c.map V.ref=X.map V.ref:=B.symm.trans w;exact Ub (λa b q=>by cases q;rfl)|>.mp this
 subst J;have nD:r≠D:=λz=>by subst z;rw[R]at E;cases E
 have nr:r∉c:=λz=>by
  obtain⟨_,ys,q⟩:=I.all r z;rw[q]at E;cases E
 have L:G r=OD:=by
  cases q:G r with
  |none=>rfl
  |some o=>exact Pf E (A r<|by rw[q];simp)
 refine⟨s,p,by rw[g];simp at Y;lia,?_⟩;have N:lA F D T (upd T D<|.lst<|s++[.ref r]) i:=by
  refine⟨λa o h n _=>by rw[bb n];exact h,λa h q=>?_,fr.bgA,λb l q=>?_⟩
  .by_cases z:a=D
   .subst z;rw[ax]at q;cases q
   .rw[bb z]at q;exact t.fr.occ a h q
  .rw[bb (m b l q).1.symm,bb (m b l q).2.symm]
   exact t.fr.bag b l q
 have tt:=N.tr t.fr j;refine k W _ _ ((t.toD D).trans N) (P.tr<|(t.tr fr).trans tt) ax<|D_.mono j O t.fr N ⟨cv,c++[r],by rw[w,Pw];rfl,?_,bD.snoc L n1 (ba.tr Fx.tr_of _ _ n2) U⟩;rw[<-SE,Uq];refine⟨C,by simp,λx hx y hy=>?_⟩;obtain rfl:y=r:=by simpa using hy
 rcases OQ.mp hx with rfl|hx
 .exact nD.symm
 .exact λz=>nr<|z▸hx
end
section
variable{X:Cx}{E:a0s}{K:Pa}
theorem Jz{D:ON}(hg:cW K g tg)(sg:eP tg)(hb:rK K D tb b){F:Fx}{as os:List (List Pu.D)}(fr:Fr F H β)(W:F.A D)(hn:∀b l,F.bg=on (b,l)->D≠b/\D≠l)(h0:∀b l,F.bg=on (b,l)->H0 b≠OD/\H0 l≠OD)(vk:io K F H z σ)(hD:H D=on (.lst acc))(hd:D_ K F D H0 H as acc)
  (it:t_ K J F H s) (e:qg tg tt b s z β=on (.ok os,β')) (hz:as.length+os.length<=Pe) (k:∀f n a,lA F D H n β'->io K F n z f->n D=on (.lst a)->D_ K F D H0 n (as++os) a->Q f n):dF J g (hO K tt E0) tb σ H Q:=by
 refine⟨λi m f n=>m+i=s.length/\∃E a j t,lA F D H n E/\io K F n z f/\n D=on (.lst a)/\D_ K F D H0 n j a/\qg tg tt b (s.drop i) z E=on (.ok t,β')/\j++t=as++os,
  ⟨s.length,by lia,β,acc,as,os,⟨λ_ _ h _ _=>h,fr⟩,vk,hD,hd,e,rfl⟩,?_⟩
 rintro i m f n ⟨hm,E,a,j,t,u,y,B,C,r,ea⟩;have aa:=u.tr fr W;obtain⟨iy,is⟩:=it F n E aa u.fr i;cases Y:s[i]? with
 |none=>
  have Z:s.length<=i:=Ul.mp Y;rw[QT Z]at r;cases r;refine .inl ⟨is (by lia),k f n a u y B ?_⟩;rw[<-ea,P9];exact C
 |some d=>
  have Z:i<s.length:=(OM.mp Y).1;obtain⟨go,yl⟩:=iy d Y;have ed:s.drop i=d::s.drop (i+1):=by
   rw[PU Z];congr 1;exact Pn<|(OE Z).symm.trans Y
  rw[ed]at r;unfold qg at r;cases q:tg d z with
  |none=>rw[q]at r;cases r
  |some G=>
   rw[q]at r;obtain⟨c,V,e2,e3⟩:=M.bind_inv r;obtain⟨o,S,X,e5⟩:=M.bind_inv e3;obtain⟨I,ai,e6,e7⟩:=M.bind_inv e5;cases e7;obtain⟨s1,s2⟩:=sg _ _ _ q;refine .inr ⟨go,λL N=>∃p,lA F D H N S/\io K F N z L/\N D=on (.lst p)/\D_ K F D H0 N (j++o) p,?_,λx H2 hy=>?_⟩
   .rintro L N ⟨p,t9,vk9,hD9,hd9⟩
    exact⟨m-1,by lia,by lia,S,p,j++o,I,t9,vk9,hD9,hd9,e6,by rw[Ql];exact ea⟩
   .obtain⟨sm,dx⟩:=yl x H2 hy
    have w:To F n H2 E:=u.fr.same sm;have ab:=w.tr u.fr;refine hg F H2 z G f d x _ (y.tr ab) dx q λac v=>⟨F,G,E,w.fr,v,E0.run e2 λc' H3 O ec=>?_⟩;subst ec;have ad:=sm _ _ B;have P:=O.kp D _ ad hn;have R:=O.tr w.fr;have d3:=(C.mono W h0 u.fr<|w.toD D).mono W h0 w.fr<|O.toD D;have T:lA F D H H3 V:=u.trans<|(w.trans O).toD D;have ae:j.length+(o++I).length<=Pe:=by
     have:=Qr U4 ea;simp only[O8]at this⊢;lia
    cases c' with
    |true=>
     rw[OS rfl]at X⊢;refine hb F H0 H3 G V S ac a j o _ O.fr W hn h0 (v.tr R) P d3 X (by rw[O8]at ae;lia) λaj H4 U t4 af ag ah=>?_;exact⟨U,T.trans t4,af.sub s1 s2,ag,ah⟩
    |false=>
     rw[OR OY]at X⊢;cases X;exact⟨a,T,(v.tr R).sub s1 s2,P,by rw[P9];exact d3⟩
def jc(G:Nat)(K:a0a)(S:Dn->M (List Pu.D))(V:lv)(X:a0p)(b:Dn->M (List<|List Pu.D)):Dn->M (List<|List Pu.D):=λE a=>match S E a with
 |none=>OD
 |some (.error C,β1)=>on (.error C,β1)
 |some (.ok ds,β1)=>match qg V X b ds (ko G K E) β1 with
  |some (.ok os,β2)=>if os.length<=Pe then on (.ok os,β2)else OD
  |_=>OD
theorem s9{S:a0h}{V:a0a}{X:Dn->M (List Pu.D)}{g:TG}{G:lv}{s:a0p}{I:a0Y}{b:Dn->M (List<|List Pu.D)}(T:cW K g G)(sg:eP G)(U:∀D,rK K D (I D) b){L:St}{H:Hp}{Q:VK}(h:Y8 K (jc S.length V X G s b) E L H Q):
  qs S V (iV K X E) (λD J=>dF J g (hO K s E0)<|I D) L H Q:=by
 obtain⟨F,δ,β,fr,N,r,k,e,h⟩:=h;unfold jc at e;refine⟨F,δ,β,fr,N,?_⟩;split at e
 .cases e
 .rename_i C β1 q
  cases e;exact⟨.error C,_,q,h⟩
 .rename_i ds β1 q
  split at e
  .rename_i os β2 q2
   split at e
   .rename_i W
    cases e;refine⟨.ok ds,β1,q,λJ f t Y D d=>?_⟩;have i:¬F.A D:=t.fr.fresh d;have Z:∀b l,F.bg=on (b,l)->D≠b/\D≠l:=λb l z=>⟨λw=>i<|w▸(fr.bgA b l z).1,λw=>i<|w▸(fr.bgA b l z).2.1⟩;have O:=t.fr.upd (.lst []) d;have m:Fr ⟨λa=>F.A a\/a=D,F.bg⟩ (upd f D<|.lst []) β1:=by
     refine⟨λa ha z=>?_,λb l z=>let ⟨x,y,w⟩:=fr.bgA b l z;⟨.inl x,.inl y,w⟩,O.fr.bag⟩
     rcases ha with ha|ha
     .exact O.fr.occ a ha z
     .subst ha;rw[ax]at z;cases z
    have j:Tr F f ⟨λa=>F.A a\/a=D,F.bg⟩ (upd f D<|.lst []):=⟨λa ha hs z=>by
     rcases z with z|z
     .exact ha z
     .subst z;exact hs d,λa o ha z=>by rw[bb<|aI z d];exact z,rfl⟩
    have cv:∀c,H c≠OD->upd f D (.lst []) c≠OD:=λc hc z=>by
     by_cases w:c=D
     .subst w;rw[ax]at z;cases z
     .rw[bb w]at z;exact hc<|t.none z
    refine Jz (D:=D) (H0:=H) (as:=[]) (os:=os) T sg (U D) m (.inr rfl) Z (λb l z=>⟨fr.occ _ (fr.bgA b l z).1,fr.occ _ (fr.bgA b l z).2.1⟩) (rF<|N.tr<|(t.tr fr).trans j) ax ⟨cv,[],rfl,by simp,trivial⟩ (Y.tr j) q2 (by simpa using W) λaa P R u ab v B=>?_;have tf:To F f P k:=by
     refine⟨λa o z n=>u.kp a o (by rw[bb<|aI z d];exact z) (aI z d) n,λa ha z=>u.fr.occ a (QY ha) z,fr.bgA,u.fr.bag⟩
    obtain⟨_,rs,ea,nd,rl⟩:=B;subst ea;exact h _ P (t.trans tf) ⟨D,rs,rfl,t.none d,v,nd,bD.tr (F:=⟨λa=>F.A a\/a=D,F.bg⟩) ⟨λa ha _ z=>ha<|QY z,λa o _ z=>z,rfl⟩ rl λr xs _ p q=>⟨p,q⟩⟩
   .cases e
  .cases e
section
variable{p q l:Expr}{n:List Expr}{m:a0P}{k:Scope}{o:TF}{r u:a0h}{v:a0a}{g:TG}{t:a0Y}
theorem Lj(c:X.calm=OK)(S:cy X k r u v)(d:PI X q l<|iV X.K y E)
  (e:∀(G:a0m) (C:ON) (a:a0o) (s:OT) (H:Hp),PG (aP X r k G C a s H) q g/\eQ (aP X r k G C a s H) n (hO X.K z E0)/\∀D,PB (aP X r k G C a s H) p (⟨q,l,n,0⟩::m) k o 0 D<|t D)
  (f:cW X.K g w) (M:eP w) (i:∀D,kW X.K D (t D) b) (V:∀x,P3 l X.env x=Rm x:=by intro _;rfl):PE X (.ListComp p (⟨q,l,n,0⟩::m) k o) (Y7 X.K (i9 u.length v y w z b) E):=
 (oz c S d e V).imp λj H Q h=>BQ f M i h
theorem Mu(c:X.calm=OK)(S:cy X k r u v)(d:PI X q l<|iV X.K y E)
  (e:∀(G:a0m) (C:ON) (a:a0o) (s:OT) (H:Hp),PG (aP X r k G C a s H) q g/\eQ (aP X r k G C a s H) n (hO X.K z E0)/\∀D,PB (aP X r k G C a s H) p (⟨q,l,n,0⟩::m) k o 0 D<|t D)
  (f:cW X.K g w) (M:eP w) (i:∀D,rK X.K D (t D) b) (V:∀x,P3 l X.env x=Rm x:=by intro _;rfl):PE X (.ListComp p (⟨q,l,n,0⟩::m) k o) (Y8 X.K (jc u.length v y w z b) E):=
 (oz c S d e V).imp λj H Q h=>s9 f M i h
end
mutual
noncomputable def noL:D->Bool
 | .int _=>OK
 | .bl _=>OK
 | .str _=>OK
 | .non=>OK
 | .tup ds=>noLs ds
 |_=>OO
noncomputable def noLs:a0e->Bool
 |[]=>OK
 |d::ds=>noL d&&noLs ds
end
mutual
theorem ya{F b:Fx}(hF:∀c,b.A c->F.A c\/x4 H c):∀(d:D) (v:V),noL d=OK->b5 K F H d v->b5 K b H d v
 | .int i,v,_,h=>h
 | .bl i,v,_,h=>h
 | .str i,v,_,h=>h
 | .non,v,_,h=>h
 | .tup ds,v,n,h=>by
  obtain⟨a,E,e,h1,f⟩:=h;refine⟨a,E,e,?_,noLs_den hF ds E (by simpa[noL]using n) f⟩;rcases h1 with⟨h1,r⟩|h1
  .refine .inl ⟨λz=>?_,r⟩
   rcases hF a z with z|⟨G,z⟩|⟨G,z⟩
   .exact h1 z
   .rcases r with r|⟨o,r⟩<;>rw[z]at r<;>cases r
   .rcases r with r|⟨o,r⟩<;>rw[z]at r<;>cases r
  .exact .inr h1
 | .lst _,_,n,_=>by simp[noL]at n
 | .scr _,_,n,_=>by simp[noL]at n
 | .ty _,_,n,_=>by simp[noL]at n
 | .txt,_,n,_=>by simp[noL]at n
 | .obj _ _ _,_,n,_=>by simp[noL]at n
 | .bag,_,n,_=>by simp[noL]at n
 | .adr _,_,n,_=>by simp[noL]at n
 | .dct _ _ _,_,n,_=>by simp[noL]at n
theorem noLs_den{F a:Fx}(hF:∀c,a.A c->F.A c\/x4 H c):∀(D:a0e) (E:a0i),noLs D=OK->ba K F H D E->ba K a H D E
 |[],E,_,h=>h
 |d::D,E,n,h=>by
  have b:noL d=OK/\noLs D=OK:=by simpa[noLs]using n
  obtain⟨x,f,e,g,i⟩:=h;exact⟨x,f,e,ya hF d x b.1 g,noLs_den hF D f b.2 i⟩
end
theorem bD.noL{F b:Fx}(hF:∀c,b.A c->F.A c\/x4 H c):∀{D:a0r} {E:a0o},(∀ds∈D,noLs ds=OK)->bD K F H P D E->(∀r∈E,P2 r)->bD K b H P2 D E
 |[],[],_,_,_=>trivial
 |ds::D,r::E,n,h,p=>by
  obtain⟨g,⟨G,d,e⟩,f⟩:=h;exact⟨p r OL,⟨G,d,noLs_den hF _ _ (n ds OL) e⟩,bD.noL hF (λx a=>n x<|OF _ a) f λx a=>p x<|OF _ a⟩
 |[],_::_,_,h,_=>h.elim
 |_::_,[],_,h,_=>h.elim
theorem fc.newGrd{E:Ds}{d:St}(G:fc K H₀ B m H E q d)(t:To (d5 B m) H H' n)(M:∀S∈o,noLs S=OK)(j:ji K (d5 B m) H H' o v):
  ∃e,fc K H₀ e m H' (E.set i<|on<|.grd o) n (d.set i<|on v)/\hW B H e H':=by
 obtain⟨a,D,rfl,V,f,p,b⟩:=j;have g:∀c,c=a\/c∈D->H c=OD/\x4 H' c:=λc hc=>by
  rcases hc with rfl|hc
  .exact⟨V,.inl ⟨_,f⟩⟩
  .exact⟨(b.all c hc).1,.inl (b.all c hc).2⟩
 exact G.claim (λc=>c=a\/c∈D) t g λh k _=>⟨a,D,rfl,h a<|.inl rfl,f,p,bD.noL (F:=d5 B m) (λc hc=>(k c hc).imp id λw=>(g c w).2) M b λr l=>h r<|.inr l⟩
end
section
variable{X:Cx}{E:a0s}{K:Pa}{st:Qd}{L:Hp}{B:Ow}{J:a0q}{H H':Hp}{δ:Ds}{β aa:Bg}{σ:St}
def sH(i:Nat)(f:Dn->M a0r):G:=λδ β=>match f (vw δ) β with
 |some (.ok ac,β1)=>if(ac.all noLs)=OK then on (.nx<|δ.set i<|on<|.grd ac,β1)else OD
 |some (.error C,β1)=>on (.ex C δ,β1)
 |none=>OD
theorem HI(h:PS X st<|kY (Y8 X.K f E)<|gc i):PS X st (tG X.K X.H₀ (sH i f) E):=h.imp λD σ H g=>by
 obtain⟨B,J,δ,β,o,aa,ok,e,q⟩:=g;refine⟨d5 B J,vw δ,β,ok.fr,ok.view,?_⟩;unfold sH at e;split at e
 .rename_i ac β1 b
  split at e
  .rename_i hn
   cases e;refine⟨.ok ac,_,b,λv H' t G=>?_⟩;obtain⟨j,a,c⟩:=ok.newGrd (i:=i) t (λL d=>Re.mp hn L d) G;exact q _ _ _ c a
  .cases e
 .rename_i C β1 b
  cases e;refine⟨.error C,_,b,λH' t=>?_⟩;obtain⟨a,c⟩:=ok.to rfl t;exact q _ B H' c a
 .cases e
theorem bD.put{H:Hp}(t:Tr F H F<|upd H r<|.lst k)(E:ba K F (upd H r<|.lst k) ds k):∀{ac:a0r} {B:a0o} (j:Nat),bD K F H P ac B->B.Nodup->B[j]?=on r->bD K F (upd H r<|.lst k) P (ac.set j ds) B
 |d0::ac,r0::B,0,h,nd,e=>by
  obtain rfl:r0=r:=by simpa using e
  have D:∀a∈B,a≠r0:=λa b z=>(Pz.mp nd).1<|z▸b;exact⟨h.1,⟨k,ax,E⟩,bD.tr t h.2.2 λa G b p q=>⟨p,by rw[bb<|D a b];exact q⟩⟩
 |d0::ac,r0::B,j+1,h,nd,e=>by
  have c:B[j]?=on r:=by simpa using e
  obtain⟨d,⟨G,f,g⟩,i⟩:=h;have D:r0≠r:=λz=>(Pz.mp nd).1<|z▸OW c;exact⟨d,⟨G,by rw[bb D];exact f,ba.tr t _ _ g⟩,bD.put t E j i (Pz.mp nd).2 c⟩
 |[],[],_,_,_,e=>by simp at e
 |[],_::_,_,h,_,_=>h.elim
 |_::_,[],_,h,_,_=>h.elim
theorem bD.at{H:Hp}:∀{ac:a0r} {rs:a0o} {j:Nat} {ds:a0e},bD K F H P ac rs->ac[j]?=on ds->∃r xs,rs[j]?=on r/\P r/\H r=on (.lst xs)/\ba K F H ds xs
 |d0::ac,r0::rs,0,ds,h,e=>by
  obtain rfl:d0=ds:=by simpa using e
  obtain⟨a,⟨B,b,c⟩,g⟩:=h;exact⟨r0,B,rfl,a,b,c⟩
 |d0::ac,r0::rs,j+1,ds,h,e=>by
  obtain⟨r,xs,d,f⟩:=bD.at h.2.2 (j:=j) (ds:=ds) (by simpa using e);exact⟨r,xs,by simpa using d,f⟩
 |[],[],_,_,_,e=>by simp at e
 |[],_::_,_,_,h,_=>h.elim
 |_::_,[],_,_,h,_=>h.elim
theorem fc.writeRow{E:a0o}{X:a0r}(D:fc K L B J H δ β σ)(x:σ[i]?=on (on<|.ref a))(hB:B a=on (i+2))(G:H a=on (.lst<|E.map V.ref))(M:(a::E).Nodup)(u:bD K (d5 B J) H (λr=>B r=on (i+2)) X E)(w:E[j]?=on r)(I:H r=on (.lst O))(N:ba K (d5 B J) H ds xs):
  fc K L B J (upd H r<|.lst xs) (δ.set i<|on<|.grd<|X.set j ds) β σ/\hW B H B (upd H r<|.lst xs):=by
 have m:r∈E:=OW w;have f:B r=on (i+2):=(u.all r m).1;have g:hW B H B (upd H r<|.lst xs):=by
  refine⟨λc o h n=>?_,λ_ _=>rfl,λ_ _ _ n=>n,λc p=>?_⟩
  .rw[bb]
   .exact h
   .intro z;subst z;rw[f]at n;rcases n with n|n<;>cases n
  .by_cases z:c=r
   .subst z;rw[ax];simp
   .rw[bb z];exact p
 have S:Tr (d5 B J) H (d5 B J) (upd H r<|.lst xs):=g.tr;refine⟨⟨⟨λc p z=>?_,D.fr.bgA,λb l e=>?_⟩,D.bgt,by rw[QC,D.len],λa G=>g.al a<|D.cov a G,D.new,λc k p=>(by
  by_cases z:c=r
  .subst z;exact .inl ⟨xs,ax⟩
  .exact(D.lst c k p).imp λo y=>by rw[bb z];exact y),λk s e=>?_⟩,g⟩
 .by_cases q:c=r
  .subst q;rw[ax]at z;cases z
  .rw[bb q]at z;exact D.fr.occ c p z
 .obtain⟨b1,A⟩:=D.bgt b l e
  rw[bb (λz=>by subst z;rw[f]at b1;cases b1),bb (λz=>by subst z;rw[f]at A;cases A)];exact D.fr.bag b l e
 .rw[QH]at e
  by_cases q:i=k
  .subst q
   rw[OS rfl]at e;split at e
   .cases e
    have t:a≠r:=λz=>(Pz.mp M).1<|z▸m;exact⟨_,x,a,E,rfl,hB,by rw[bb t];exact G,M,bD.put S (ba.tr S _ _ N) j u (Pz.mp M).2 w⟩
   .cases e
  .rw[OR q]at e
   obtain⟨v,C,F⟩:=D.tell k s e;exact⟨v,C,F.tr S λc d=>⟨d,λo z=>(bb λy=>by subst y;rw[f]at d;cases d;exact q rfl).trans z⟩⟩
def nF(f:Dn->M a0r):G:=λδ β=>match f (vw δ) β with
 |some (.ok ac,β1)=>on (.rg ac,β1)
 |some (.error C,β1)=>on (.ex C δ,β1)
 |none=>OD
theorem IV(h:PS X (.Return (on e) n)<|FQ<|Y8 X.K f E):PS X (.Return (on e) n) (tG X.K X.H₀ (nF f) E):=h.imp λD σ H j=>by
 obtain⟨B,J,δ,β,o,aa,ok,e,q⟩:=j;refine⟨d5 B J,vw δ,β,ok.fr,ok.view,?_⟩;unfold nF at e;split at e
 .rename_i ac β1 d
  cases e;refine⟨.ok ac,_,d,λv H' t G=>?_⟩;obtain⟨b,g⟩:=ok.to rfl t;have i:∀c,H c=OD->X.H₀ c=OD:=λc k=>by
   cases w:X.H₀ c with
   |none=>rfl
   |some o=>exact Pf k (ok.cov c<|by rw[w];simp)
  obtain⟨a,L,rfl,M,l,S,m⟩:=G;exact q _ B H' g b.fr ⟨a,L,rfl,i a M,l,S,bD.tr (Tr.refl _ _) m λr V _ p y=>⟨i r p,y⟩⟩
 .rename_i C β1 d
  cases e;refine⟨.error C,_,d,λH' t=>?_⟩;obtain⟨b,g⟩:=ok.to rfl t;exact q _ B H' g b
 .cases e
def Z0(K:Pa)(n:Nat)(m:a0e->M a0r):Sp:=λB H Q E=>B.length=n/\∃F D β,Fr F H β/\ba K F H D B/\run (ji K F H) F (λ_=>E) [] (m D) H Q β
def o4(n:Nat)(g:G):a0e->M a0r:=λB β=>match g (nw n B) β with
 |some (.rg ac,aa)=>on (.ok ac,aa)
 |some (.ex C _,aa)=>on (.error C,aa)
 |_=>OD
variable{P:Py}{w:PD}{mg:a0j}{ab:PZ}
theorem JV{st:Qd}{N V:a0h}(n m:Nat)(g:G)(F:hL K x qual st f fd)(S:bt N V<|ag st)(L:V.length=n)(O:N.length=m)
  (j:∀(c:OP) (A:Qc) (D:a0C) (s:OT) (H:Hp) (E:XK),dv k (A.deeper<|Tg qual (ag st) s.heap.objs.size f c)->
   PSs (gi (hE P w) P w K mg ab N qual (ag st) f c A D s H E) (cI st) (tG K H g (λ_=>E))):fw P w K mg ab (hE P w) (k+1) f fd V (Z0 K n<|o4 m g):=by
 subst L O;refine F.okE S (λvs H Q E h=>h.1) λc A D s H vs Q E hr h=>?_;obtain⟨hl,u,X,β,fr,hd,r,aa,e,h⟩:=h;refine⟨_,j c A D s H E hr,?_⟩;obtain⟨B,ok,R,h1,hn⟩:=vi (N:=N) fr hd;have J:∀{I:Ow} {H':Hp},hW B H I H'->Fr (d5 I u.bg) H' aa->To u H H' aa/\Tr (d5 I u.bg) H' u H':=λ{I H'} s i=>by
  have hs:∀a,u.A a->I a≠OD:=λa M=>by
   rw[s.tg a<|R a M];rcases R a M with z|z<;>rw[z]<;>simp
  refine⟨⟨λa o M n=>s.kp a o M ?_,λa M=>i.occ a<|hs a M,λb l e=>fr.bgA b l e,i.bag⟩,λa M _ z=>M<|hs a z,λ_ _ _ h=>h,rfl⟩;cases q:B a with
  |none=>exact .inl rfl
  |some t=>
   have:=R a (hn a<|by rw[q];simp);rcases this with z|z
   .rw[q]at z;exact .inr z
   .obtain⟨b,l,e,w⟩:=h1 a z
    obtain⟨T,n2⟩:=n b l e;rcases w with w|w
    .exact Pf w T
    .exact Pf w n2
 unfold o4 at e;split at e
 .rename_i d β1 U
  cases e;refine⟨B,u.bg,nw N.length X,β,.rg d,aa,ok,U,λv I H' s i hv=>?_⟩;obtain⟨W,t2⟩:=J s i;obtain⟨a,rs,ev,n0,T,nd,rl⟩:=hv;exact h v H' W ⟨a,rs,ev,n0,T,nd,bD.tr t2 rl λr xs _ p y=>⟨p,y⟩⟩
 .rename_i C Y β1 U
  cases e;refine⟨B,u.bg,nw N.length X,β,.ex C Y,aa,ok,U,λac I H' s Z=>?_⟩;obtain⟨W,t2⟩:=J s Z.fr;exact h H' W
 .cases e
variable{e:Expr}{z:List Expr}{s p:TF}{x:PP}{k n:Nat}{f:ON}{P:Pd}{B:a0h}
def wM(m:a0e->M a0r)(g:FL):Dn->M a0r:=λδ=>M.bind (g δ) λe=>m e
theorem ji.pre{K:Pa}{H b H':Hp}(t:To F H b g)(h:ji K F b H' i v):ji K F H H' i v:=by
 obtain⟨a,e,f,k,c,n,d⟩:=h;exact⟨a,e,f,t.none k,c,n,bD.tr (Tr.refl _ _) d λr s _ p y=>⟨t.none p,y⟩⟩
theorem Mv(G:fw X.prog X.w X.K X.mg X.base (hE X.prog X.w) k f P B<|Z0 X.K n m)(q:dv k X.A)(u:Gl X x)(hm:X.mg x=on (.ref f))(y:UF X.K (.ref f)=OK)(I:dH X.K P B [])(J:dT (hE X.prog X.w) X E)
  (ha:PA X (e::z)<|hX X.K g E) (hn:∀δ β r aa,g δ β=on (.ok r,aa)->r.length=n) (a:b0c x:=by decide) (L:b0a X e z:=by rfl) (b:b0b X s z:=by rfl):
  PE X (.Call (.Name x p) (e::z) [] s) (Y8 X.K (wM m g) E):=
 (oA G q u hm y I .nil J ha a L b).imp λσ H Q N=>j2 N λF δ β fr O r=>⟨F,δ,β,fr,O,by
  obtain⟨S,c,h,i⟩:=run.bind (R:=ba X.K F) r;refine⟨S,c,h,?_⟩;cases S with
  |error C=>exact i
  |ok ds=>
   intro vs T t V;obtain⟨d',D,j,d,r1⟩:=i vs T t V;have U:=hn _ _ _ _ h;refine⟨by rw[P9,<-V.length,U],F,d',D,j.fr,by rw[P9];exact d,?_⟩;obtain⟨l,M,W,o⟩:=r1;refine⟨l,M,W,?_⟩;cases l with
   |ok ac=>exact λv H' Y Z=>o v H' Y<|ji.pre j Z
   |error C=>exact o⟩
end
end L2.Pu
namespace L2
end L2
namespace L2.Pu
section
variable{X:Cx}{E:a0s}{K:Pa}
def o7(K:Pa)(E:a0j)(x:PP)(d:D):Prop:=∃u v,E x=on u/\aR v u/\∀F H,b5 K F H d v
theorem iX(c:o7 X.K X.mg x d)(a:Gl X x:=by rfl)(D:b0c x:=by decide):PE X (.Name x g) (tV X.K (fC d) E):=by
 obtain⟨u,v,b,e,f⟩:=c;exact sD (Jh a b e D) f
mutual
noncomputable def lg:D->Option VX
 | .non=>on .none
 | .bl b=>on<|.bool b
 | .int i=>on<|.int i
 | .str x=>on<|.str x
 | .lst xs=>(toPs xs).map PyData.list
 | .tup xs=>(toPs xs).map PyData.tuple
 |_=>OD
noncomputable def toPs:a0e->Option (List VX)
 |[]=>on []
 |x::xs=>match lg x,toPs xs with
  |some p,on ps=>on<|p::ps
  |_,_=>OD
end
mutual
theorem lD{s:OT}(I:b_ X w y H s):∀(d:D) (v:V) (u:OP) (p:VX),b5 X.K F H d v->lg d=on p->aR v u->∃G,Reads s.heap u p G
 | .non,v,u,p,h,e,r=>by cases e;cases h.non;cases r;exact⟨_,.none⟩
 | .bl b,v,u,p,h,e,r=>by cases e;cases h.bl;cases r;exact⟨_,.bool b⟩
 | .int i,v,u,p,h,e,r=>by cases e;cases h.int;obtain⟨t,rfl⟩:=r;exact⟨_,.int i t⟩
 | .str x,v,u,p,h,e,r=>by cases e;cases h.str;obtain⟨t,rfl⟩:=r;exact⟨_,.str x t⟩
 | .lst xs,v,u,p,h,e,r=>by
  unfold lg at e;cases q:toPs xs with
  |none=>rw[q]at e;cases e
  |some M=>
   rw[q]at e;cases e;obtain⟨a,S,rfl,k,dl⟩:=b5.sqL h;cases r;obtain⟨E,c,l,_⟩:=I.list k;obtain⟨G,f⟩:=reads_L I xs S E M dl q c;obtain⟨o,g,j,n,m⟩:=l.isList;exact⟨_,.list g j m<|by simpa using f⟩
 | .tup xs,v,u,p,h,e,r=>by
  unfold lg at e;cases q:toPs xs with
  |none=>rw[q]at e;cases e
  |some M=>
   rw[q]at e;cases e;obtain⟨a,S,rfl,k,dl⟩:=b5.sqT h;cases r;obtain⟨E,c,l,_⟩:=I.tuple k;obtain⟨G,f⟩:=reads_L I xs S E M dl q c;obtain⟨o,g,j,n,m⟩:=l;exact⟨_,.tuple g j m<|by simpa using f⟩
 | .ty _,_,_,_,_,e,_=>by cases e
 | .txt,_,_,_,_,e,_=>by cases e
 | .scr _,_,_,_,_,e,_=>by cases e
 | .obj _ _ _,_,_,_,_,e,_=>by cases e
 | .bag,_,_,_,_,e,_=>by cases e
 | .adr _,_,_,_,_,e,_=>by cases e
 | .dct _ _ _,_,_,_,_,e,_=>by cases e
theorem reads_L{s:OT}(I:b_ X m n H s):∀(E:a0e) (D:a0i) (G:a0g) (M:List VX),ba X.K F H E D->toPs E=on M->aB D G->∃S,ReadsAll s.heap G M S
 |[],D,G,M,h,e,r=>by
  have q:D=[]:=h;subst q;cases e;cases r;exact⟨_,.nil⟩
 |d::E,D,G,M,h,e,r=>by
  obtain⟨x,a,rfl,b,c⟩:=h;unfold toPs at e;split at e
  .rename_i p pr f g
   cases e;cases r with
   |cons V i=>
    obtain⟨S,j⟩:=lD I d x _ p b f V;obtain⟨l,k⟩:=reads_L I E a _ pr c g i;exact⟨_,.cons j k⟩
  .cases e
end
def gU(a b:D):a0S:=match lg a,lg b with
 |some p,on q=>if(TW p&&TW q)=OK then on (Rb p q)else OD
 |_,_=>OD
def dI(a b:D):a0k:=match YN a b with
 |some c=>on<|.bl c
 |none=>(gU a b).map D.bl
def gh(a b:D):a0k:=match YN a b with
 |some c=>on<|.bl<|!c
 |none=>(gU a b).map λc=>D.bl<|!c
def rZ(X:Cx)(g:Bool->Bool):R2:=λx y H Q=>∃(F:Fx) (a b:D) (c:Bool),b5 X.K F H a x/\b5 X.K F H b y/\gU a b=on c/\Q (.bl<|g c) H
theorem uj{c:Bool}(h:gU a b=on c):∃p q,lg a=on p/\lg b=on q/\TW p=OK/\TW q=OK/\c=Rb p q:=by
 unfold gU at h;split at h
 .rename_i p q d e
  split at h
  .rename_i hs
   rw[Pr]at hs;cases h;exact⟨p,q,d,e,hs.1,hs.2,rfl⟩
  .cases h
 .cases h
theorem Lf(f:dv k X.A):fX X (Qq .Eq) (rZ X id):=by
 intro d s t H x y v u Q I g i h;obtain⟨F,a,b,c,D,E,e,q⟩:=h;obtain⟨p,j,l,m,n,o,rfl⟩:=uj e;obtain⟨K,G⟩:=lD I a x v p D l g;obtain⟨M,r⟩:=lD I b y u j E m i;exact eq_dataH G r n o f.units ⟨.bl _,H,I,rfl,q⟩
theorem Lc(f:dv k X.A):fX X (Qq .NotEq) (rZ X not):=by
 intro d s t H x y v u Q I g i h;obtain⟨F,a,b,c,D,E,e,q⟩:=h;obtain⟨p,j,l,m,n,o,rfl⟩:=uj e;obtain⟨K,G⟩:=lD I a x v p D l g;obtain⟨M,r⟩:=lD I b y u j E m i;exact ne_dataH G r n o f.units ⟨.bl _,H,I,rfl,q⟩
theorem c5(a:dv k X.A):fX X (Qq .Eq) (λx y H Q=>Z9 x y H Q\/rZ X id x y H Q):=Nv.or<|Lf a
theorem cP(a:dv k X.A):fX X (Qq .NotEq) (λx y H Q=>Z7 x y H Q\/rZ X not x y H Q):=Nu.or<|Lc a
theorem d7:bv X.K (λx y H Q=>Z9 x y H Q\/rZ X id x y H Q) dI:=λF H G Q D E d h i fr a b e k=>by
 unfold dI at e;split at e
 .rename_i c q
  cases e;obtain⟨f,g⟩:=E3 q a b;exact .inl ⟨f,by rw[g];exact k _ H (To.refl fr) rfl⟩
 .cases q:gU D E with
  |none=>rw[q]at e;cases e
  |some c=>rw[q]at e;cases e;exact .inr ⟨F,D,E,c,a,b,q,k _ H (To.refl fr) rfl⟩
theorem dR:bv X.K (λx y H Q=>Z7 x y H Q\/rZ X not x y H Q) gh:=λF H G Q D E d h i fr a b e k=>by
 unfold gh at e;split at e
 .rename_i c q
  cases e;obtain⟨f,g⟩:=E3 q a b;exact .inl ⟨f,by rw[g];exact k _ H (To.refl fr) rfl⟩
 .cases q:gU D E with
  |none=>rw[q]at e;cases e
  |some c=>rw[q]at e;cases e;exact .inr ⟨F,D,E,c,a,b,q,k _ H (To.refl fr) rfl⟩
theorem Ov(i j:Int):dI (.int i) (.int j)=on (.bl<|decide (i=j)):=rfl
theorem Ou(i j:Int):gh (.int i) (.int j)=on (.bl<|!decide (i=j)):=rfl
mutual
theorem wN:∀p:VX,p.canLay0=OK->Rb p p=OK
 | .none,_=>rfl
 | .bool b,_=>by simp[Rb]
 | .int b,_=>by simp[Rb]
 | .str b,_=>by simp[Rb]
 | .list xs,h=>by
  unfold Rb;exact eqv_reflL xs (by simpa[T1]using h)
 | .tuple xs,h=>by
  unfold Rb;exact eqv_reflL xs (by simpa[T1]using h)
 | .dict _,h=>by simp[T1]at h
theorem eqv_reflL:∀D:List VX,Ta D=OK->Qx D D=OK
 |[],_=>rfl
 |p::D,h=>by
  have E:p.canLay0=OK/\Ta D=OK:=by simpa[Ta]using h
  unfold Qx;rw[wN p E.1,eqv_reflL D E.2];rfl
end
def gF(d:D):Bool:=match lg d with
 |some p=>TW p
 |none=>OO
theorem nP(h:gF d=OK):gU d d=on OK:=by
 unfold gF at h;unfold gU;cases q:lg d with
 |none=>rw[q]at h;cases h
 |some p=>
  rw[q]at h;simp only[h,Ts,P8];rw[wN p<|SeqAt.canLay_of_shaped h]
theorem G5{c:Bool}(h:YN d d=on c):c=OK:=by
 cases d<;>first|(cases h;simp)|(cases h;rfl)|cases h
theorem Jt(h:gF d=OK):gh d d=on (.bl OO):=by
 unfold gh;cases q:YN d d with
 |none=>simp only[nP h];rfl
 |some c=>rw[G5 q];rfl
theorem HY{C:a0W}{c:Int->Int->Bool}{g:a0N}(b:∀i j,c i j=OK->C i j):bv K (Za C g) (ms λi j=>if c i j=OK then on (.int<|g i j)else OD):=λF H D Q E G d l m fr f h e k=>by
 obtain⟨i,j,rfl,rfl,a⟩:=iD e;split at a
 .cases a
  exact⟨i,j,f,h,b _ _ (by assumption),k _ H (To.refl fr) rfl⟩
 .cases a
def MS:D->D->a0k:=ms λi j=>on<|.int<|i+j
theorem iH:bv K (ZA λi j=>i+j) MS:=λF H D Q E G d f g fr a b e k=>by
 obtain⟨i,j,rfl,rfl,c⟩:=iD e;cases c;exact⟨i,j,a,b,k _ H (To.refl fr) rfl⟩
theorem JF:bv K (ZA λi j=>i-j) vh:=λF H D Q E G d f g fr a b e k=>by
 obtain⟨i,j,rfl,rfl,c⟩:=iD e;cases c;exact⟨i,j,a,b,k _ H (To.refl fr) rfl⟩
theorem yj:Y4 X .Mult (Za uU λi j=>i*j):=by
 intro a s e H x y v u Q I b d h;obtain⟨i,j,rfl,rfl,c,q⟩:=h;obtain⟨t,rfl⟩:=b;obtain⟨D,rfl⟩:=d;exact imul_int ⟨.int _,H,I.tok _,⟨_,rfl⟩,q⟩<|Xx (kU c.1)<|kU c.2
theorem yg:bv K (Za uU λi j=>i*j) zA:=HY λi j h=>by
 simp only[Pr,e8,PR]at h;exact h
theorem GJ:bv K (Za Iq λi j=>i/j) Ii:=HY λi j h=>by
 simp only[Pr,PR]at h;exact h
abbrev h9:=FU
theorem Fa(b:X.calm=OK):cK X (.builtin "sum") (λE H Q=>∃(a:ON) (D:a0c),E=[.ref a]/\eg X.K H a (D.map V.int)/\Q (.int D.sum) H):=uk b
theorem LD:d9 K (λE H Q=>∃(a:ON) (D:a0c),E=[.ref a]/\eg K H a (D.map V.int)/\Q (.int D.sum) H) h9:=NE
def Ir(H:Hp)(b l:ON):Prop:=∃(D:a0c) (i j:Int),H b=on (.lst [.ref l,.int i,.int j])/\H l=on (.lst<|D.map V.int)/\D≠[]/\D.length<=64/\(∀c∈D,0<=c)/\0<=j
theorem JH(h:k<n):m_ n (k:Int)=on k:=by
 unfold m_;rw[OS (by lia),OS<|by lia];simp
theorem Oz(D:a0c):∃a:a0c,nK (D.map V.int) OD (on 63)=a.map V.int/\a.length<=63:=by
 refine⟨(D.drop<|HT.sIx D.length 0 OD).take<|HT.sIx D.length D.length (on 63)-HT.sIx D.length 0 OD,?_,?_⟩
 .unfold nK
  rw[OC,Vl,Sj]
 .rw[Rv]
  have:HT.sIx D.length D.length (on 63)<=63:=by
   unfold HT.sIx;simp;lia
  lia
def Ni(K:Pa):Sp:=λD H Q _=>∃(a:ON) (E:a0c),D=[.ref a]/\eg K H a (E.map V.int)/\∀(b l:ON) (c:Hp),H b=OD->H l=OD->Ir c b l->bY H c->Q (.ref b) c
def HF(K:Pa):Sp:=λE H Q _=>∃(a:ON) (D:a0c),E=[.ref a]/\eg K H a (D.map V.int)/\D.length<=63/\∀b,Q (.bl OK) b
theorem J6(sm:bY H₀ H)(A:H₀ b=OD)(C:H₀ l=OD)(B:Ir H b l):∃E,E.ok/\fc K H₀ (λc=>if c=b\/c=l then on 1 else OD) (on (b,l)) H (OD::on (.sh .bag)::Pg n OD) E (on (.ref a)::on (.ref b)::Pg n OD):=by
 obtain⟨D,i,j,g,h,p,v,w,y⟩:=B;have m:b≠l:=NA g h (by
  intro z;cases D with
  |nil=>exact p rfl
  |cons c r=>simp at z)
 refine⟨⟨D,i,j⟩,⟨p,v,w,y⟩,⟨⟨λc f=>?_,λt u e=>?_,λt u e=>?_⟩,λt u e=>?_,by simp,λc f=>?_,λc k f=>(by
  have d:(if c=b\/c=l then on 1 else OD)=on (k+2):=f;split at d<;>cases d),λc k f=>(by
  have d:(if c=b\/c=l then on 1 else OD)=on (k+2):=f;split at d<;>cases d),λk s e=>?_⟩⟩
 .have d:(if c=b\/c=l then on 1 else OD)≠(OD:a0L):=f
  split at d
  .rename_i q
   rcases q with rfl|rfl
   .rw[g];simp
   .rw[h];simp
  .exact Pf rfl d
 .cases e
  refine⟨?_,?_,m⟩
  .show(if b=b\/b=l then on 1 else OD)≠(OD:a0L)
   rw[OS<|.inl rfl];simp
  .show(if l=b\/l=l then on 1 else OD)≠(OD:a0L)
   rw[OS<|.inr rfl];simp
 .cases e
  exact⟨g,h⟩
 .cases e
  exact⟨OS<|.inl rfl,OS<|.inr rfl⟩
 .cases q:H₀ c with
  |none=>exact Pf q f
  |some o=>rw[sm c o q];simp
 .match k with
  |0=>simp at e
  |1=>
   simp at e;subst e;exact⟨.ref b,rfl,b,l,rfl,rfl⟩
  |k+2=>
   simp only[WT,Ro]at e;split at e<;>cases e
variable{P:Py}{w:PD}{mg:a0j}{base:PZ}
theorem k6{M:Qd}{N V:a0h}(n m:Nat)(g:G)(F:hL K x c M f h)(S:bt N V<|ag M)(d:V.length=n)(e:N.length=m)
  (a:∀(b:OP) (A:Qc) (D:a0C) (s:OT) (H:Hp) (E:XK),dv k (A.deeper<|Tg c (ag M) s.heap.objs.size f b)->
   PSs (gi (hE P w) P w K mg base N c (ag M) f b A D s H E) (cI M) (tG K H g (λ_=>E))):fw P w K mg base (hE P w) (k+1) f h V (Ic K n<|gG m g):=by
 subst d e;exact JT F S a
end
end L2.Pu
namespace L2
theorem cy.ofB{X:Cx}{w:Scope}{D:a0a}(k:w.kind= .function)(E:(w.names.map (·.1)).Nodup)
  (fr:(w.names.all λy=>y.2 != .free||(X.env.scope.names.lookup y.1==on .cell||X.env.scope.names.lookup y.1==on .free))=OK) (a:Nc=cp++D.map (λj=>X.N.getD j SK))
  (b:(D.all λj=>decide (j<X.N.length)&&w.names.lookup (X.N.getD j SK)==on .free)=OK):cy X w Nc cp D:=by
 refine⟨k,E,λy c e=>?_,a,λj d=>?_⟩
 .have:=Re.mp fr y c
  rw[e]at this;simp only[Sk,Bool.false_or,Bool.or_eq_true,SO]at this;exact this
 .have:=Re.mp b j d
  simp only[Pr,PR,SO]at this;exact this
end L2
namespace L2.Pu
end L2.Pu
namespace L2.Pu
section
variable{X:Cx}{E:a0s}{K:Pa}{z A u:Expr}{w:List Expr}{v:a0P}{t:Scope}{y:TF}{B I:a0h}{J:a0a}{g:TG}{F:a0Y}
theorem CL{a c:TF}(j:X.N.Nodup)(d:X.N[i]?=on x)(k:x5 X.env.scope x)(l:X.calm=OK)(S:cy X t B I J)(m:PI X A u<|iV X.K O E)
  (n:∀(G:a0m) (C:ON) (f:a0o) (s:OT) (H:Hp),PG (aP X B t G C f s H) A g/\eQ (aP X B t G C f s H) w (hO X.K Q E0)/\∀D,PB (aP X B t G C f s H) z (⟨A,u,w,0⟩::v) t y 0 D<|F D)
  (o:cW X.K g L) (M:eP L) (p:∀D,rK X.K D (F D) b)
  (e:TY (.ListComp z (⟨A,u,w,0⟩::v) t y) (on<|.Name x a) c.line X.env=Rm OK:=by rfl)
  (P:∀x,P3 u X.env x=Rm x:=by intro _;rfl) (q:b0d X x:=by first|exact .inl rfl|exact .inr rfl|assumption):
  PS X (.Assign [.Name x a] (.ListComp z (⟨A,u,w,0⟩::v) t y) c) (tG X.K X.H₀ (sH i<|jc I.length J O L Q b) E):=
 HI ((xU j d k l S m n e P q).imp λD r H h=>s9 o M p h)
end
end L2.Pu
namespace L2
section
variable{X:Cx}
theorem Hd{D:a1a}{w:a0g}(r:aB (D.map V.bl) w){i:Nat}{v:OP}(h:w.toArray[i]?=on v):v= .bool (D.getD i OO):=by
 have E:w[i]?=on v:=by simpa using h
 have a:=r.length;rw[OC]at a;have b:i<D.length:=by rw[a];exact(OM.mp E).1
 obtain⟨u,c,d⟩:=r.get (i:=i) (x:=V.bl D[i]) (by rw[OI,OE b];rfl);rw[E]at c;cases c;rw[OJ,OE b];exact d
theorem CU{α:Type}(f:Bool->Bool)(w:a1a):(OV w.length).map (λi=>w.getD i OO)=w:=by
 apply Yt;intro i;rw[OI];by_cases h:i<w.length
 .rw[QB h,OE h]
  simp[OJ,OE h]
 .rw[Tk (by simpa using h),Tk<|by lia];rfl
theorem CV(w:a1a):((OV w.length).any λi=>w.getD i OO)=w.any id:=by
 conv=>rhs;rw[<-CU (α:=Bool) id w]
 rw[W1];rfl
theorem g9(l:X.calm=OK):cK X (.builtin "any") (λG H Q=>∃(a:ON) (E:a1a),G=[.ref a]/\eg X.K H a (E.map V.bl)/\Q (.bl<|E.any id) H):=by
 intro j s B H G P Q I r h;obtain⟨a,E,rfl,m,q⟩:=h;cases r with
 |cons M n=>
  cases M;cases n;obtain⟨D,k,p,C⟩:=I.list m;have f:=p.isList;have c:D.toArray.size=E.length:=by rw[O7,<-k.length,OC]
  have d:∀b o,s.heap.get? b=on o->b≠s.heap.objs.size:=λb o e z=>by
   rw[z,Xw<|OX _]at e;cases e
  have g:a≠s.heap.objs.size:=by
   obtain⟨o,e,_⟩:=f;exact d a o e
  have W:=Walks.list (prog:=X.prog) (w:=X.w) (A:=X.A.in1) (show X.A.in1.handled=OD from I.ok.hd l) s.heap.objs.size a g D.toArray;refine call_any_walk<|Tx f ⟨s.heap.objs.size,[s.heap.objs.size,a],[s.heap.objs.size],D.toArray.size,_,_,λi=>E.getD i OO,rfl,W,⟨⟨_,O5 s.heap rfl,rfl,rfl⟩,f.push _⟩,λi v S F J t u=>?_,λx L y=>?_⟩
  .rw[Hd k t]
   exact Qg u
  .rw[c,CV]
   exact⟨.bl<|E.any id,H,I.kept λb o e=>y b o (λz=>d b o e<|by simpa using z)<|OH _ e,rfl,q⟩
end
end L2
namespace L2.Pu
noncomputable def eM:a0e->Option a1a
 |[]=>on []
 | .bl b::r=>(eM r).map (b::·)
 |_=>OD
theorem pA{K:Pa}:∀{w:a0e} {D:a0i} {E:a1a},eM w=on E->ba K F H w D->D=E.map V.bl
 |[],D,E,e,h=>by
  cases e;cases h;rfl
 |d::w,D,E,e,h=>by
  obtain⟨x,f,rfl,a,c⟩:=h;cases d<;>first
   |(rename_i b
     cases q:eM w with
     |none=>simp[eM,q]at e
     |some r=>
     simp[eM,q]at e;subst e;cases a.bl;rw[pA q c];rfl)
   |simp[eM]at e
def xf:a0e->a0k
 |[.lst ds]=>(eM ds).map λw=> .bl<|w.any id
 |_=>OD
variable{K:Pa}
theorem oK:d9 K (λD H Q=>∃(a:ON) (w:a1a),D=[.ref a]/\eg K H a (w.map V.bl)/\Q (.bl<|w.any id) H) xf:=λF H E Q G d M fr h e k=>by
 unfold xf at e;split at e
 .obtain⟨v,rfl,g⟩:=ba.one h
  obtain⟨a,D,rfl,r,dl⟩:=b5.sqL g;obtain⟨w,q,e⟩:=S9.mp e;subst e;rw[pA q dl]at r;exact⟨a,w,rfl,r,k _ H (To.refl fr) rfl⟩
 .cases e
end L2.Pu
namespace L2
section
variable{X:Cx}{a b c d:Expr}{ta w tc P:TE}{aa:TF}
def M9(i e:R2)(tc P:TE)(y:V):TE:=λf H Q=>tc f H λw j=>i y w j λk g=>∃h,k= .bl h/\(if h=OK then P f g λl m=>e w l m Q else Q (.bl OO) g)
def xC(r h e:R2)(ta w tc P:TE):TE:=λf H Q=>ta f H λx i=>w f i λy j=>r x y j λz g=>∃k,z= .bl k/\(if k=OK then M9 h e tc P y f g Q else Q (.bl OO) g)
theorem CY(J:fX X (Qq op) r)(l:fX X (Qq op') r')(i:fX X (Qq op'') r'')(G:PE X a ta)(L:PE X b w)(N:PE X c tc)(K:PE X d P)
  (M:Yo [op,op',op''] [b,c,d]=OO:=by with_unfolding_all rfl):PT X (.Compare a [op,op',op''] [b,c,d] aa) (yV<|xC r r' r'' ta w tc P):=by
 intro f s g H Q I h;refine isTrue_chain (dt (G f s g H _ I h) λv O ⟨x,R,T,S,V⟩=>test_link (dt (L f O g R _ T V) λu U ⟨y,W,Y,o,q2⟩=>
  dt (J f U g W x y v u _ Y S o q2) λZ s3 ⟨z,p,q,r3,k,e,D⟩=>?_)) M
 subst e;cases r3;refine Qg ?_;cases k with
 |false=>
  obtain⟨m,j,n⟩:=D;cases j;exact ite_ff ⟨p,q,n⟩
 |true=>
  refine ite_tt<|test_link<|dt (N f s3 g p _ q D) λt s4 ⟨A,H4,I4,B,q4⟩=>dt (l f s4 g H4 y A u t _ I4 o B q4) λZ s5 ⟨z',C,F,r5,m,j,E⟩=>?_;subst j;cases r5;refine Qg ?_;cases m with
  |false=>
   obtain⟨m,j,n⟩:=E;cases j;exact ite_ff ⟨C,F,n⟩
  |true=>
   refine ite_tt<|test_last<|dt (K f s5 g C _ F E) λw' s6 ⟨z2,H6,I6,r6,q6⟩=>dt (i f s6 g H6 A z2 t w' _ I6 B r6 q6) λd' s7 ⟨z3,H7,I7,r7,k3,e3,q7⟩=>?_;subst e3;cases r7;exact Qg ⟨H7,I7,q7⟩
end
end L2
namespace L2.Pu
section
variable{X:Cx}{E:a0s}{a b c d:Expr}{pos:TF}{K:Pa}
def Ij(f e:a0T)(h i:FD)(y:D):FD:=λa=>M.bind (h a) λw=>M.bind (M.ofO<|f y w) λz=>M.bind (M.ofO<|asB z) λc=>if c=OK then M.bind (i a) (λg=>M.ofO<|e w g)else M.ret (.bl OO)
def oZ(o j e:a0T)(f g h i:FD):FD:=λd=>M.bind (f d) λa=>M.bind (g d) λb=>M.bind (M.ofO<|o a b) λz=>M.bind (M.ofO<|asB z) λc=>if c=OK then Ij j e h i b d else M.ret (.bl OO)
theorem run.later{c i:Type}{R:Hp->c->i->Prop}{F:Fx}{j:St}{m:M c}{H k:Hp}{Q:i->Hp->Prop}{a:Bg}(t:To F H k a)(h:run R F E j m H Q a):run R F E j m k Q a:=by
 obtain⟨l,f,e,q⟩:=h;refine⟨l,f,e,?_⟩;cases l with
 |ok d=>exact λv g b=>q v g<|t.trans b
 |error C=>exact λg b=>q g<|t.trans b
theorem yY(l:bv K r o)(l':bv K r' o')(O:bv K s x)(T:tV K (oZ o o' x f g h i) E σ H Q):xC r r' s (tV K f E) (tV K g E) (tV K h E) (tV K i E) σ H Q:=by
 obtain⟨F,b,β,fr,U,T⟩:=T;refine⟨F,b,β,fr,U,(run.bind (R:=b5 K F) T).mono λv H1 n=>l0 n λd D t hd r1=>⟨F,b,D,t.fr,U.tr<|t.tr fr,(run.bind (R:=b5 K F) r1).mono λV H2 n=>l0 n λX a p u r2=>?_⟩⟩;obtain⟨z,ez,r3⟩:=run.ofO_bind r2;obtain⟨c,ec,L⟩:=run.ofO_bind r3;rw[kj ec]at ez;have W:=U.tr<|(t.tr fr).trans<|p.tr t.fr;refine l F H2 a _ d X _ v V p.fr (b5.tr (p.tr t.fr) _ _ hd) u ez λvz H3 j hz=>⟨c,hz,?_⟩;cases c with
 |true=>
  rw[OS rfl]at L;have Y:=b5.tr (j.tr p.fr) _ _ u;have y:=W.tr<|j.tr p.fr;have r5:=run.later j L;refine⟨F,b,a,j.fr,y,(run.bind (R:=b5 K F) r5).mono λw H4 n=>l0 n λdw A B C r6=>?_⟩;obtain⟨z',I,r7⟩:=run.ofO_bind r6;obtain⟨c',Z,N⟩:=run.ofO_bind r7;rw[kj Z]at I;refine l' F H4 A _ X dw _ V w B.fr (b5.tr (B.tr j.fr) _ _ Y) C I λaa H5 m G=>⟨c',G,?_⟩;cases c' with
  |true=>
   rw[OS rfl]at N;refine⟨F,b,A,m.fr,y.tr<|(B.tr j.fr).trans<|m.tr B.fr,(run.bind (R:=b5 K F)<|run.later m N).mono λw' H6 ⟨M,P,t6,J,r9⟩=>?_⟩;obtain⟨d3,e3,k⟩:=run.ofO r9;exact O F H6 P Q dw M d3 w w' t6.fr (b5.tr ((m.tr B.fr).trans<|t6.tr m.fr) _ _ C) J e3 k
  |false=>
   rw[OR OY]at N;obtain⟨rr,S,e,q⟩:=N;cases e;exact q _ H5 m rfl
 |false=>
  rw[OR OY]at L;obtain⟨rr,S,e,q⟩:=L;cases e;exact q _ H3 j rfl
theorem FP(m:fX X (Qq op) r)(j:fX X (Qq v) z)(e:fX X (Qq s) x)(l:bv X.K r o)(n:bv X.K z A)(k:bv X.K x y)(w:PE X a<|tV X.K f E)(p:PE X b<|tV X.K g E)(t:PE X c<|tV X.K h E)(D:PE X d<|tV X.K i E)(G:Yo [op,v,s] [b,c,d]=OO:=by with_unfolding_all rfl):
  PT X (.Compare a [op,v,s] [b,c,d] pos) (hO X.K (fB<|oZ o A y f g h i) E):=(CY m j e w p t D G).imp λu H Q q=>yY l n k<|pG q
variable{st:Qd}{o:Hp}{B:Ow}{bg:a0q}{H u:Hp}{δ:Ds}{β P:Bg}{σ:St}
theorem fc.AtoB(a:fc K o B bg H δ β σ):∀c,(d5 B bg).A c->(lw B bg).A c\/x4 H c:=λc f=>by
 have e:B c≠OD:=f;cases q:B c with
 |none=>exact Pf q e
 |some k=>
  match k,q with
  |0,q=>exact .inl<|.inl q
  |1,q=>exact .inl<|.inr q
  |k+2,q=>exact .inr<|a.lst c k q
theorem fc.noB{d:D}(a:fc K o B bg H δ β σ)(b:noL d=OK)(h:b5 K (lw B bg) H d v):b5 K (d5 B bg) H d v:=ya a.AtoB d v b h
def oU(i:Nat)(e f g:FD):G:=λδ β=>match g (gs δ) β with
 |some (.ok d,β1)=>match e (gs δ) β1 with
  |some (.ok (.int ka),β2)=>match f (gs δ) β2 with
   |some (.ok (.int kb),β3)=>match δ.getD i OD with
    |some (.grd ac)=>match m_ ac.length ka with
     |some a=>match ac[a]? with
      |some b=>match m_ b.length kb with
       |some c=>if noL d=OK then on (.nx<|δ.set i<|on<|.grd<|ac.set a<|b.set c d,β3)else OD
       |none=>OD
      |none=>OD
     |none=>OD
    |_=>OD
   |_=>OD
  |_=>OD
 |_=>OD
theorem vJ(h:PS X st<|kY (tV X.K fv E)<|Mx (YH (pS X.K) (pF i)<|tV X.K fa E) (tV X.K fb E) qK):PS X st (tG X.K X.H₀ (oU i fa fb fv) E):=h.imp λD σ H h_=>by
 obtain⟨B,bg,δ,β,o,P,ok,e,q⟩:=h_;refine⟨lw B bg,gs δ,β,ok.frA,ok.viewA,?_⟩;unfold oU at e;split at e
 .rename_i d β1 e1
  refine⟨.ok d,_,e1,λv H1 t1 c=>?_⟩;obtain⟨f,s1⟩:=ok.to rfl t1;split at e
  .rename_i ka β2 e2
   split at e
   .rename_i kb β3 e3
    split at e
    .rename_i ac Q
     split at e
     .rename_i ja ea
      split at e
      .rename_i ds er
       split at e
       .rename_i jb eb
        split at e
        .rename_i R
         cases e;have c:=f.noB R c;obtain⟨w,N,a,rs,rfl,hB,ha,nd,rl⟩:=f.tell i _<|getD_some Q;refine⟨_,N,lw B bg,gs δ,β1,f.frA,f.viewA,.ok<|.int ka,β2,e2,λy H2 t2 hy=>?_⟩;cases hy;obtain⟨j,S⟩:=f.to (F:=lw B bg) rfl t2;obtain⟨w2,s,a2,g,ew,k,m,aa,n⟩:=j.tell i _<|getD_some Q;rw[N]at s;cases s;cases ew;obtain⟨r,xs,T,hp,hx,dl⟩:=n.at er;refine⟨a,g.map V.ref,ka,.ref r,rfl,rfl,eg.of m,?_,?_⟩
         .unfold p0
          rw[OC,<-n.len,ea];show(g.map V.ref)[ja]?=_;rw[OI,T];rfl
         .refine⟨lw B bg,gs δ,β2,j.frA,j.viewA,.ok<|.int kb,_,e3,λz x t3 hz=>?_⟩
          cases hz;obtain⟨p,s3⟩:=j.to (F:=lw B bg) rfl t3;obtain⟨w3,h3,a3,t,U,W,u,Y,A⟩:=p.tell i _<|getD_some Q;rw[N]at h3;cases h3;cases U;have Z:g=t:=by
           have O:x a=on (.lst<|g.map V.ref):=t3.kp a _ m (λb l y=>⟨λw=>(by subst w;rw[(ok.bgt _ _ y).1]at k;cases k),λw=>(by subst w;rw[(ok.bgt _ _ y).2]at k;cases k)⟩);rw[u]at O;have k2:t.map V.ref=g.map V.ref:=by injection O with O;injection O
           exact(Ub (λa b q=>by cases q;rfl)|>.mp k2).symm
          subst Z;obtain⟨r',C,I,ab,J,L⟩:=A.at er;rw[T]at I;cases I;have G:b5 X.K (d5 B bg) x d v:=b5.tr (s3.tr) _ _<|b5.tr (S.tr) _ _ c;refine⟨r,C,kb,jb,rfl,rfl,J,by rw[<-L.length];exact eb,?_⟩;obtain⟨M,s4⟩:=p.writeRow (ds:=ds.set jb d) (xs:=C.set jb v) N W u Y A T J<|ba.set jb L G;exact q _ _ _ (s1.trans<|S.trans<|s3.trans s4) M
        .cases e
       .cases e
      .cases e
     .cases e
    .cases e
   .cases e
  .cases e
 .cases e
variable{e:Expr}{z:List Expr}
def o2(c:D->D->a0B)(f g:FD):FL:=λδ=>M.bind (f δ) λa=>M.bind (g δ) λb=>M.ofO<|c a b
noncomputable def ZN(K:Pa)(l:ON):It:=
 ⟨λi H=>∃a x,eg K H l a/\a[i]?=on x,
  λi H v u=>∃p x,H p=OD/\v= .ref p/\u=upd H p (.tup [.int (i:Int),x])/\∀a,eg K H l a->a[i]?=on x,
  λi H=>∃a,eg K H l a/\a.length=i⟩
theorem BF{P:Py}{w:PD}{K:Pa}{x1}{pos:TF}(l e a:ON)(t:e≠a):
  ml P w K (.Tuple elts x1 pos) (ZN K l) [e,a] e (λi h=>(∃f,IsEnum h e a (i:Int) f)/\h.IsListIter a l i) where
 mem:=by simp
 obj:=λi h st b j=>by
  obtain⟨⟨f,m⟩,p⟩:=st;simp only[OQ,PV,RB]at j;rcases j with rfl|rfl
  .exact⟨_,m,λv q=>by cases q⟩
  .obtain⟨o,q,_,d⟩:=p
   exact⟨o,q,λv z=>by rw[d]at z;cases z⟩
 keep:=λi h B st k=>by
  obtain⟨⟨f,m⟩,p⟩:=st;exact⟨⟨f,k e (by simp) _ m⟩,p.at λo q=>k a (by simp) o q⟩
 item:=by
  intro X L N O Q i r s σ H E I y st R;subst L N O;obtain⟨S,x,c,T⟩:=R;obtain⟨⟨f,m⟩,p⟩:=st;obtain⟨g,D,U⟩:=b_.src (b:=OK) I c;have G:=I.ok.hd Q;have V:l≠e:=b_.src_ne (b:=OK) I c (y e<|by simp);have W:l≠a:=b_.src_ne (b:=OK) I c (y a<|by simp);have k1:i<g.toArray.size:=by
   rw[O7,<-D.length];exact(OM.mp T).1
  refine wpAny_pyNext_enum_itemD (XI (show(X.A.in1).handled=OD from G) a l W g.toArray) m ⟨p,U⟩ k1 t (by simp[t,V.symm]) λu B Y pu fo f1 fT sz M=>?_;refine⟨_,rfl,wpAny_letOwnedTupleGo_enum (s:={s with heap:=B,toks:=Y+1}) fo λC F J=>?_⟩
  replace J:PL e B C:=J
  have zT:s.heap.objs.size≠e:=RT<|Ph m;obtain⟨u',Z,ru⟩:=D.get T;have eu:u=u':=by
   have:g[i]?=on u:=by simpa using pu
   rw[this]at Z;exact Pn Z
  subst eu;have kk:∀b o,b∉[e,a]->s.heap.get? b=on o->C.get? b=on o:=λb o j q=>by
   simp only[OQ,PV,RB,V0]at j;exact J.extBut b o j.1<|M b o j.1 j.2 q
  have I2:b_ X r σ (upd H s.heap.objs.size<|.tup [.int (i:Int),x]) {s with heap:=C,toks:=Y+1}:=by
   refine b_.turnNew I y kk (OX _) ⟨by show 2<=Pe;decide,[.int i Y,u],.cons ⟨_,rfl⟩<|.cons ru .nil,_,J.extBut _ _ zT fT,rfl,_,rfl⟩
  refine⟨.ref s.heap.objs.size,_,I2,rfl,⟨s.heap.objs.size,x,I.hok.fresh<|OX _,rfl,rfl,λas h1=>by rw[b_.src_inj (b:=OK) I h1 c];exact T⟩,⟨⟨_,by simpa using F⟩,?_⟩,λb j=>?_⟩
  .exact f1.1.at λo q=>J.extBut _ _ t.symm q
  .rw[bb]
   .exact(y b j).1
   .intro q
    have ol:∃o,s.heap.get? b=on o:=by
     simp only[OQ,PV,RB]at j;rcases j with rfl|rfl
     .exact⟨_,m⟩
     .obtain⟨o,z,_⟩:=p;exact⟨o,z⟩
    obtain⟨o,z⟩:=ol;exact Pf (Ph z) (by rw[q];exact P6 _)
 done:=by
  intro X L N O Q i r s σ H E I y st R;subst L N O;obtain⟨S,c,hl⟩:=R;obtain⟨⟨f,m⟩,p⟩:=st;obtain⟨g,D,U⟩:=b_.src (b:=OK) I c;have G:=I.ok.hd Q;have W:l≠a:=b_.src_ne (b:=OK) I c (y a<|by simp);have g1:g.toArray.size=i:=by rw[O7,<-D.length,hl]
  refine wpAny_pyNext_enum_endD (n:=g.toArray.size) (XI (show(X.A.in1).handled=OD from G) a l W g.toArray) m (by rw[g1];exact⟨p,U⟩) λB M=>⟨rfl,?_⟩;refine b_.turnL (t':=s.toks) I y λb o j q=>?_;simp only[OQ,PV,RB,V0]at j;exact M b o j.2 q
 self:=λ_ _ _ _ _ st h=>by
  obtain⟨⟨f,m⟩,p⟩:=st;exact wpAny_pyIter_enum m h
def iEn(K:Pa)(g:TA):TI:=λσ H R=>g σ H λa f=>∃l b,a=[.ref l]/\eg K f l b/\R (ZN K l) f
theorem Je{a:Expr}{p pos:TF}{J}(o:Gl X "enumerate")(z:X.mg "enumerate"=OD)(B:PA X [a] L)(D:O1 [a] X.env=[(OO,Qh a X.env)]:=by rfl):
  PI X (.Tuple x J F) (.Call (.Name "enumerate" p) [a] [] pos) (iEn X.K L):=by
 intro f s σ H R I h;refine Call_ (ij I o z Boot.«enumerate»<|QJ (dt (B pos f s σ H _ I h) λM g ⟨P,k,j,E,d⟩=>?_) (by rw[D];rfl)<|by rfl);obtain⟨l,S,e,d,q⟩:=d;subst e;cases E with
 |cons r t=>
  cases t;cases r;obtain⟨u,C,v⟩:=b_.src (b:=OK) j d;refine call_enumerate_list v λw m y V G=>?_;refine wpAny_pyIter_enum (s:={g with heap:=w}) m ?_;have A:b_ X f σ k {g with heap:=w}:=j.kept (t':=g.toks) G;refine⟨_,[g.heap.objs.size+1,g.heap.objs.size],_,ZN X.K l,k,rfl,A,BF l (g.heap.objs.size+1) g.heap.objs.size<|Nat.succ_ne_self _,⟨⟨_,m⟩,y⟩,λc n=>?_,q⟩;have i:g.heap.objs.size<=c:=by
   simp only[OQ,PV,RB]at n;rcases n with rfl|rfl
   .exact Rj _ _
   .exact OX _
  exact j.fpOk i<|j.hok.fresh i
noncomputable def cm:Nat->a0e->a0e
 |_,[]=>[]
 |n,x::xs=> .tup [.int (n:Int),x]::cm (n+1) xs
theorem jd:∀(n:Nat) (a:a0e),(cm n a).length=a.length
 |_,[]=>rfl
 |n,x::a=>by
  show(cm (n+1) a).length+1=a.length+1;rw[jd (n+1) a]
theorem nG:∀{n:Nat} {b:a0e} {i:Nat} {d:D},(cm n b)[i]?=on d->∃x,b[i]?=on x/\d= .tup [.int ((n+i:Nat):Int),x]
 |n,[],i,d,h=>by simp[cm]at h
 |n,x::b,0,d,h=>by
  simp[cm]at h;exact⟨x,rfl,by rw[<-h];simp⟩
 |n,x::b,i+1,d,h=>by
  have c:(cm (n+1) b)[i]?=on d:=by simpa[cm]using h
  obtain⟨a,f,g⟩:=nG c;exact⟨a,by simpa using f,by rw[g,show n+1+i=n+(i+1) by lia]⟩
def Ik:a0e->a0B
 |[.lst xs]=>on<|cm 0 xs
 |_=>OD
theorem GP{H:Hp}(o:∀g f,Tr F H g f->∃a,eg K f l a/\ba K g f s a):t_ K (ZN K l) F H (cm 0 s):=λg f c t fr i=>by
 obtain⟨a,h,b⟩:=o g f t;refine⟨λd e=>?_,λj=>?_⟩
 .obtain⟨x,q,rfl⟩:=nG e
  obtain⟨u,k,w⟩:=b.get q;refine⟨⟨a,u,h,k⟩,λz y r=>?_⟩;obtain⟨p,A,m,rfl,rfl,v⟩:=r;have n:=v a h;rw[k]at n;cases n;rw[Qi];exact⟨bY.upd m,b5.newT fr m<|ba.cons rfl<|ba.cons w ba.nil⟩
 .rw[jd]at j
  exact⟨a,h,by rw[<-b.length,j]⟩
def zx(g:FL):FL:=cJ Ik g
theorem il{a:Expr}{p pos:TF}{I}(q:Gl X "enumerate")(c:X.mg "enumerate"=OD)(d:PA X [a]<|hX X.K g E)(w:O1 [a] X.env=[(OO,Qh a X.env)]:=by rfl):
  PI X (.Tuple s I x) (.Call (.Name "enumerate" p) [a] [] pos) (iV X.K (zx g) E):=
 (Je q c d w).imp λσ H R j=>j2 j λF δ β fr r h=>⟨F,δ,β,fr,r,(run.bind (R:=ba X.K F) h).mono λS f j=>by
  obtain⟨V,B,t,D,G⟩:=j;obtain⟨l,e,k⟩:=run.ofO G;unfold Ik at e;split at e
  .rename_i xs
   cases e;obtain⟨v,rfl,o⟩:=ba.one D;have z:∃a,v= .ref a/\∀m i,Tr F f m i->∃b,eg X.K i a b/\ba X.K m i xs b:=by
    obtain⟨a,b,rfl,_⟩:=b5.sqL o;refine⟨a,rfl,λm i u=>?_⟩;obtain⟨C,n,y,M,dl⟩:=b5.sqL<|b5.tr u _ _ o;cases y;exact⟨n,M,dl⟩
   obtain⟨a,rfl,z⟩:=z;obtain⟨P,A,_⟩:=z F f<|Tr.refl F f;exact⟨a,P,rfl,A,k _ f (To.refl t.fr)<|GP z⟩
  .cases e⟩
def db(K:Pa)(g:Pd)(b:a0h)(h:a0e):Prop:=∃a f,dH K g b a/\aB f a/\∀F H,ba K F H h f
inductive Sr (α:Type) where
 |kw (j:Nat)|df (a:α)
noncomputable def Sr.pick{b:Type}(z:b)(f:List b):Sr b->b
 | .kw j=>f.getD j z
 | .df a=>a
def gK{a:Type}(z:a)(n k:Nat)(b:List<|Sr a)(c f:List a):List a:=if c.length=n/\f.length=k then c++b.map (Sr.pick z f)else[]
inductive lk {α γ:Type} (R:α->γ->Prop):List (Sr α)->List (Sr γ)->Prop where
 |nil:lk R [] []
 |kw {j:Nat} {a:List (Sr α)} {c:List (Sr γ)}:lk R a c->lk R (.kw j::a) (.kw j::c)
 |df {x:α} {y:γ} {a:List (Sr α)} {c:List (Sr γ)}:R x y->lk R a c->lk R (.df x::a) (.df y::c)
theorem aB.getD:∀{f:a0i} {g:a0g} (j:Nat),aB f g->aR (f.getD j .non) (g.getD j .none)
 |_,_,_,.nil=>rfl
 |_,_,0,.cons r _=>r
 |_,_,j+1,.cons _ t=>aB.getD j t
theorem lk.vals(r:aB zs ws):∀{a:List (Sr V)} {c:List (Sr OP)},lk aR a c->aB (a.map<|Sr.pick .non zs) (c.map<|Sr.pick .none ws)
 |_,_,.nil=> .nil
 |_,_,.kw (j:=j) h=> .cons (aB.getD j r)<|lk.vals r h
 |_,_,.df q h=> .cons q<|lk.vals r h
theorem ba.getD{K:Pa}{H:Hp}:∀{ds:a0e} {f:a0i} (j:Nat),ba K F H ds f->b5 K F H (ds.getD j .non) (f.getD j .non)
 |[],f,j,h=>by have q:f=[]:=h;subst q;rfl
 |d::ds,f,0,h=>by
  obtain⟨x,r,e,g,i⟩:=h;subst e;exact g
 |d::ds,f,j+1,h=>by
  obtain⟨x,r,e,g,i⟩:=h;subst e;exact ba.getD j i
theorem lk.den{K:Pa}{H:Hp}(r:ba K F H f zs):∀{a:List (Sr D)} {c:List (Sr V)},lk (λd v=>∀F H,b5 K F H d v) a c->ba K F H (a.map<|Sr.pick .non f) (c.map<|Sr.pick .non zs)
 |_,_,.nil=>ba.nil
 |_,_,.kw (j:=j) h=>ba.cons (ba.getD j r)<|lk.den r h
 |_,_,.df q h=>ba.cons (q F H)<|lk.den r h
theorem lk.len{b f:Type}{R:b->f->Prop}:∀{a:List (Sr b)} {c:List (Sr f)},lk R a c->a.length=c.length
 |_,_,.nil=>rfl
 |_,_,.kw h=>by rw[O4,O4,lk.len h]
 |_,_,.df _ h=>by rw[O4,O4,lk.len h]
structure B6 (K:Pa) (fd:Pd) (ps ks:a0h) (n:Nat) (src:List<|Sr D):Prop where
 ex:∃(sv:List<|Sr OP) (sx:List<|Sr V),lk aR sx sv/\lk (λd v=>∀F H,b5 K F H d v) src sx/\∀(s:OT) (us ws:a0g),K.In s.heap->us.length=n->ws.length=ks.length->VC s fd ⟨us,ks.zip ws⟩ (ps.zip<|us++sv.map (Sr.pick .none ws))
 len:ps.length=n+src.length
 pos:0<ps.length
theorem B6.kb{K:Pa}{e a:a0h}(h:B6 K p e a n src):∃(c:List<|Sr OP) (f:List<|Sr V),lk (λd v=>∀F H,b5 K F H d v) src f/\B9 K p e a (gK .none n a.length c) (gK .non n a.length f):=by
 obtain⟨c,f,w,l,b⟩:=h.ex;refine⟨c,f,l,λs u k m g=>?_,λ{z u o k} i j=>?_⟩
 .unfold gK at g⊢
  split at g
  .rename_i q
   rw[OS q];exact b s u k m q.1 q.2
  .exact Pf g (by have:=h.pos;simp;lia)
 .unfold gK
  by_cases q:z.length=n/\o.length=a.length
  .rw[OS q,OS<|by rw[<-i.length,<-j.length];exact q]
   exact i.append<|lk.vals j w
  .rw[OR q,OR<|by rw[<-i.length,<-j.length];exact q]
   exact .nil
variable{p c:TF}{x:PP}{k n:Nat}{f:ON}{d:Pd}{a h:a0h}{b:a0Z}{B:Option PP}
def MC(m:a0e->M D)(g:FL)(h:a0e):FD:=λδ=>M.bind (g δ) λa=>m<|a++h
theorem IF{h:a0e}(G:fw X.prog X.w X.K X.mg X.base (hE X.prog X.w) k f d a<|Ic X.K n m)(y:dv k X.A)(I:Gl X x)(S:X.mg x=on (.ref f))(J:UF X.K (.ref f)=OK)(L:db X.K d a h)(N:dT (hE X.prog X.w) X E)
  (V:PA X (e::z)<|hX X.K g E) (s:∀δ β r P,g δ β=on (.ok r,P)->r.length+h.length=n) (i:b0c x:=by decide) (O:b0a X e z:=by rfl) (j:b0b X pos z:=by rfl):
  PE X (.Call (.Name x p) (e::z) [] pos) (tV X.K (MC m g h) E):=by
 obtain⟨ds,T,b,U,B⟩:=L;refine(oA G y I S J b U N V i O j).imp λσ H Q W=>j2 W λF δ β fr Y r=>⟨F,δ,β,fr,Y,?_⟩;obtain⟨D,l,u,v⟩:=run.bind (R:=ba X.K F) r;refine⟨D,l,u,?_⟩;cases D with
 |error C=>exact v
 |ok as=>
  intro vs o t M;obtain⟨d',c,Z,q,r1⟩:=v vs o t M;have hl:=s _ _ _ _ u;have hz:=(B F o).length;refine⟨by rw[O8,<-M.length,<-hz,hl],F,d'++h,c,Z.fr,ba.append q<|B F o,run.toE r1⟩
theorem Kc:PK X [] (hX X.K az E):=λpos g s σ H Q I h=>by obtain⟨F,δ,β,fr,i,r⟩:=h;exact KY pos g s σ H Q I<|run.ret fr r ba.nil
theorem IB{f:FD}(k:PE X e<|tV X.K f E)(m:PK X b<|hX X.K g E):PK X (⟨B,e,c⟩::b) (hX X.K (ae f g) E):=λpos h s σ H Q I ⟨F,δ,β,fr,j,r⟩=>
 Jc k m pos h s σ H Q I ⟨F,δ,β,fr,j,(run.bind (R:=b5 X.K F) r).mono λv u ⟨d,a,t,n,p⟩=>
  ⟨F,δ,a,t.fr,j.tr<|t.tr fr,(run.bind (R:=ba X.K F) p).mono λx y o=>l0 o λz w l i q=>run.ret l.fr q<|ba.cons (b5.tr (l.tr t.fr) _ _ n) i⟩⟩
theorem sL{b:FL}{δ:Dn}{β a c:Bg}{e d:a0e}(g:j δ β=on (.ok e,a))(h:l9 l m b e (ko q b0 δ) a=on (.ok d,c))(i:d.length<=Pe):cB q b0 j l m b δ β=on (.ok<|.lst d,c):=by
 unfold cB;simp only[g,h,i,P8]
def R_:Nat->D->Prop
 |_,.int _=>True
 |_,.bl _=>True
 |_,.non=>True
 |n+1,.lst xs=>∀x∈xs,R_ n x
 |n+1,.tup xs=>∀x∈xs,R_ n x
 |_,_=>False
theorem Jb:∀(n:Nat) (d:D),R_ n d->∃p,lg d=on p/\p.canLay0=OK/\p.depth<=n+1:=by
 have g:∀(n:Nat) (b:a0e),(∀x∈b,∃p,lg x=on p/\p.canLay0=OK/\p.depth<=n)->∃a,toPs b=on a/\Ta a=OK/\VP a<=n:=by
  intro n b
  induction b with
  |nil=>intro _;exact⟨[],rfl,rfl,by simp[VP]⟩
  |cons x b c=>
   intro h;obtain⟨p,q,r,u⟩:=h x OL;obtain⟨a,j,l,o⟩:=c λy t=>h y<|OF _ t;refine⟨p::a,?_,?_,?_⟩
   .unfold toPs;simp only[q,j]
   .simp[Ta,r,l]
   .simp only[VP];lia
 intro n
 induction n with
 |zero=>
  intro d h;cases d with
  |int i=>exact⟨.int i,rfl,rfl,by simp[SA]⟩
  |bl i=>exact⟨.bool i,rfl,rfl,by simp[SA]⟩
  |non=>exact⟨.none,rfl,rfl,by simp[SA]⟩
  |_=>exact h.elim
 |succ n c=>
  intro d h;cases d with
  |int i=>exact⟨.int i,rfl,rfl,by simp[SA]⟩
  |bl i=>exact⟨.bool i,rfl,rfl,by simp[SA]⟩
  |non=>exact⟨.none,rfl,rfl,by simp[SA]⟩
  |lst b=>
   obtain⟨a,j,l,o⟩:=g (n+1) b λx m=>c x<|h x m;exact⟨.list a,by unfold lg;simp[j],by simp[T1,l],by simp only[SA];lia⟩
  |tup b=>
   obtain⟨a,j,l,o⟩:=g (n+1) b λx m=>c x<|h x m;exact⟨.tuple a,by unfold lg;simp[j],by simp[T1,l],by simp only[SA];lia⟩
  |_=>exact h.elim
theorem gT{d:D}(n:Nat)(h:R_ n d)(a:n<=60):gF d=OK:=by
 obtain⟨p,g,i,j⟩:=Jb n d h;unfold gF;simp only[g,TW,i,RV,PR];lia
def Gw(g:G)(δ:Ds)(β:Bg)(Q:a0A):Prop:=∃o P,g δ β=on (o,P)/\Q o P
end
section
variable{g h a b u p:G}{δ δ1:Ds}{β β1 β2 β3:Bg}{Q R:a0A}{i:Nat}{f q s v:FD}{fl:FL}{j:Dn->M a0r}{d x y z:D}{ds as:a0e}{t:a0p}{c:Bool}{C:ON}{K:Pa}
theorem Gw.mono(k:Gw g δ β R)(q:∀o β,R o β->Q o β):Gw g δ β Q:=let ⟨o,β',e,r⟩:=k;⟨o,β',e,q _ _ r⟩
theorem IT:aW g gNil=g:=by
 funext δ β;unfold aW gNil;split
 .rename_i δ1 β1 e;exact e.symm
 .rfl
theorem am(k:Gw (aW g gNil) δ β Q):Gw g δ β Q:=by rw[IT]at k;exact k
theorem aY(q:Q (.nx δ) β):Gw gNil δ β Q:=⟨_,_,rfl,q⟩
theorem f7(e:g δ β=on (.nx δ1,β1))(k:Gw h δ1 β1 Q):Gw (aW g h) δ β Q:=by
 obtain⟨o,j,l,q⟩:=k;exact⟨o,j,by unfold aW;rw[e];exact l,q⟩
theorem aU(k:Gw h δ β Q):Gw (aW gNil h) δ β Q:=f7 rfl k
theorem aE(e:f (vw δ) β=on (.ok d,β1))(k:Gw h (δ.set i<|on<|.sh d) β1 Q):Gw (aW (eY i f) h) δ β Q:=f7 (by unfold eY;rw[e]) k
theorem jN(e:f (gs δ) β=on (.ok d,β1))(k:Gw h δ β1 Q):Gw (aW (rn f) h) δ β Q:=f7 (by unfold rn;rw[e]) k
theorem jM(e:t (gs δ) β=on (.ok c,β1))(k:Gw (aW (if c=OK then u else p) h) δ β1 Q):Gw (aW (L1 t u p) h) δ β Q:=by
 obtain⟨o,j,l,q⟩:=k;refine⟨o,j,?_,q⟩;rw[<-l];unfold aW L1;rw[e];cases c<;>rfl
theorem bP(e:t (gs δ) β=on (.ok OO,β1))(k:Gw (aW p h) δ β1 Q):Gw (aW (L1 t u p) h) δ β Q:=jM e k
theorem aO(e:f (gs δ) β=on (.ok d,β1))(q:Q (.rt d) β1):Gw (aW (kg f) h) δ β Q:=⟨_,_,by unfold aW kg;rw[e],q⟩
theorem IA(e:j (vw δ) β=on (.ok k,β1))(q:Q (.rg k) β1):Gw (aW (nF j) h) δ β Q:=⟨_,_,by unfold aW nF;rw[e],q⟩
theorem yN{ac:a0r}(e:j (vw δ) β=on (.ok ac,β1))(a:ac.all noLs=OK)(k:Gw h (δ.set i<|on<|.grd ac) β1 Q):Gw (aW (sH i j) h) δ β Q:=f7 (by unfold sH;simp only[e,a,P8]) k
theorem Hv{ac:a0r}(e:v (gs δ) β=on (.ok d,β1))(j:q (gs δ) β1=on (.ok<|.int ka,β2))(l:s (gs δ) β2=on (.ok<|.int kb,β3))(m:δ.getD i OD=on (.grd ac))
  (n:m_ ac.length ka=on ja) (o:ac[ja]?=on ds) (p:m_ ds.length kb=on jb) (a:noL d=OK) (k:Gw h (δ.set i<|on<|.grd<|ac.set ja<|ds.set jb d) β3 Q):Gw (aW (oU i q s v) h) δ β Q:=
 f7 (by unfold oU;simp only[e,j,l,m,n,o,p,a,P8]) k
theorem kz(e:fl (vw δ) β=on (.ok ds,β1))(j:ds.length<=Pe)(k:Gw h (δ.set i<|on<|.own ds) β1 Q):Gw (aW (wC i fl) h) δ β Q:=f7 (by unfold wC;simp only[e,j,P8]) k
theorem jx{cs:a0e}(j:δ.getD i OD=on (.own cs))(e:fl (vw δ) β=on (.ok [d],β1))(l:cs.length<Pe)(k:Gw h (δ.set i<|on<|.own<|cs++[d]) β1 Q):Gw (aW (sI i fl) h) δ β Q:=
 f7 (by unfold sI;simp only[j,e,l,P8]) k
theorem qm(e:f (vw δ) β=on (.ok d,β1))(j:tg d δ=on δ1)(k:Gw h δ1 β1 Q):Gw (aW (AA f tg) h) δ β Q:=f7 (by unfold AA;simp only[e,j,QI]) k
def Tn(I:Ds->Bg->Prop)(h:G)(Q:a0A):p3->Bg->Prop:=λo β=>match o with
 | .nx δ=>I δ β
 | .ct δ=>I δ β
 | .bk δ=>Gw h δ β Q
 |o=>Q o β
theorem bH(e:it δ β=on (.ok ds,β1))(u:Nat->Ds->Bg->Prop)(N:u 0 δ β1)(b:∀i d δ β,ds[i]?=on d->u i δ β->∃δ1,tg d δ=on δ1/\Gw g δ1 β (Tn (u<|i+1) h Q))(k:∀δ β,u ds.length δ β->Gw h δ β Q):
  Gw (aW (rm it tg g) h) δ β Q:=by
 have c:∀(a:a0e) (j:Nat) (δ:Ds) (β:Bg),a=ds.drop j->j+a.length=ds.length->u j δ β->Gw (aW (nS tg g a) h) δ β Q:=by
  intro a
  induction a with
  |nil=>
   intro j δ β _ B F;simp at B;exact f7 (g:=nS tg g []) rfl<|k δ β<|B▸F
  |cons d a s=>
   intro j δ β L B F;have O:ds[j]?=on d:=by
    have:=Qr (λl=>l[0]?) L;simpa[X8]using this.symm
   obtain⟨δ1,v,o,β2,A,q⟩:=b j d δ β O F;have H:a=ds.drop (j+1):=by
    have:=Qr List.tail L;simpa[List.tail_drop]using this
   have f:∀m,u (j+1) m β2->Gw (aW (nS tg g a) h) m β2 Q:=λm I=>s (j+1) m β2 H (by simp at B;lia) I;have n:∀{r:G} {m:Ds},Gw (aW r h) m β2 Q->nS tg g (d::a) δ β=r m β2->Gw (aW (nS tg g<|d::a) h) δ β Q:=λ{r m} ⟨T,p,J,U⟩ W=>⟨T,p,by rw[<-J];unfold aW;rw[W],U⟩;cases o with
   |nx m=>exact n (r:=nS tg g a) (f m q) (by rw[nS];simp only[v,A])
   |ct m=>exact n (r:=nS tg g a) (f m q) (by rw[nS];simp only[v,A])
   |bk m=>exact n (r:=gNil) (aU q) (by rw[nS];simp only[v,A];rfl)
   |rt d'=>exact⟨_,β2,by unfold aW;rw[nS];simp only[v,A],q⟩
   |rg d'=>exact⟨_,β2,by unfold aW;rw[nS];simp only[v,A],q⟩
   |ex C m=>exact⟨_,β2,by unfold aW;rw[nS];simp only[v,A],q⟩
 obtain⟨o,p,J,q⟩:=c ds 0 δ β1 (by simp) (by simp) N;refine⟨o,p,?_,q⟩;rw[<-J];unfold aW rm;rw[e]
theorem iq{S:Except ON D->Bg->Prop}(k:Gw g (nw n ds) β (λo j=>match o with| .rt d=>S (.ok d) j| .nx _=>S (.ok .non) j| .ex C _=>S (.error C) j|_=>False)):∃r j,gG n g ds β=on (r,j)/\S r j:=by
 obtain⟨o,j,e,q⟩:=k;cases o with
 |rt d=>exact⟨.ok d,j,by unfold gG;rw[e],q⟩
 |nx δ=>exact⟨.ok .non,j,by unfold gG;rw[e],q⟩
 |ex C δ=>exact⟨.error C,j,by unfold gG;rw[e],q⟩
 |_=>exact q.elim
theorem J3{S:a0r->Bg->Prop}(k:Gw g (nw n ds) β (λo j=>match o with| .rg d=>S d j|_=>False)):∃r j,o4 n g ds β=on (.ok r,j)/\S r j:=by
 obtain⟨o,j,e,q⟩:=k;cases o with
 |rg d=>exact⟨d,j,by unfold o4;rw[e],q⟩
 |_=>exact q.elim
theorem aK(k:Gw g (nw n ds) β (λo j=>j=β/\(match o with| .rt d=>r= .ok d| .nx _=>r= .ok .non| .ex C _=>r= .error C|_=>False))):gG n g ds β=on (r,β):=by
 obtain⟨l,j,e,a,b⟩:=iq (S:=λl j=>j=β/\r=l) (n:=n) (ds:=ds) (β:=β) (k.mono λo j h=>by
  cases o<;>first|exact h|exact h.2)
 subst a b;exact e
theorem J4(k:Gw g (nw n ds) β (λo j=>j=β/\(match o with| .rg d=>r=d|_=>False))):o4 n g ds β=on (.ok r,β):=by
 obtain⟨l,j,e,a,b⟩:=J3 (S:=λl j=>j=β/\r=l) (n:=n) (ds:=ds) (β:=β) (k.mono λo j h=>by
  cases o<;>first|exact h|exact h.2)
 subst a b;exact e
theorem ak{δ:Dn}(e:fl δ β=on (.ok as,β1))(j:m as β1=on r):bK m fl δ β=on r:=by unfold bK M.bind;rw[e];exact j
theorem Iy{δ:Dn}(e:fl δ β=on (.ok as,β1))(j:m as β1=on r):wM m fl δ β=on r:=by unfold wM M.bind;rw[e];exact j
theorem cc{δ:Dn}(e:q δ β=on (.ok x,β1))(j:s δ β1=on (.ok y,β2))(k:op x y=on z):f2 op q s δ β=on (.ok z,β2):=by unfold f2 M.bind;rw[e];simp only[j,M.ofO,k]
theorem ZO{δ:Dn}(e:q δ β=on (.ok x,β1))(j:op x=on z):f1 op q δ β=on (.ok z,β1):=by unfold f1 M.bind;rw[e];simp only[M.ofO,j]
theorem ai{δ:Dn}(e:fl δ β=on (.ok as,β1))(j:op as=on z):aV op fl δ β=on (.ok z,β1):=by unfold aV M.bind;rw[e];simp only[M.ofO,j]
theorem aa{δ:Dn}(e:q δ β=on (.ok x,β1))(j:fl δ β1=on (.ok as,β2)):ae q fl δ β=on (.ok<|x::as,β2):=by unfold ae M.bind;rw[e];simp only[j,M.ret]
theorem bQ{δ:Dn}(e:fl δ β=on (.ok as,β1))(j:op as=on ds):cJ op fl δ β=on (.ok ds,β1):=by unfold cJ M.bind;rw[e];simp only[j,M.ofO]
theorem cL{δ:Dn}(e:q δ β=on (.ok x,β1))(j:gy x=on ds):cQ q δ β=on (.ok ds,β1):=by unfold cQ M.bind;rw[e];simp only[j,M.ofO]
theorem et{δ:Dn}(e:q δ β=on (.ok<|.bl c,β1)):fB q δ β=on (.ok c,β1):=by unfold fB M.bind;rw[e];rfl
theorem c7{δ:Dn}(e:q δ β=on (.ok x,β1))(j:FM x=on c):AF q δ β=on (.ok c,β1):=by unfold AF M.bind;rw[e];simp only[M.ofO,j]
theorem c8{δ:Dn}(e:t δ β=on (.ok c,β1)):AH t δ β=on (.ok<|!c,β1):=by unfold AH M.bind;rw[e];rfl
theorem bM(a:β.ok)(k:0<lot)(l:lot<1073741824):∃v e,cU [.bag,.int lot] β=on (.ok<|.int v,e)/\0<=v/\v<lot/\e.ok:=by
 obtain⟨m,b,j⟩:=xS a k;exact⟨_,_,Gx a k l,m,b,j⟩
theorem j8{n:Nat}{k:Int}(e:0<=k)(j:k<n):m_ n k=on k.toNat:=by unfold m_;rw[OS e,OS j]
theorem wo{k:Int}{d:D}(e:0<=k)(h:l[k.toNat]?=on d):gt (.lst l) (.int k)=on d:=by
 have j:k.toNat<l.length:=(OM.mp h).1;show p0 l k=on d;unfold p0;rw[j8 e<|by lia];exact h
theorem ix0{x:D}:gt (.lst<|x::e) (.int 0)=on x:=wo (by decide) rfl
theorem sC{x y:D}:gt (.tup [x,y]) (.int 0)=on x:=rfl
theorem wn{x y:D}:gt (.tup [x,y]) (.int 1)=on y:=rfl
end
section
variable{β β1 β2:Bg}{f g h i:FD}{t u:a0p}{δ:Dn}{c e:Bool}{x y z w:Int}{d:D}
theorem cj(a:t δ β=on (.ok OO,β1))(b:u δ β1=on (.ok e,β2)):AG t u δ β=on (.ok e,β2):=by
 unfold AG M.bind;rw[a];simp[b]
theorem Iu(a:f δ β=on (.ok<|.bl OK,β1))(b:g δ β1=on (.ok d,β2)):sK f g δ β=on (.ok d,β2):=by
 unfold sK M.bind;rw[a];simp[asB,M.ofO,b]
theorem Ix(a:f δ β=on (.ok<|.bl OO,β1)):sK f g δ β=on (.ok<|.bl OO,β1):=by
 unfold sK M.bind;rw[a];simp[asB,M.ofO,M.ret]
theorem Iw(a:f δ β=on (.ok<|.bl c,β))(b:g δ β=on (.ok<|.bl e,β)):sK f g δ β=on (.ok<|.bl<|c&&e,β):=by
 cases c
 .exact Ix a
 .exact Iu a b
theorem le_int:U_ (.int x) (.int y)=on (.bl<|decide (x<=y)):=rfl
theorem lt_int:S_ (.int x) (.int y)=on (.bl<|decide (x<y)):=rfl
theorem gt_int:gtD (.int x) (.int y)=on (.bl<|decide (y<x)):=rfl
theorem ge_int:geD (.int x) (.int y)=on (.bl<|decide (y<=x)):=rfl
theorem n6(a:f δ β=on (.ok<|.int x,β))(b:g δ β=on (.ok<|.int y,β))(j:h δ β=on (.ok<|.int z,β)):lM U_ U_ f g h δ β=on (.ok<|.bl<|decide (x<=y)&&decide (y<=z),β):=by
 unfold lM M.bind;rw[a];simp only[b,le_int,M.ofO,asB];by_cases q:x<=y
 .simp only[q,decide_true,P8,j,le_int,RV]
 .simp only[q,XW,Pb,Qe,M.ret,Tc]
theorem Fy(a:f δ β=on (.ok<|.int x,β))(b:g δ β=on (.ok<|.int y,β))(j:h δ β=on (.ok<|.int z,β))(k:i δ β=on (.ok<|.int w,β)):oZ U_ U_ U_ f g h i δ β=on (.ok<|.bl<|decide (x<=y)&&decide (y<=z)&&decide (z<=w),β):=by
 unfold oZ Ij M.bind;rw[a];simp only[b,le_int,M.ofO,asB];by_cases q:x<=y
 .simp only[q,decide_true,P8,j,le_int,RV]
  by_cases c:y<=z
  .simp only[c,decide_true,P8,k,le_int,RV]
  .simp only[c,XW,Pb,Qe,M.ret,Tc]
 .simp only[q,XW,Pb,Qe,M.ret,Tc]
theorem M0{g h:G}{δ:Ds}{β:Bg}(P:Ds->Bg->Prop)(a:Gw g δ β (λo β1=>∃c,o= .nx c/\P c β1))(b:∀c β1,P c β1->Gw h c β1 Q):Gw (aW g h) δ β Q:=by
 obtain⟨o,β1,e,c,rfl,p⟩:=a;exact f7 e<|b c β1 p
theorem BB{δ:Ds}{β:Bg}{P:Ds->Bg->Prop}(p:P δ β):Gw gNil δ β (λo β1=>∃c,o= .nx c/\P c β1):=aY ⟨_,rfl,p⟩
noncomputable abbrev gI(ac:LI):a0r:=ac.map λr=>r.map D.int
noncomputable abbrev lG(c:a0r):D:= .lst<|c.map D.lst
abbrev ao(ac:LI):D:=lG<|gI ac
noncomputable def pD(p:Int×Int):D:= .tup [.int p.1,.int p.2]
abbrev gP(b:LP):a0r:=b.map λr=>r.map pD
abbrev dE(b:LP):D:=lG<|gP b
def d4{e:Type}(r c:Nat)(m:List<|List e):Prop:=m.length=r/\∀d∈m,d.length=c
noncomputable def tot(ac:LI):Int:=(ac.map P0).sum
theorem bp(h:n<=1000):n<=Pe:=Pl h (by decide)
theorem np:∀r:a0c,noLs (r.map D.int)=OK
 |[]=>rfl
 |x::r=>by
  show(noL (.int x)&&noLs (r.map D.int))=OK;rw[np r];rfl
theorem qS:∀r:a1b,noLs (r.map pD)=OK
 |[]=>rfl
 |x::r=>by
  show(noL (pD x)&&noLs (r.map pD))=OK;rw[qS r];rfl
theorem Lm(ac:LI):(gI ac).all noLs=OK:=by
 rw[Re];intro x a;obtain⟨r,_,rfl⟩:=OZ.mp a;exact np r
theorem Ll(b:LP):(gP b).all noLs=OK:=by
 rw[Re];intro x a;obtain⟨r,_,rfl⟩:=OZ.mp a;exact qS r
theorem d4.map{d a:Type}{f:d->a}{r c:Nat}{m:List (List d)}(h:d4 r c m):d4 r c (m.map λx=>x.map f):=⟨by rw[OC,h.1],λe b=>by
 obtain⟨x,j,rfl⟩:=OZ.mp b;rw[OC];exact h.2 x j⟩
theorem d4.set{d:Type}{r c i j:Nat}{m:List (List d)}{row:List d}{v:d}(h:d4 r c m)(b:m[i]?=on row):d4 r c (m.set i<|row.set j v):=⟨by rw[QC,h.1],λx a=>by
 rcases Ra a with a|rfl
 .exact h.2 x a
 .rw[QC];exact h.2 row<|OW b⟩
theorem d4.at{d:Type}{r c i:Nat}{m:List (List d)}(h:d4 r c m)(b:i<r):∃row,m[i]?=on row/\row.length=c:=by
 have a:i<m.length:=by rw[h.1];exact b
 exact⟨m[i],OE a,h.2 _<|PF a⟩
theorem mz{c:Type}{l:List c}{i:Nat}(h:i<l.length):∃x,l[i]?=on x:=⟨l[i],OE h⟩
theorem k9:∀{c:a0c} {j:Nat} {x v:Int},c[j]?=on x->(c.set j v).sum=c.sum-x+v
 |[],j,x,v,h=>by simp at h
 |y::c,0,x,v,h=>by
  simp at h;subst h;simp only[List.set_cons_zero,Pi];lia
 |y::c,j+1,x,v,h=>by
  have d:c[j]?=on x:=by simpa using h
  simp only[List.set_cons_succ,Pi,k9 d];lia
theorem IH{ac:LI}{i j:Nat}{row:a0c}{x v:Int}(a:ac[i]?=on row)(b:row[j]?=on x):tot (ac.set i<|row.set j v)=tot ac-x+v:=by
 unfold tot;rw[SH,k9 (x:=row.sum) (by rw[OI,a];rfl),k9 b];lia
theorem Ln{ac:LI}{i j:Nat}{row:a0c}(h:∀r∈ac,∀x∈r,0<=x)(k:ac[i]?=on row)(l:0<=v):∀r∈ac.set i (row.set j v),∀x∈r,0<=x:=λr a x b=>by
 rcases Ra a with a|rfl
 .exact h r a x b
 .rcases Ra b with b|rfl
  .exact h row (OW k) x b
  .exact l
theorem mP:∀{xs:a0c},(∀x∈xs,0<=x)->0<=xs.sum
 |[],_=>by simp
 |y::xs,h=>by
  have:=mP (xs:=xs) λx a=>h x<|OF _ a;have:=h y OL;simp only[Pi];lia
theorem wj:∀{xs:a0c},(∀x∈xs,0<=x)->∀x∈xs,x<=xs.sum
 |[],_,x,hx=>by cases hx
 |y::xs,h,x,hx=>by
  have:=mP (xs:=xs) λx hx=>h x<|OF _ hx;have:=h y OL;rcases OQ.mp hx with rfl|hx
  .simp only[Pi];lia
  .have:=wj (xs:=xs) (λx hx=>h x<|OF _ hx) x hx
   simp only[Pi];lia
theorem EE(h:∀r∈m,∀x∈r,0<=x):∀r∈m,∀x∈r,x<=tot m:=λr a x b=>by
 have k:=wj (h r a) x b;have l:=wj (xs:=m.map P0) (λs c=>by
  obtain⟨q,j,rfl⟩:=OZ.mp c;exact mP<|h q j) r.sum<|OZ.mpr ⟨r,a,rfl⟩
 unfold tot;lia
structure D2 (r c:Nat) (ac:LI):Prop where
 shp:d4 r c ac
 nn:∀row∈ac,∀x∈row,0<=x
 tot:tot ac<=40
 r0:1<=r
 r1:r<=4
 c0:1<=c
 c1:c<=6
theorem eB(c:a0c):h9 [.lst<|c.map D.int]=on (.int c.sum):=by
 show((cS<|c.map D.int).map λl=>D.int l.sum)=_;have:∀c:a0c,cS (c.map D.int)=on c:=λc=>by
  induction c with
  |nil=>rfl
  |cons n c d=>simp[cS,d]
 rw[this];rfl
theorem up{n:Int}(a:0<=n)(h:n<=10^9):fS [.int n]=on (bu 0 n.toNat):=by
 have q:(decide (-(2^62)<=n)&&decide (n<2^62))=OK:=by
  simp only[Pr,PR];lia
 show(if(decide (-(2^62)<=n)&&decide (n<2^62))=OK then on (bu 0 n.toNat)else OD)=_;rw[OS q]
theorem zd{d:D}(h:(bu 0 n)[k]?=on d):k<n/\d= .int (k:Int):=by
 unfold bu at h;have a:k<n:=by
  have:=(OM.mp h).1;simpa using this
 rw[OI,QB a]at h;exact⟨a,by cases h;simp⟩
theorem qJ(n:Nat):(bu 0 n).length=n:=by simp[bu]
theorem bo{d:Type}{f:FD}{δ:Dn}{β:Bg}(xs:List d)(u v:d->D)(a:it δ β=on (.ok<|xs.map u,β))
  (b:∀x∈xs,∃c,tg (u x) (ko nv b0 δ)=on c/\f c β=on (.ok<|v x,β)) (j:xs.length<=Pe):cB nv b0 it tg (λ_=>M.ret OK) (js f) δ β=on (.ok<|.lst<|xs.map v,β):=by
 refine sL a ?_ (by rw[OC];exact j);have e:∀xs:List d,(∀x∈xs,∃c,tg (u x) (ko nv b0 δ)=on c/\f c β=on (.ok<|v x,β))->l9 tg (λ_=>M.ret OK) (js f) (xs.map u) (ko nv b0 δ) β=on (.ok<|xs.map v,β):=by
  intro xs
  induction xs with
  |nil=>intro _;rfl
  |cons x xs g=>
   intro h;obtain⟨c,k,l⟩:=h x OL;have m:=g λy n=>h y<|OF _ n;rw[O0,l9];simp only[k,M.bind,M.ret,reduceIte,js,l,m,O0,SE,RM]
 exact e xs b
theorem nM{d:Type}{f:FL}{δ:Dn}{β:Bg}(xs:List d)(u:d->D)(v:d->a0e)(a:it δ β=on (.ok<|xs.map u,β))
  (b:∀x∈xs,∃c,tg (u x) (ko nv b0 δ)=on c/\f c β=on (.ok<|v x,β)) (j:xs.length<=Pe):jc nv b0 it tg (λ_=>M.ret OK) (sP f) δ β=on (.ok<|xs.map v,β):=by
 have e:∀xs:List d,(∀x∈xs,∃c,tg (u x) (ko nv b0 δ)=on c/\f c β=on (.ok<|v x,β))->qg tg (λ_=>M.ret OK) (sP f) (xs.map u) (ko nv b0 δ) β=on (.ok<|xs.map v,β):=by
  intro xs
  induction xs with
  |nil=>intro _;rfl
  |cons x xs g=>
   intro h;obtain⟨c,k,l⟩:=h x OL;have m:=g λy n=>h y<|OF _ n;rw[O0,qg];simp only[k,M.bind,M.ret,reduceIte,sP,l,m,O0,SE,RM]
 unfold jc;simp only[a,e xs b,OC,j,P8]
theorem E7{e:Type}{f:FD}{δ:Dn}{β:Bg}(d:List e)(u:e->D)(v:e->D)(a:it δ β=on (.ok<|d.map u,β))
  (b:∀x∈d,∃c,tg (u x) (ko nv b0 δ)=on c/\f c β=on (.ok<|v x,β)) (j:d.length<=Pe):i9 nv b0 it tg (λ_=>M.ret OK) (js f) δ β=on (.ok<|d.map v,β):=by
 have g:∀d:List e,(∀x∈d,∃c,tg (u x) (ko nv b0 δ)=on c/\f c β=on (.ok<|v x,β))->l9 tg (λ_=>M.ret OK) (js f) (d.map u) (ko nv b0 δ) β=on (.ok<|d.map v,β):=by
  intro d
  induction d with
  |nil=>intro _;rfl
  |cons x d i=>
   intro h;obtain⟨c,k,l⟩:=h x OL;have m:=i λy n=>h y<|OF _ n;rw[O0,l9];simp only[k,M.bind,M.ret,reduceIte,js,l,m,O0,SE,RM]
 unfold i9;simp only[a,g d b,OC,j,P8]
theorem KN{ds:a0e}{c:Nat}(a:ds.length<=Pe)(b:ds.length*c<=Pe)(j:c<=1000000):vN ds (.int (c:Int))=on (Pg c ds).flatten:=by
 have q:(decide (-(2^63)<=(c:Int))&&decide ((c:Int)<2^63)&&decide (ds.length<=Pe)&&decide (ds.length*(c:Int).toNat<=Pe))=OK:=by
  simp only[Pr,PR];exact⟨⟨⟨by lia,by lia⟩,a⟩,by rw[Qu];exact b⟩
 unfold vN;simp only[q,P8];rw[Qu]
theorem wG{d:Type}(x:d):∀c:Nat,(Pg c [x]).flatten=Pg c x
 |0=>rfl
 |c+1=>by rw[QN,RN,wG x c];rfl
theorem Ny{f:FD}{g:FD}{x:D}{c:Nat}{δ:Dn}{β:Bg}(b:f δ β=on (.ok x,β))(j:g δ β=on (.ok<|.int (c:Int),β))(k:c<=1000):zq (ae f az) g δ β=on (.ok<|Pg c x,β):=by
 have a:[x].length<=Pe:=by rw[PX];decide
 have l:[x].length*c<=Pe:=by rw[PX,Nat.one_mul];exact bp k
 have r:=KN (ds:=[x]) (c:=c) a l (by lia);rw[wG]at r;have s:Zq [x]=on [x]:=by
  unfold Zq;rw[OS a]
 have m:ae f az δ β=on (.ok [x],β):=aa b rfl;unfold zq;rw[M.bind_ok m,s,M.bind_some,M.bind_ok j,r];rfl
theorem uo(c:a1a):eM (c.map D.bl)=on c:=by
 induction c with
 |nil=>rfl
 |cons b c d=>simp[eM,d]
theorem any_map{d:Type}(c:List d)(p:d->Bool):xf [.lst<|c.map λx=>D.bl<|p x]=on (.bl<|c.any p):=by
 show(eM _).map _=_;rw[show(c.map λx=>D.bl<|p x)=(c.map p).map D.bl by rw[OU];rfl,uo];simp only[QI,W1];rfl
theorem kR{c:Type}(r:Nat)(x:c):(OV r).map (λ_=>x)=Pg r x:=by rw[List.map_const',Ps]
theorem bG{xs:a0e}(h:xs.length=r):eJ [.lst xs]=on (.int (r:Int)):=by subst h;rfl
theorem ny{ac:a0r}(h:ac.length=r):eJ [lG ac]=on (.int (r:Int)):=bG (by rw[OC,h])
theorem mh{ac:a0r}{k:Nat}{row:a0e}(h:ac[k]?=on row):gt (lG ac) (.int (k:Int))=on (.lst row):=wo (by lia) (by rw[Qu,OI,h];rfl)
theorem cf{xs:a0e}{k:Nat}{d:D}(h:xs[k]?=on d):gt (.lst xs) (.int (k:Int))=on d:=wo (by lia) (by rw[Qu];exact h)
theorem hZ{x y:D}:gC [x,y]=on (.tup [x,y]):=by
 unfold gC;rw[OS (show[x,y].length<=Pe by rw[O4,PX];decide)]
theorem lst0:eX []=on (.lst []):=by
 unfold eX;rw[OS (show([]:a0e).length<=Pe by rw[V6];decide)]
theorem zI{x:D}:eX [x]=on (.lst [x]):=by
 unfold eX;rw[OS (show[x].length<=Pe by rw[PX];decide)]
theorem Gr{x y:Int}:wb [.int x,.int y]=on (.int<|SL x y):=by
 unfold wb;simp only;congr 2;split<;>lia
theorem Lx{x y:Int}:zD [.int x,.int y]=on (.int<|Vi x y):=by
 unfold zD;simp only;congr 2;split<;>lia
theorem eq_int{x y:Int}:dI (.int x) (.int y)=on (.bl<|decide (x=y)):=by rw[Ov]
theorem ne_int{x y:Int}:gh (.int x) (.int y)=on (.bl<|!decide (x=y)):=by rw[Ou]
theorem iI{i:Nat}{d:D}(h:(cm 0 j)[i]?=on d):∃x,j[i]?=on x/\d= .tup [.int (i:Int),x]:=by
 obtain⟨x,b,a⟩:=nG h;rw[Qi]at a;exact⟨x,b,a⟩
theorem bE{c a:Type}{f:c->a}{xs:List c}{i:Nat}{d:a}(h:(xs.map f)[i]?=on d):∃x,xs[i]?=on x/\d=f x:=by
 rw[OI]at h;cases q:xs[i]? with
 |none=>rw[q]at h;cases h
 |some x=>rw[q]at h;exact⟨x,rfl,by cases h;rfl⟩
noncomputable abbrev oV(r c:Nat):LP:=Pg r<|Pg c (0,40)
theorem EX(r c:Nat):d4 r c (oV r c):=⟨by simp,λd h=>by rw[(Rf.mp h).2];simp⟩
noncomputable def vl{d:Type}(m:List<|List d)(i j:Nat):Option d:=(m[i]?).bind λc=>c[j]?
theorem L4{d:Type}{m:List (List d)}{i j k l:Nat}{c:List d}{v x:d}(a:m[i]?=on c)(h:vl (m.set i<|c.set j v) k l=on x):(k=i/\l=j/\x=v)\/(vl m k l=on x/\¬(k=i/\l=j)):=by
 unfold vl at h⊢;rw[QH]at h;by_cases q:i=k
 .subst q
  rw[OS rfl]at h;split at h
  .simp only[Tj]at h
   rw[QH]at h;by_cases w:j=l
   .subst w
    rw[OS rfl]at h;split at h
    .exact .inl ⟨rfl,rfl,(Pn h).symm⟩
    .cases h
   .rw[OR w]at h
    exact .inr ⟨by rw[a];exact h,λz=>w z.2.symm⟩
  .cases h
 .rw[OR q]at h
  exact .inr ⟨h,λz=>q z.1.symm⟩
theorem yH{d:Type}{m:List (List d)}{i j:Nat}{x:d}(h:vl m i j=on x):∃c∈m,x∈c:=by
 unfold vl at h;cases q:m[i]? with
 |none=>rw[q]at h;cases h
 |some c=>rw[q]at h;exact⟨c,OW q,OW h⟩
theorem nW{c:Type}{m:List (List c)}{i j:Nat}{row:List c}{x:c}(a:m[i]?=on row)(b:row[j]?=on x):vl m i j=on x:=by unfold vl;rw[a];exact b
structure oa (p:Int×Int):Prop where
 l:0<=p.1
 m:p.1<=p.2
 h:p.2<=40
def Kp(ac:LI)(b:LP):Prop:=∀i j x p,vl ac i j=on x->vl b i j=on p->p.1<=x/\x<=p.2
structure sB (r c:Nat) (b:LP):Prop where
 shp:d4 r c b
 ok:∀row∈b,∀p∈row,oa p
theorem sB.set{r c i j:Nat}{b:LP}{row:a1b}(h:sB r c b)(l:b[i]?=on row)(m:oa p):sB r c (b.set i<|row.set j p):=⟨h.shp.set l,λq k x a=>by
 rcases Ra k with k|rfl
 .exact h.ok q k x a
 .rcases Ra a with a|rfl
  .exact h.ok row (OW l) x a
  .exact m⟩
theorem sB.free(r c:Nat):sB r c (oV r c):=⟨EX r c,λd b p a=>by
 rw[(Rf.mp b).2]at a;rw[(Rf.mp a).2];exact⟨by decide,by decide,by decide⟩⟩
theorem D2.le40{r c:Nat}(t:D2 r c ac):∀d∈ac,∀x∈d,0<=x/\x<=40:=λd a x b=>⟨t.nn d a x b,by
 have:=EE t.nn d a x b;have:=t.tot;lia⟩
theorem Kp.free{r c:Nat}(t:D2 r c ac):Kp ac (oV r c):=λi j x p k l=>by
 obtain⟨d,m,b⟩:=yH k;obtain⟨q,n,a⟩:=yH l;rw[(Rf.mp n).2]at a;rw[(Rf.mp a).2];exact t.le40 d m x b
theorem Kp.set{b:LP}{i j:Nat}{row:a1b}{p:Int×Int}{x:Int}(h:Kp ac b)(n:b[i]?=on row)(o:vl ac i j=on x)(r:p.1<=x)(v:x<=p.2):Kp ac (b.set i<|row.set j p):=λk l y q a m=>by
 rcases L4 n m with⟨rfl,rfl,rfl⟩|⟨m,_⟩
 .rw[o]at a
  cases a;exact⟨r,v⟩
 .exact h k l y q a m
theorem yA{e:Type}{δ:Dn}{β:Bg}(d:List e)(u:e->D)(o:e->a0e)(a:it δ β=on (.ok<|d.map u,β))
  (j:∀x∈d,∃c,tg (u x) (ko nv b0 δ)=on c/\b c β=on (.ok<|o x,β)) (k:(d.flatMap o).length<=Pe):cB nv b0 it tg (λ_=>M.ret OK) b δ β=on (.ok<|.lst<|d.flatMap o,β):=by
 refine sL a ?_ k;have f:∀d:List e,(∀x∈d,∃c,tg (u x) (ko nv b0 δ)=on c/\b c β=on (.ok<|o x,β))->l9 tg (λ_=>M.ret OK) b (d.map u) (ko nv b0 δ) β=on (.ok<|d.flatMap o,β):=by
  intro d
  induction d with
  |nil=>intro _;rfl
  |cons x d g=>
   intro h;obtain⟨c,l,m⟩:=h x OL;have n:=g λy p=>h y<|OF _ p;rw[O0,l9];simp only[l,M.bind,M.ret,reduceIte,m,n,Qm]
 exact f d j
theorem vX{e:Type}{f:FD}{δ:Dn}{β:Bg}(d:List e)(u v:e->D)(a:it δ β=on (.ok<|d.map u,β))
  (b:∀x∈d,∃c,tg (u x) δ=on c/\f c β=on (.ok<|v x,β)):YO it tg (λ_=>M.ret OK) (js f) δ β=on (.ok<|d.map v,β):=by
 have g:∀d:List e,(∀x∈d,∃c,tg (u x) δ=on c/\f c β=on (.ok<|v x,β))->l9 tg (λ_=>M.ret OK) (js f) (d.map u) δ β=on (.ok<|d.map v,β):=by
  intro d
  induction d with
  |nil=>intro _;rfl
  |cons x d i=>
   intro h;obtain⟨c,j,k⟩:=h x OL;have l:=i λy m=>h y<|OF _ m;rw[O0,l9];simp only[j,M.bind,M.ret,reduceIte,js,k,l,O0,SE,RM]
 unfold YO;rw[M.bind_ok a];exact g d b
theorem EY{c a:Type}{f:c->List a}:∀{l:List c},(∀x∈l,(f x).length<=n)->(l.flatMap f).length<=n*l.length
 |[],_=>by simp
 |x::l,h=>by
  have j:=h x OL;have k:=EY (l:=l) λy b=>h y<|OF _ b;rw[Qm,O8,O4,Nat.mul_add];lia
theorem MN{e a:Type}(c:List e)(d:e->List a)(p:e->a->Bool):xf [.lst<|c.flatMap λx=>(d x).map λy=>D.bl<|p x y]=on (.bl<|c.any λx=>(d x).any<|p x):=by
 show(eM _).map _=_;rw[show(c.flatMap λx=>(d x).map λy=>D.bl<|p x y)=(c.flatMap λx=>(d x).map<|p x).map D.bl by rw[Rw];simp only[OU];rfl,uo];simp only[QI,List.any_flatMap,W1];rfl
theorem lU{e a:Type}(u:e->D)(v:a->D):∀(c:List e) (d:List a),fE (c.map u) (d.map v)=(c.zip d).map λp=>D.tup [u p.1,v p.2]
 |[],d=>by simp[fE]
 |x::c,[]=>by simp[fE]
 |x::c,y::d=>by simp[fE,lU u v c d]
theorem ql{c a:Type}{f g:FD}{δ:Dn}{β:Bg}{u:c->D}{v:a->D}{xs:List c}{ys:List a}(b:f δ β=on (.ok<|.lst<|xs.map u,β))(j:g δ β=on (.ok<|.lst<|ys.map v,β)):pX (ae f<|ae g az) δ β=on (.ok<|(xs.zip ys).map λp=>D.tup [u p.1,v p.2],β):=by
 rw[<-lU];exact bQ (aa b<|aa j rfl) rfl
theorem qc{xs:a0e}{k:Nat}:qd xs (on (k:Int)) OD=xs.drop k:=by
 unfold qd;rw[HT.sIx_none,HT.sIx_nat];by_cases h:k<=xs.length
 .rw[show SL k xs.length=k by lia]
  rw[Sa<|by rw[VO];lia]
 .rw[QT (by lia),QT<|by lia]
  simp
theorem mJ{f g:FD}{δ:Dn}{β:Bg}(a:f δ β=on (.ok<|.lst xs,β))(b:g δ β=on (.ok<|.int k,β)):fSl f (on g) OD δ β=on (.ok<|.lst<|qd xs (on k) OD,β):=by
 unfold fSl uQ;simp only[M.bind,a,b,M.ret,M.ofO,Fm,slD]
theorem yJ{c d:a0e}(h:c.length+d.length<=1000):ir (.lst c) (.lst d)=on (.lst<|c++d):=by
 unfold ir;simp only;rw[OS<|bp h]
def lR:a0e->a0g->Prop
 |[],[]=>True
 | .int i::ds,.int j _::vs=>i=j/\lR ds vs
 | .str x::ds,.str y _::vs=>x=y/\lR ds vs
 | .bl x::ds,.bool y::vs=>x=y/\lR ds vs
 | .non::ds,.none::vs=>lR ds vs
 |_,_=>False
theorem i7{K:Pa}:∀{ds:a0e} {vs:a0g},lR ds vs->∃c,aB c vs/\∀F H,ba K F H ds c
 |[],[],_=>⟨[],.nil,λ_ _=>ba.nil⟩
 | .int i::ds,.int j t::vs,h=>by
  obtain⟨e,h⟩:=h;subst e;obtain⟨c,a,b⟩:=i7 (K:=K) h;exact⟨.int i::c,.cons ⟨t,rfl⟩ a,λF H=>ba.cons rfl<|b F H⟩
 | .str i::ds,.str j t::vs,h=>by
  obtain⟨e,h⟩:=h;subst e;obtain⟨c,a,b⟩:=i7 (K:=K) h;exact⟨.str i::c,.cons ⟨t,rfl⟩ a,λF H=>ba.cons rfl<|b F H⟩
 | .bl i::ds,.bool j::vs,h=>by
  obtain⟨e,h⟩:=h;subst e;obtain⟨c,a,b⟩:=i7 (K:=K) h;exact⟨.bl i::c,.cons rfl a,λF H=>ba.cons rfl<|b F H⟩
 | .non::ds,.none::vs,h=>by
  obtain⟨c,a,b⟩:=i7 (K:=K) (ds:=ds) (vs:=vs) h;exact⟨.non::c,.cons rfl a,λF H=>ba.cons rfl<|b F H⟩
def Ze(K:Pa)(d:D)(u:OP):Prop:=∃v,aR v u/\∀F H,b5 K F H d v
theorem oh{K:Pa}{i:Int}{t:Tok}:Ze K (.int i) (.int i t):=⟨.int i,⟨t,rfl⟩,λ_ _=>rfl⟩
theorem IC{K:Pa}{q3:a0M}(a:K.lookup p=on ⟨q1,q2,.seq q3 q4,q5⟩)(b:q1= .type "tuple")(j:q3.size<=Pe)(k:lR n q3.toList):Ze K (.tup n) (.ref p):=by
 obtain⟨c,l,m⟩:=i7 (K:=K) k;exact⟨.ref p,rfl,λF H=>⟨p,c,rfl,.inr ⟨_,q3,q4,a,b,rfl,j,l⟩,m F H⟩⟩
theorem rD{K:Pa}{mg:a0j}{x:PP}{d:D}{u:OP}(h:mg x=on u)(v:Ze K d u):o7 K mg x d:=let ⟨w,h1,h2⟩:=v;⟨u,w,h,h1,h2⟩
theorem MI{K:Pa}{d:a0h}{us:a0g}(n:Nat)(l:d.length=n+us.length)(b:∀(s:OT) (c:a0g),K.In s.heap->c.length=n->VC s m ⟨c,[]⟩ (d.zip<|c++us))(h:∃c,aB c us/\∀F H,ba K F H dd c):db K m d dd:=
 let ⟨c,h1,h2⟩:=h
 ⟨us,c,λs a j k=>b s a j (by rw[O8]at k;lia),h1,h2⟩
theorem MG{K:Pa}:∃c,aB c []/\∀F H,ba K F H [] c:=⟨[],.nil,λ_ _=>ba.nil⟩
theorem J0{K:Pa}{d:D}{u:OP}(v:Ze K d u)(h:∃c,aB c us/\∀F H,ba K F H l c):∃c,aB c (u::us)/\∀F H,ba K F H (d::l) c:=by
 obtain⟨w,a,b⟩:=v;obtain⟨c,j,k⟩:=h;exact⟨w::c,.cons a j,λF H=>ba.cons (b F H)<|k F H⟩
inductive E_ (K:Pa):List (Sr D)->List (Sr OP)->Prop where
 |nil:E_ K [] []
 |kw {j:Nat} {a:List (Sr D)} {c:List (Sr OP)}:E_ K a c->E_ K (.kw j::a) (.kw j::c)
 |df {x:D} {y:OP} {a:List (Sr D)} {c:List (Sr OP)}:Ze K x y->E_ K a c->E_ K (.df x::a) (.df y::c)
theorem E_.mid{K:Pa}:∀{a:List (Sr D)} {c:List (Sr OP)},E_ K a c->∃b:List<|Sr V,lk aR b c/\lk (λd v=>∀F H,b5 K F H d v) a b
 |_,_,.nil=>⟨[],.nil,.nil⟩
 |_,_,.kw (j:=j) h=>let ⟨b,h1,h2⟩:=E_.mid h;⟨.kw j::b,.kw h1,.kw h2⟩
 |_,_,.df v h=>let ⟨b,h1,h2⟩:=E_.mid h;let ⟨w,g1,g2⟩:=v;⟨.df w::b,.df g1 h1,.df g2 h2⟩
theorem NL{K:Pa}{d e:a0h}{c:List (Sr D)}{sv:List (Sr OP)}(h:E_ K c sv)(j:d.length=n+c.length)(k:0<d.length)(b:∀(s:OT) (us a:a0g),K.In s.heap->us.length=n->a.length=e.length->VC s l ⟨us,e.zip a⟩ (d.zip<|us++sv.map (Sr.pick .none a))):B6 K l d e n c:=
 ⟨let ⟨sx,h1,h2⟩:=h.mid;⟨sv,sx,h1,h2,b⟩,j,k⟩
variable{X:Cx}{E:a0s}{K:Pa}{f:Qd}
theorem DG:MW X (pS X.K):=by
 intro a s o H x y v u Q I A B h;obtain⟨p,f,i,z,rfl,rfl,C,F,q⟩:=h;cases A;obtain⟨t,rfl⟩:=B;obtain⟨d,r,e,O⟩:=I.list C;obtain⟨j,b,J,R,L,h5⟩:=sQ F;obtain⟨w,m,k⟩:=r.get J;have N:=r.length;have g:=j7;have c:EP X a o Q w s:=⟨z,H,I,k,q⟩;by_cases n:0<=i
 .have l:i.toNat=j:=by
   rw[WP n h5]at b;exact Pn b
  exact wpAny_getItem_list e.isList n (by lia) (by rw[l];simpa using m) c
 .have l:(i+(d.toArray.size:Int)).toNat=j:=by
   rw[Wl (by lia) L]at b;rw[O7,<-N];exact Pn b
  exact YC e.isList (by lia) (by rw[O7]<;>lia) (by lia) (by rw[l];simpa using m) c
def rp(i:Nat)(h:a0T)(a b j:FD):G:=λδ β=>match a (gs δ) β with
 |some (.ok (.int ka),β1)=>match b (gs δ) β1 with
  |some (.ok (.int kb),β2)=>match δ.getD i OD with
   |some (.grd ac)=>match m_ ac.length ka with
    |some e=>match ac[e]? with
     |some c=>match m_ c.length kb with
      |some f=>match c[f]? with
       |some g=>match j (gs δ) β2 with
        |some (.ok d1,β3)=>match h g d1 with
         |some d=>if(noL g&&noL d1&&noL d)=OK then on (.nx<|δ.set i<|on<|.grd<|ac.set e<|c.set f d,β3)else OD
         |none=>OD
        |_=>OD
       |none=>OD
      |none=>OD
     |none=>OD
    |none=>OD
   |_=>OD
  |_=>OD
 |_=>OD
theorem KA{i:Nat}(l:bv X.K tip op)(h:PS X f<|HD (YH (pS X.K) (pF i)<|tV X.K fa E) (tV X.K fb E) (tV X.K fv E) (pS X.K) tip qK):PS X f (tG X.K X.H₀ (rp i op fa fb fv) E):=h.imp λD σ H h_=>by
 obtain⟨B,g,δ,β,o,A,ok,e,q⟩:=h_;unfold rp at e;split at e
 case h_2=>cases e
 rename_i ka β1 e1;split at e
 case h_2=>cases e
 rename_i kb β2 e2;split at e
 case h_2=>cases e
 rename_i ac ec;split at e
 case h_2=>cases e
 rename_i ja ea;split at e
 case h_2=>cases e
 rename_i ds er;split at e
 case h_2=>cases e
 rename_i jb eb;split at e
 case h_2=>cases e
 rename_i d0 e0;split at e
 case h_2=>cases e
 rename_i d1 ap e3;split at e
 case h_2=>cases e
 rename_i d ed;split at e
 case isFalse=>cases e
 rename_i hn;cases e;simp only[Pr]at hn;obtain⟨⟨n0,n1⟩,n2⟩:=hn
 --x
 obtain⟨w,h1,a,G,rfl,hB,ha,nd,rl⟩:=ok.tell i _<|getD_some ec;refine⟨_,h1,lw B g,gs δ,β,ok.frA,ok.viewA,.ok<|.int ka,β1,e1,λy H1 t1 hy=>?_⟩;cases hy;obtain⟨k,s1⟩:=ok.to (F:=lw B g) rfl t1;have u:∀{m:Hp} {A:Bg} (L:fc X.K X.H₀ B g m δ A σ),(∀c o,H c=on o->B c≠on 1->m c=on o)->m a=on (.lst<|G.map V.ref)/\bD X.K (d5 B g) m (λr=>B r=on (i+2)) ac G:=λ{m A} L kk=>by
  obtain⟨w',N,a',O,ab,aq,Q,ar,ad⟩:=L.tell i _<|getD_some ec;rw[h1]at N;cases N;cases ab;have k1:=kk a _ ha (by rw[hB];intro z;cases z);have k2:O.map V.ref=G.map V.ref:=by rw[Q]at k1;injection k1 with k1;injection k1
  have k3:O=G:=Ub (λa b q=>by cases q;rfl)|>.mp k2;subst k3;exact⟨Q,ad⟩
 have M:∀{m C:Hp} {p:Bg},To (lw B g) m C p->∀c o,m c=on o->B c≠on 1->C c=on o:=λ{m C p} t c o I j=>t.kp c o I λb l y=>⟨λw=>j (by rw[w];exact(ok.bgt _ _ y).1),λw=>j<|by rw[w];exact(ok.bgt _ _ y).2⟩;obtain⟨ae,R⟩:=u k<|M t1;obtain⟨r,xs,hr,hp,hx,dl⟩:=R.at er;refine⟨a,G.map V.ref,ka,.ref r,rfl,rfl,eg.of ae,?_,?_⟩
 .unfold p0
  rw[OC,<-R.len,ea];show(G.map V.ref)[ja]?=_;rw[OI,hr];rfl
 refine⟨lw B g,gs δ,β1,k.frA,k.viewA,.ok<|.int kb,β2,e2,λz H2 t2 hz=>?_⟩;cases hz;obtain⟨n,s2⟩:=k.to (F:=lw B g) rfl t2;obtain⟨au,af⟩:=u n λc o I j=>M t2 c o (M t1 c o I j) j;obtain⟨r',ag,T,av,ah,U⟩:=af.at er;rw[hr]at T;cases T;obtain⟨v0,ai,aj⟩:=U.get e0;refine⟨r,ag,kb,v0,rfl,rfl,eg.of ah,?_,?_⟩
 .unfold p0
  rw[<-U.length,eb];exact ai
 refine⟨lw B g,gs δ,β2,n.frA,n.viewA,.ok d1,_,e3,λv1 H3 t3 ak=>?_⟩;obtain⟨J,s3⟩:=n.to (F:=lw B g) rfl t3;have al:=J.noB n1 ak;have W:b5 X.K (d5 B g) H3 d0 v0:=b5.tr s3.tr _ _ aj;refine l (d5 B g) H3 _ _ d0 d1 d v0 v1 J.fr W al ed λv H4 t4 hv=>?_;obtain⟨Y,s4⟩:=J.to (F:=d5 B g) rfl t4;have am:∀c o,H3 c=on o->B c≠on 1->H4 c=on o:=λc o I j=>t4.kp c o I λb l y=>⟨λw=>j (by rw[w];exact(ok.bgt _ _ y).1),λw=>j<|by rw[w];exact(ok.bgt _ _ y).2⟩;obtain⟨an,Z⟩:=u Y λc o I j=>am c o (M t3 c o (M t2 c o (M t1 c o I j) j) j) j;obtain⟨r',P,S,aw,s,aa⟩:=Z.at er;rw[hr]at S;cases S;refine⟨r,P,kb,jb,rfl,rfl,s,by rw[<-aa.length];exact eb,?_⟩;obtain⟨ao,s5⟩:=Y.writeRow (ds:=ds.set jb d) (xs:=P.set jb v) h1 hB an nd Z hr s<|ba.set jb aa hv;exact q _ _ _ (s1.trans<|s2.trans<|s3.trans<|s4.trans s5) ao
end
section
variable{h:G}{δ:Ds}{β β1 p o:Bg}{Q:a0A}{i:Nat}{v u s:FD}{fl:FL}{d d0 d1:D}{ds:a0e}{q:a0T}
theorem Kb{ac:a0r}(a:v (gs δ) β=on (.ok<|.int ka,β1))(b:u (gs δ) β1=on (.ok<|.int kb,p))(c:δ.getD i OD=on (.grd ac))(e:m_ ac.length ka=on ja)(f:ac[ja]?=on ds)(g:m_ ds.length kb=on jb)(j:ds[jb]?=on d0)
  (l:s (gs δ) p=on (.ok d1,o)) (m:q d0 d1=on d) (w:(noL d0&&noL d1&&noL d)=OK) (k:Gw h (δ.set i<|on<|.grd<|ac.set ja<|ds.set jb d) o Q):Gw (aW (rp i q v u s) h) δ β Q:=
 f7 (by unfold rp;simp only[a,b,c,e,f,g,j,l,m,w,P8]) k
theorem Hq{δ:Dn}{β β1:Bg}(a:t δ β=on (.ok OK,β1))(b:f δ β1=on r):V_ t f g δ β=on r:=by
 unfold V_ M.bind;rw[a];exact b
theorem Hr{δ:Dn}{β β1:Bg}(a:t δ β=on (.ok OO,β1))(b:g δ β1=on r):V_ t f g δ β=on r:=by
 unfold V_ M.bind;rw[a];exact b
theorem pW{c:Bool}(h:dI x y=on (.bl c)):gh x y=on (.bl<|!c):=by
 unfold dI at h;unfold gh;cases q:YN x y with
 |some e=>
  rw[q]at h;cases h;rfl
 |none=>
  rw[q]at h;cases z:gU x y with
  |none=>rw[z]at h;cases h
  |some e=>rw[z]at h;cases h;rfl
theorem Ho{d:D}{δ:Dn}{β:Bg}(e:δ.getD n OD=on d):af n δ β=on (.ok d,β):=by unfold af;rw[e];rfl
end
section
variable{β β1 a:Bg}{f g h:FD}{δ:Dn}{x y z:Int}
theorem AY(a:f δ β=on (.ok<|.int x,β))(b:g δ β=on (.ok<|.int y,β))(c:h δ β=on (.ok<|.int z,β)):lM U_ S_ f g h δ β=on (.ok<|.bl<|decide (x<=y)&&decide (y<z),β):=by
 unfold lM M.bind;rw[a];simp only[b,le_int,M.ofO,asB];by_cases q:x<=y
 .simp only[q,decide_true,P8,c,lt_int,RV]
 .simp only[q,XW,Pb,Qe,M.ret,Tc]
theorem qX{K:Pa}{f:PP}:∀{w:a0h} {y:a0e} {g:a0i},ba K F H y g->(w.zip y).lookup f=on d->∃v,(w.zip g).lookup f=on v/\b5 K F H d v
 |[],y,g,h,e=>by simp at e
 |n::w,[],g,h,e=>by simp at e
 |n::w,c::y,g,h,e=>by
  obtain⟨x,r,q,a,b⟩:=h;subst q;rw[Rg,UJ]at e⊢;split at e
  .rename_i z
   cases e;exact⟨x,rfl,a⟩
  .rename_i z
   exact qX b e
theorem tX{w:Type}:∀{f:a0h} {g:List w},m∉f->(f.zip g).lookup m=OD
 |[],g,_=>by simp
 |n::f,[],_=>by simp
 |n::f,x::g,h=>by
  rw[Rg,UJ];have a:m≠n:=λz=>h (by rw[z];exact OL);have b:m∉f:=λz=>h<|OF _ z;rw[show(m==n)=OO by simpa using a];exact tX b
theorem db.nil{K:Pa}(b:dH K c ps []):db K c ps []:=⟨[],[],b,.nil,λ_ _=>ba.nil⟩
end
section
variable{X:Cx}{E:a0s}{o e:Expr}{es:List Expr}{P p s c:TF}{x m:PP}{k n:Nat}{f C:ON}{fd:Pd}{ps ks:a0h}{aa:a0Z}
noncomputable def AC(C:ON)(f:PP):D->a0k
 | .obj C' ns ds=>if C'=C then(ns.zip ds).lookup f else OD
 |_=>OD
theorem kB{f:PP}(c:ro X.K C)(n:fq X.K C f)(j:PE X e<|tV X.K g E)(l:SB e f X.env (Qh e X.env)=Qh e X.env:=by rfl):PE X (.Attribute e f P) (tV X.K (f1 (AC C f) g) E):=
 (K7 j l).imp λL H Q i=>j2 i λF o p fr q h=>⟨F,o,p,fr,q,(run.bind (R:=b5 X.K F) h).mono λv r i=>by
  obtain⟨d,s,t,m,x⟩:=i;obtain⟨D,b,k⟩:=run.ofO x;cases d<;>first|cases b|skip
  rename_i u G M;unfold AC at b;simp only at b;split at b
  .rename_i z
   subst z;unfold b5 at m;obtain⟨a,y,S,rfl,N,A,O,B⟩:=m;obtain⟨w,I,J⟩:=qX B b;exact⟨a,u,y,_,w,rfl,A,c,n,I,k w r (To.refl t.fr) J⟩
  .cases b⟩
def oY{e:Type}(C:ON)(m:PP)(a:a0e->M e)(b:FD)(g:FL)(c:a0e):Dn->M e:=λf=>M.bind (b f) λd=>match d with
 | .obj C' ns _=>if C'=C/\m∉ns then M.bind (g f) λk=>a (d::(k++c))else M.fail
 |_=>M.fail
def spT{c:Type}(K:Pa)(T:Fx->Hp->Hp->c->V->Prop)(n:Nat)(m:a0e->M c):Sp:=λe H Q E=>e.length=n/\∃F f k,Fr F H k/\ba K F H f e/\run (T F H) F (λ_=>E) [] (m f) H Q k
theorem wc{w:Type}{T:Fx->Hp->Hp->w->V->Prop}{U:a0e->M w}{W:FD}{g:FL}{j:a0e}{K:Pa}{b:a0i}{l:St}{H:Hp}{Q:VK}(hT:∀{F H q u f d v},To F H q f->T F q u d v->T F H u d v)(G:∀F H,ba K F H j b)(hn:∀o f r c,g o f=on (.ok r,c)->r.length+j.length+1=n)(h:∃F o f,Fr F H f/\io K F H o l/\run (T F H) F E l (oY C m U W g j o) H Q f):yW C m (spT K T n U) b E (tV K W E) (hX K g E) l H Q:=by
 obtain⟨F,o,f,fr,Y,h⟩:=h;refine⟨F,o,f,fr,Y,(run.bind (R:=b5 K F) h).mono λv q h_=>l0 h_ λd p t x s=>?_⟩;have k:∀{y:M w},y=M.fail->run (T F H) F E l y q Q p->False:=λ{y} e r=>by
  obtain⟨r,c,Z,_⟩:=r;rw[e]at Z;cases Z
 cases d<;>first|exact(k rfl s).elim|skip
 rename_i C' ns ds;simp only at s;split at s
 .rename_i z
  obtain⟨rfl,hm⟩:=z;have A:=x;unfold b5 at x;obtain⟨a,dx,xs,rfl,h1,h2,h3,B⟩:=x;refine⟨a,dx,_,rfl,h2,tX hm,F,o,p,t.fr,Y.tr<|t.tr fr,?_⟩;obtain⟨P,I,S,X⟩:=run.bind (R:=ba K F) s;refine⟨P,I,S,?_⟩;cases P with
  |error C=>exact X
  |ok as=>
   intro vs J t2 i;obtain⟨d',D,L,N,r3⟩:=X vs J t2 i;have hl:=hn _ _ _ _ S;have hz:=(G F J).length;refine⟨by rw[O4,O8,<-i.length,<-hz,hl],F,_::(d'++j),D,L.fr,ba.cons (b5.tr (L.tr t.fr) _ _ A)<|ba.append N<|G F J,?_⟩;obtain⟨r4,O,e4,B⟩:=r3;refine⟨r4,O,e4,?_⟩;cases r4 with
   |error C=>exact B
   |ok d=>exact λv u t5 hv=>B v u t5<|hT (t.trans L) hv
 .exact(k rfl s).elim
theorem qo{a:a0e}(c:ro X.K C)(p:mn X.K C m f)(G:fw X.prog X.w X.K X.mg X.base (hE X.prog X.w) k f fd ps<|Ic X.K n L)(l:dv k X.A)(q:db X.K fd ps a)(t:dT (hE X.prog X.w) X E)
  (u:PE X o<|tV X.K N E) (x:PA X (e::es)<|hX X.K g E) (D:∀M S r j,g M S=on (.ok r,j)->r.length+a.length+1=n)
  (d:b0a X e es:=by rfl) (i:b0b X P es:=by rfl)
  (v:Qh (.Call (.Attribute o m s) (e::es) [] P) X.env=(do
   let J <-Qh o X.env
   SY s.atName
   let (f,first) <-SX [J] (VG J m pl)
   callWith P f first (Q5 P<|O1 (e::es) X.env) (Sc P<|Q6 [] X.env)):=by rfl):
  PE X (.Call (.Attribute o m s) (e::es) [] P) (tV X.K (oY C m L N g a) E):=by
 obtain⟨O,y,b,B,V⟩:=q;exact(Jg (pl:=pl) u c p G l b B t x d i v).imp λI H Q h=>wc (T:=λF _=>b5 _ F) (λ_ z=>z) V D h
theorem gW{d:a0e}(c:ro X.K C)(D:mn X.K C m f)(G:fw X.prog X.w X.K X.mg X.base (hE X.prog X.w) k f fd ps<|Ic X.K n mf)(i:dv k X.A)(j:db X.K fd ps d)(l:dT (hE X.prog X.w) X E)
  (q:PE X o<|tV X.K fo E) (M:d.length+1=n)
  (t:Qh (.Call (.Attribute o m s) [] [] P) X.env=(do
   let Z <-Qh o X.env
   SY s.atName
   let (f,first) <-SX [Z] (VG Z m pl)
   callWith P f first (Q5 P<|O1 [] X.env) (Sc P<|Q6 [] X.env)):=by rfl):
  PE X (.Call (.Attribute o m s) [] [] P) (tV X.K (oY C m mf fo az d) E):=by
 obtain⟨ds,u,b,y,S⟩:=j;refine(Gd (pl:=pl) q c D G i b y l t).imp λU H Q h=>?_;obtain⟨F,p,x,fr,B,h⟩:=wc (T:=λF _=>b5 _ F) (λ_ z=>z) S (λp x r I e=>by cases e;simpa using M) h;refine⟨F,p,x,fr,B,h.mono λv W ⟨a,J,V,ev,ha,L,Y,N,aa,g,O,R⟩=>⟨a,J,V,ev,ha,L,?_⟩⟩;exact run.ret g R ba.nil
structure ZH (F:Fx) (x:ON) (H H':Hp) (β':Bg):Prop where
 kp:∀a o,a≠x->H a=on o->(∀b l,F.bg=on (b,l)->a≠b/\a≠l)->H' a=on o
 fr:Fr F H' β'
def Zs(K:Pa)(C:ON)(k:a0h)(n:Nat)(g:a0e->M a0e):Sp:=λp H Q E=>∃x e F m o d,p= .ref x::e/\e.length=n/\Fr F H o/\F.A x/\(∀b l,F.bg=on (b,l)->x≠b/\x≠l)/\H x=on (.ins C d [])/\ba K F H m e/\
 ∃r a,g m o=on (r,a)/\match r with
  | .ok es=>∀c f,ZH F x H c a->c x=on (.ins C d<|k.zip f)->k.length=f.length->ba K F c es f->Q .non c
  | .error Ce=>∀c,ZH F x H c a->E (.ref Ce) OD c
variable{m:a0h}
theorem Gs{K:Pa}{f:a0i}(fr:Fr F H2 β2)(R:f.length=n)(w:ba K F H2 ds f)(r:run (b5 K F) F E σ (M.bind (mi ds) λp=>M.ret<|.obj C m p) H2 Q β2):
  ∀x c,H2 x=OD->H2 c=OD->c≠x->Zs K C m n mi (.ref x::f) (upd (upd H2 c<|.own x) x<|.ins C c []) (λv T=>v= .non/\Q (.ref x) T) (E σ):=by
 intro x c H I G;have J:¬F.A x:=fr.fresh H;have e:bY H2 (upd (upd H2 c<|.own x) x<|.ins C c []):=λa o h=>by
  rw[bb<|aI h H,bb<|aI h I];exact h
 have t:=fr.same e;have L:Fr (F.but x) (upd (upd H2 c<|.own x) x<|.ins C c []) β2:=⟨λa ha z=>(by
  rcases ha with ha|ha
  .exact t.fr.occ a ha z
  .subst ha;rw[ax]at z;cases z),λb l q=>let ⟨z1,z2,z3⟩:=fr.bgA b l q;⟨.inl z1,.inl z2,z3⟩,t.fr.bag⟩
 have U:∀b l,F.bg=on (b,l)->x≠b/\x≠l:=λb l q=>⟨λz=>J<|z▸(fr.bgA b l q).1,λz=>J<|z▸(fr.bgA b l q).2.1⟩;have N:Tr F H2 (F.but x) (upd (upd H2 c<|.own x) x<|.ins C c []):=⟨λa W Y z=>by
  rcases z with z|z
  .exact W z
  .subst z;exact Y H,λa o _ h=>e a o h,rfl⟩
 obtain⟨Z,d,g,h⟩:=r;refine⟨x,f,F.but x,ds,β2,c,rfl,R,L,.inr rfl,U,ax,ba.tr N _ _ w,?_⟩;have u:∀{i:Hp} {d:Bg},ZH (F.but x) x (upd (upd H2 c<|.own x) x<|.ins C c []) i d->To F H2 i d:=λ{i d} j=>⟨λa o ha n=>j.kp a o (aI ha H) (e a o ha) n,⟨λa ha=>j.fr.occ a<|.inl ha,fr.bgA,j.fr.bag⟩⟩;cases q:mi ds β2 with
 |none=>unfold M.bind at g;rw[q]at g;cases g
 |some z=>
  obtain⟨s,k⟩:=z;refine⟨s,k,rfl,?_⟩;cases s with
  |error P=>
   rw[M.bind_err q]at g;cases g;exact λi j=>h i<|u j
  |ok p=>
   rw[M.bind_ok q]at g;cases g;refine λi D j O y B=>⟨rfl,h (.ref x) i (u j) ⟨x,c,D,rfl,J,O,y,ba.tr Fx.tr_of _ _ B⟩⟩
def E2(C:ON)(m:a0h)(a:a0e->M a0e)(g b:FL)(c:List<|Sr D):FD:=λe=>M.bind (g e) λf=>M.bind (b e) λks=>M.bind (a<|f++c.map (Sr.pick .non ks)) λk=>M.ret<|.obj C m k
def Ko(C:ON)(e:Sp)(d:a0i->a0i->a0i)(E:a0s)(t g:TA):TE:=λb H Q=>t b H λf h=>g b h λi c=>∀x a,c x=OD->c a=OD->a≠x->
 e (d (.ref x::f) i) (upd (upd c a<|.own x) x<|.ins C a []) (λv j=>v= .non/\Q (.ref x) j) (E b)
theorem Ge(M:Mk X.K C f)(F:fw X.prog X.w X.K X.mg X.base CX k f fd ps sp)(U:dv (k+1) X.A)(Y:Gl X x)(n:X.mg x=on (.ref C))(O:B9 X.K fd ps ks g gV)(Z:dT CX X E)
  (o:PA X (e::es) t) (B:PK X aa tk) (i:(Sc P<|Q6 aa X.env).all (·.1.isSome)=OK:=by rfl) (J:(Sc P<|Q6 aa X.env).filterMap (·.1)=ks:=by rfl)
  (L:b0c x:=by decide) (D:b0a X e es:=by rfl)
  (N:((Q5 P<|O1 (e::es) X.env).any (·.1)||(Sc P (Q6 aa X.env)).any (·.1.isNone))=OO:=by rfl):
  PE X (.Call (.Name x p) (e::es) aa P) (Ko C sp gV E t tk):=by
 intro a s l H Q I h;refine UG<|sw I Y n ?_ L;refine PySem.W.callWith_KW (h₀:=X.base) I.ok.mod.kin M.kp i (dt (o P a s l H _ I h) λm G ⟨vs,S,z,r,q⟩=>?_) N D;refine dt (B P a G l S _ z q) λd c ⟨zs,H2,j,rz,q2⟩=>⟨j.kIn,?_⟩;rw[J];have R:=q2 (c.heap.objs.size+1) c.heap.objs.size (j.hok.fresh<|Uz _) (j.hok.fresh<|OX _)<|PQ<|Rz _;have y:=b_.made (C:=C) j;have T:=O.rel (.cons (show aR (V.ref<|c.heap.objs.size+1) (Pc<|c.heap.objs.size+1)from rfl) r) rz;have hl:(g (Pc (c.heap.objs.size+1)::m) d).length=ps.length:=by rw[<-T.length];exact F.len _ _ _ _ R
 refine Xp<|Gu (f:=f) j.kIn M.makes M.init (beq_iff_eq.mp M.fn)<|SW (F.run _ X.stack _ _ ⟨Pc (c.heap.objs.size+1)::m,ks.zip d⟩ (g (Pc (c.heap.objs.size+1)::m) d) _ _ (E l) (U.make C m<|ks.zip d)
  (y.env0.make C m<|ks.zip d) (O.to _ (Pc (c.heap.objs.size+1)::m) d y.kIn hl) T R) λr s' b=>?_
 cases r with
 |error e=>exact Z a l _ _ e s' y b
 |ok fl=>
  cases fl with
  |ret u=>
   obtain⟨v,H',I4,rv,ev,q4⟩:=y.after b;subst ev;exact⟨rv,⟨V.ref<|c.heap.objs.size+1,H',I4,rfl,q4⟩⟩
  |next=>exact Ry b
  |brk=>exact Ry b
  |cont=>exact Ry b
theorem ID{o:List (Sr D)}(Mm:Mk X.K C f)(G:fw X.prog X.w X.K X.mg X.base (hE X.prog X.w) k f fd ps<|Zs X.K C m n mi)(hr:dv (k+1) X.A)(hg:Gl X x)(hm:X.mg x=on (.ref C))(hb:B6 X.K fd ps ks (n1+1) o)(hx:dT (hE X.prog X.w) X E)
  (ha:PA X (e::es)<|hX X.K g E) (c:PK X aa<|hX X.K gk E) (hn:∀s M r a,g s M=on (.ok r,a)->r.length=n1) (d:∀s M r a,gk s M=on (.ok r,a)->r.length=ks.length) (h3:n1+o.length=n)
  (b:(Sc P<|Q6 aa X.env).all (·.1.isSome)=OK:=by rfl) (h:(Sc P<|Q6 aa X.env).filterMap (·.1)=ks:=by rfl)
  (i:b0c x:=by decide) (he:b0a X e es:=by rfl)
  (j:((Q5 P<|O1 (e::es) X.env).any (·.1)||(Sc P (Q6 aa X.env)).any (·.1.isNone))=OO:=by rfl):
  PE X (.Call (.Name x p) (e::es) aa P) (tV X.K (E2 C m mi g gk o) E):=by
 obtain⟨sv,J,rd,kb⟩:=hb.kb;refine(Ge Mm G hr hg hm kb hx ha c b h i he j).imp λσ H Q h_=>j2 h_ λF s M fr L r=>⟨F,s,M,fr,L,?_⟩;obtain⟨r0,l,N,O⟩:=run.bind (R:=ba X.K F) r;refine⟨r0,l,N,?_⟩;cases r0 with
 |error C=>exact O
 |ok as=>
  intro S H1 t z;obtain⟨d',ab,q,u,r1⟩:=O S H1 t z;refine⟨F,s,ab,q.fr,L.tr<|q.tr fr,?_⟩;obtain⟨T,ac,U,W⟩:=run.bind (R:=ba X.K F) r1;refine⟨T,ac,U,?_⟩;cases T with
  |error C=>exact W
  |ok bs=>
   intro v Y t2 Z;obtain⟨d2,ad,t3,B,r3⟩:=W v Y t2 Z;have l1:=hn _ _ _ _ N;have l2:=d _ _ _ _ U;have I:ba X.K F Y d' S:=ba.tr (t3.tr q.fr) _ _ u;intro y dx;have g1:gK V.non (n1+1) ks.length J (.ref y::S) v= .ref y::(S++J.map (Sr.pick .non v)):=OS ⟨by rw[O4,<-z.length,l1],by rw[<-Z.length,l2]⟩;rw[g1];exact Gs t3.fr (by rw[O8,OC,<-z.length,l1,<-rd.len,h3]) (ba.append I<|lk.den B rd) r3 y dx
abbrev IP:=Ds->a0e->Bg->Option (Except ON a0e×Bg)
noncomputable def Ib:IP:=λ_ c e=>on (.ok c,e)
noncomputable def oP(g:G)(a:IP):IP:=λe c f=>match g e f with
 |some (.nx δ1,β1)=>match e[0]?,δ1[0]? with
  |some (on (Sl.sh (D.adr x))),on (on (Sl.sh (D.adr y)))=>if x=y then a δ1 c β1 else OD
  |_,_=>OD
 |some (.ex C _,β1)=>on (.error C,β1)
 |_=>OD
def kT(f:FD)(a:IP):IP:=λe c k=>match f (vw e) k with
 |some (.ok d,β1)=>a e (c++[d]) β1
 |some (.error C,β1)=>on (.error C,β1)
 |none=>OD
structure mm (x:ON) (B:Ow) (H:Hp) (B':Ow) (H':Hp):Prop where
 kp:∀a o,a≠x->H a=on o->(B a=OD\/B a=on 0)->H' a=on o
 tg:∀a,B a=on 0\/B a=on 1->B' a=B a
 nn:∀a o,a≠x->H a=on o->B a=OD->B' a=OD
 al:∀a,H a≠OD->H' a≠OD
end
theorem hW.x{x:ON}{B b:Ow}{H c:Hp}(s:hW B H b c):mm x B H b c:=⟨λa o _=>s.kp a o,s.tg,λa o _=>s.nn a o,s.al⟩
theorem mm.trans(a:mm x B H B1 H1)(b:mm x B1 H1 B2 H2):mm x B H B2 H2:=by
 refine⟨λc o w h n=>b.kp c o w (a.kp c o w h n) ?_,λc h=>?_,λc o w h n=>b.nn c o w (a.kp c o w h<|.inl n)<|a.nn c o w h n,λc h=>b.al c<|a.al c h⟩
 .rcases n with n|n
  .exact .inl (a.nn c o w h n)
  .exact .inr ((a.tg c<|.inl n).trans n)
 .have e:=a.tg c h
  rw[<-e]at h;exact(b.tg c h).trans e
def lS(K:Pa)(D:a0q)(E:a0s)(Dn:ot)(B:Ow)(H:Hp)(x C e:ON)(w:a0h)(r:Except ON a0e)(d:Bg):Prop:=match r with
 | .ok ds=>∀b c a G,mm x B H c a->Fr (d5 c D) a d->a x=on (.ins C e<|w.zip G)->w.length=G.length->ba K (d5 c D) a ds G->Dn.nx b a
 | .error Ce=>∀b c a,mm x B H c a->Fr (d5 c D) a d->E b (.ref Ce) OD a
theorem lS.pre{K:Pa}{E:a0s}{Dn:ot}(s:mm x B H B1 H1)(h:lS K f E Dn B H x C g all r e):lS K f E Dn B1 H1 x C g all r e:=by
 cases r with
 |ok D=>exact λa b c w t=>h a b c w<|s.trans t
 |error d=>exact λa b c t=>h a b c<|s.trans t
def tI(K:Pa)(D:Hp)(C:ON)(a w:a0h)(f:IP)(E:a0s):TS:=λDn g H=>∃B G M P x e b c r d,fc K D B G H M P g/\M[0]?=on (on<|.sh<|.adr x)/\B x=on 0/\H x=on (.ins C e<|a.zip b)/\a.length=b.length/\ba K (d5 B G) H c b/\f M c P=on (r,d)/\lS K G E Dn B H x C e (a++w) r d
theorem tR:∀{w:a0h} {D:a0i},w.length=D.length->f∉w->eE f y (w.zip D)=(w++[f]).zip (D++[y])
 |[],[],_,_=>rfl
 |n::w,v::D,h,hf=>by
  have a:¬n=f:=λz=>hf (by rw[z];exact OL);show(if n=f then(n,y)::w.zip D else(n,v)::eE f y (w.zip D))=_;rw[OR a,tR (by simpa using h) λz=>hf<|OF _ z];rfl
 |[],_::_,h,_=>by simp at h
 |_::_,[],h,_=>by simp at h
theorem fc.upd0{K:Pa}(w:fc K H₀ B C H F I J)(f:B x=on 0):fc K H₀ B C (upd H x o) F I J/\mm x B H B (upd H x o):=by
 have D:∀c,H c≠OD->upd H x o c≠OD:=λc a=>by
  by_cases z:c=x
  .subst z;rw[ax];simp
  .rw[bb z];exact a
 have j:∀b l,C=on (b,l)->b≠x/\l≠x:=λb l e=>by
  obtain⟨E,g⟩:=w.bgt b l e;exact⟨λz=>(by rw[z,f]at E;cases E),λz=>(by rw[z,f]at g;cases g)⟩
 have G:Tr (d5 B C) H (d5 B C) (upd H x o):=⟨λ_ h _=>h,λc u a e=>by
  rw[bb]
  .exact e
  .intro z;subst z;exact a (by show B c≠OD;rw[f];simp),rfl⟩
 refine⟨⟨⟨λc a=>D c<|w.fr.occ c a,w.fr.bgA,λb l e=>?_⟩,w.bgt,w.len,λc a=>D c<|w.cov c a,w.new,λc k a=>?_,λi s e=>?_⟩,λc u M h _=>by rw[bb M];exact h,λ_ _=>rfl,λ_ _ _ _ n=>n,D⟩
 .obtain⟨m,p⟩:=w.fr.bag b l e
  obtain⟨q,r⟩:=j b l e;exact⟨by rw[bb q];exact m,by rw[bb r];exact p⟩
 .exact(w.lst c k a).imp λo h=>by rw[bb];exact h;intro z;subst z;rw[f]at a;cases a
 .obtain⟨v,t,A⟩:=w.tell i s e
  exact⟨v,t,A.tr G λc d=>⟨d,λo z=>(bb λy=>by subst y;rw[f]at d;cases d).trans z⟩⟩
section
variable{X:Cx}{E:a0s}{st:Qd}{aa:a0R}{C:ON}{w P:a0h}{ip:IP}
theorem Oj:PSs X [] (tI X.K X.H₀ C w [] Ib E):=se.imp λDn b H c=>by
 obtain⟨B,G,M,P,x,i,a,d,r,f,ok,j,l,g,h,D,e,k⟩:=c;cases e;rw[P9]at k;exact k b B H a (hW.refl B H).x ok.fr g h D
theorem Id(m:PS X st<|tG X.K X.H₀ g E)(n:PSs X aa<|tI X.K X.H₀ C w P ip E):PSs X (st::aa) (tI X.K X.H₀ C w P (oP g ip) E):=(dB m n).imp λDn y H o=>by
 obtain⟨B,D,G,M,x,p,c,d,r,f,ok,q,h,t,u,S,e,k⟩:=o;unfold oP at e;split at e
 .rename_i δ1 β1 i
  split at e
  .rename_i A F q1 q2
   split at e
   .rename_i z
    subst z;rw[q]at q1;cases q1;refine⟨B,D,G,M,.nx δ1,β1,ok,i,λb j l s a=>?_⟩;exact⟨j,D,δ1,β1,x,p,c,d,r,f,a,q2,(s.tg x<|.inl h).trans h,s.kp x _ t<|.inr h,u,ba.tr s.tr _ _ S,e,lS.pre s.x k⟩
   .cases e
  .cases e
 .rename_i v δ1 β1 i
  cases e;exact⟨B,D,G,M,.ex v δ1,_,ok,i,λb j l s a=>k b j l s.x a.fr⟩
 .cases e
theorem uM(c:ro X.K C)(n:fq X.K C f)(Q:f∉w)(L:w.length<1000)(R:PS X st<|KC X.K (pF 0) (tV X.K fv E) f)(T:PSs X aa<|tI X.K X.H₀ C (w++[f]) P ip E):PSs X (st::aa) (tI X.K X.H₀ C w (f::P) (kT fv ip) E):=(dB R T).imp λDn U H W=>by
 obtain⟨B,D,G,M,x,l,g,q,r,t,ok,N,m,Y,O,S,e,k⟩:=W;refine⟨d5 B D,vw G,M,ok.fr,ok.view,?_⟩;unfold kT at e;split at e
 .rename_i d β1 A
  refine⟨.ok d,β1,A,λy p F Z=>?_⟩;obtain⟨b,i⟩:=ok.to rfl F;obtain⟨v,V,s⟩:=b.tell 0 _ N;have hv:v= .ref x:=s;subst hv;have I:=i.kp x _ Y<|.inr m;refine⟨_,V,x,C,l,_,rfl,I,c,n,?_,?_⟩
  .rw[RK];lia
  obtain⟨J,s2⟩:=b.upd0 (o:= .ins C l<|eE f y<|w.zip g) m;have j:Tr (d5 B D) p (d5 B D) (upd p x<|.ins C l<|eE f y<|w.zip g):=⟨λ_ h _=>h,λa u ha e=>by
   rw[bb]
   .exact e
   .intro z;subst z;exact ha (by show B a≠OD;rw[m];simp),rfl⟩
  refine⟨B,D,G,β1,x,l,g++[y],q++[d],r,t,J,N,m,by rw[ax,tR O Q],by simp[O],ba.append (ba.tr j _ _<|ba.tr i.tr _ _ S)<|ba.cons (b5.tr j _ _ Z) ba.nil,e,?_⟩;rw[Ql];exact lS.pre (i.x.trans s2) k
 .rename_i Ce β1 A
  cases e;refine⟨.error Ce,_,A,λp F=>?_⟩;obtain⟨b,i⟩:=ok.to rfl F;exact k U B p i.x b.fr
 .cases e
end
open Classical in
def oR(m:Nat)(a:IP):a0e->M a0e:=λw D=>if h:∃r,∀x,a (nw m<|.adr x::w) [] D=on r then on h.choose else OD
theorem GS(h:∀x,b (nw m<|.adr x::c) [] d=on r):oR m b c d=on r:=by
 have a:∃r,∀x,b (nw m<|.adr x::c) [] d=on r:=⟨r,h⟩;unfold oR;rw[dif_pos a];have:=a.choose_spec 0;rw[h 0]at this;exact this.symm
theorem ES(h:oR m b c d=on r):∀x,b (nw m<|.adr x::c) [] d=on r:=by
 unfold oR at h;split at h
 .rename_i a
  have:=a.choose_spec;cases h;exact this
 .cases h
section
variable{P:Py}{w:PD}{K:Pa}{mg:a0j}{aa:PZ}
theorem JU{st:Qd}{N ps G:a0h}(n m:Nat)(ip:IP)(F:hL K x qual st f fd)(S:bt N ps<|ag st)(O:ps.length=n+1)(R:N.length=m)
  (p:∀(i:OP) (A:Qc) (D:a0C) (s:OT) (H:Hp) (E:XK),dv k (A.deeper<|Tg qual (ag st) s.heap.objs.size f i)->
   PSs (gi (hE P w) P w K mg aa N qual (ag st) f i A D s H E) (cI st) (tI K H C [] G ip (λ_=>E))):fw P w K mg aa (hE P w) (k+1) f fd ps (Zs K C G n<|oR m ip):=by
 subst R;refine F.okE S (λvs H Q E h=>?_) λi A D s H vs Q E hr h=>?_
 .obtain⟨y,M,j,ds,β,dx,rfl,hl,_⟩:=h
  rw[O4,hl,O]
 obtain⟨y,M,j,ds,β,dx,rfl,hl,fr,T,nb,hH,hd,r,d,e,h⟩:=h;refine⟨_,p i A D s H E hr,?_⟩;have U:ba K j H (.adr y::ds) (.ref y::M):=ba.cons rfl hd;obtain⟨B,ok,L,h1,hn⟩:=vi (N:=N) fr U;have hy:B y=on 0:=by
  rcases L y T with z|z
  .exact z
  .obtain⟨b,l,q,w⟩:=h1 y z
   obtain⟨W,X⟩:=nb b l q;rcases w with w|w
   .exact Pf w W
   .exact Pf w X
 have v:∀{u:Ow} {g:Hp} {d:Bg},mm y B H u g->Fr (d5 u j.bg) g d->ZH j y H g d/\Tr (d5 u j.bg) g j g:=λ{u g d} s c=>by
  have hs:∀a,j.A a->u a≠OD:=λa V=>by
   rw[s.tg a<|L a V];rcases L a V with z|z<;>rw[z]<;>simp
  refine⟨⟨λa o ne V n=>s.kp a o ne V ?_,λa V=>c.occ a<|hs a V,λb l e=>fr.bgA b l e,c.bag⟩,λa V _ z=>V<|hs a z,λ_ _ _ h=>h,rfl⟩;cases q:B a with
  |none=>exact .inl rfl
  |some t=>
   have:=L a (hn a<|by rw[q];simp);rcases this with z|z
   .rw[q]at z;exact .inr z
   .obtain⟨b,l,e,w⟩:=h1 a z
    obtain⟨W,X⟩:=n b l e;rcases w with w|w
    .exact Pf w W
    .exact Pf w X
 refine⟨B,j.bg,nw N.length<|.adr y::ds,β,y,dx,[],[],r,d,ok,rfl,hy,hH,rfl,ba.nil,ES e y,?_⟩;cases r with
 |ok es=>
  intro Y u g vs s c Z I J;obtain⟨t1,t2⟩:=v s c;exact h g vs t1 Z I<|ba.tr t2 _ _ J
 |error Ce=>
  intro Y u g s c;exact h g (v s c).1
variable{X:Cx}{E:a0s}{d:Qd}
variable{h:G}{b:Ds}{c a:Bg}{Q:a0A}{i:Nat}{f:FD}
end
section
variable{C v:ON}{m:PP}{k:a0h}{n:a0e->M D}{s:a0e->M a0e}{o:FD}{g u:FL}{p l as t:a0e}{q:List (Sr D)}{δ:Dn}{β β1 e b:Bg}{r:Except ON D×Bg}{d:D}{f:PP}{h:G}{Q:a0A}{i:Nat}{a:Ds}
theorem eZ{d:Type}{n:a0e->M d}{r:Except ON d×Bg}(a:o δ β=on (.ok<|.obj C k l,β1))(b:g δ β1=on (.ok as,e))(c:n (.obj C k l::(as++p)) e=on r)(f:m∉k:=by decide):oY C m n o g p δ β=on r:=by
 unfold oY;rw[M.bind_ok a];simp only[f,not_false_eq_true,and_self,P8];rw[M.bind_ok b];exact c
theorem kx(a:x δ β=on (.ok<|.obj C k l,β1))(b:(k.zip l).lookup f=on d):f1 (AC C f) x δ β=on (.ok d,β1):=by
 refine ZO a ?_;unfold AC;simp only[P8];exact b
theorem EO{g:G}{δ δ1:Ds}{r:Except ON a0e×Bg}(e:g δ β=on (.nx δ1,β1))(a:δ[0]?=on (on<|.sh<|.adr x))(b:δ1[0]?=on (on<|.sh<|.adr x))(k:c δ1 done β1=on r):oP g c δ done β=on r:=by
 unfold oP;simp only[e,a,b,P8];exact k
theorem re{f:FD}{δ:Ds}{d:D}{r:Except ON a0e×Bg}(e:f (vw δ) β=on (.ok d,β1))(k:c δ (done++[d]) β1=on r):kT f c δ done β=on r:=by
 unfold kT;rw[e];exact k
noncomputable def ry{a:Type}(d:a)(c:Nat)(ac:List<|List a):List (List a):=(OV c).map λj=>ac.map λb=>b.getD j d
abbrev tp(c:Nat)(ac:LI):LI:=ry 0 c ac
theorem gX{b:Type}{d:b}{r c:Nat}{e:List (List b)}(h:e.length=r):d4 c r (ry d c e):=⟨by simp[ry],λf a=>by
 obtain⟨j,_,rfl⟩:=OZ.mp a;rw[OC,h]⟩
theorem Kl{b:Type}{d:b}{e:List (List b)}(h:j<c):(ry d c e)[j]?=on (e.map λa=>a.getD j d):=by
 unfold ry;rw[OI,QB h];rfl
theorem ze{d:Int}:∀(a:a0c),(OV a.length).map (λj=>a.getD j d)=a:=λa=>by
 refine Yt λi=>?_;rw[OI];by_cases h:i<a.length
 .rw[QB h]
  show on (a.getD i d)=_;rw[OJ,OE h];rfl
 .rw[Tk (by simpa using h),Tk<|by lia];rfl
theorem rS{a:Type}(f g:a->Int):∀l:List a,(l.map λx=>f x+g x).sum=(l.map f).sum+(l.map g).sum
 |[]=>by simp
 |x::l=>by
  simp only[O0,Pi,rS f g l];lia
theorem jP{a:Type}:∀l:List a,(l.map λ_=>(0:Int)).sum=0
 |[]=>rfl
 |x::l=>by simp only[O0,Pi,jP l];rfl
theorem BJ:∀{ac:LI},(∀row∈ac,row.length=c)->tot (tp c ac)=tot ac
 |[],_=>by
  show((ry 0 c []).map P0).sum=0;unfold ry;rw[OU];exact jP<|OV c
 |row::ac,h=>by
  have d:=BJ (c:=c) (ac:=ac) λx b=>h x<|OF _ b;have a:=h row OL;unfold tot tp ry at d⊢;rw[OU]at d⊢;have e:(λj=>(P0<|(row::ac).map λrow=>row.getD j 0))=λj=>row.getD j 0+(ac.map λrow=>row.getD j 0).sum:=by
   funext j;rw[O0,Pi]
  show((OV c).map λj=>(P0<|(row::ac).map λrow=>row.getD j 0)).sum=_;rw[e,rS,<-a,ze,a,O0,Pi];congr 1
theorem HA(h:∀row∈z,∀x∈row,0<=x):∀row∈tp c z,∀x∈row,0<=x:=λrow a x b=>by
 obtain⟨j,_,rfl⟩:=OZ.mp a;obtain⟨q,k,rfl⟩:=OZ.mp b;rw[OJ];cases e:q[j]? with
 |none=>exact Ux 0
 |some y=>exact h q k y<|OW e
end
end L2.Pu
namespace L2.Pu
def h8(ns:a0c):Int:=ns.foldl SL<|ns.headD 0
theorem lu:∀(w:a0c) (z:Int),w.foldl SL z<=z/\(∀a∈w,w.foldl SL z<=a)/\(w.foldl SL z=z\/w.foldl SL z∈w)
 |[],z=>⟨Ux _,λ_ h=>(by cases h),.inl rfl⟩
 |x::w,z=>by
  obtain⟨c,b,h3⟩:=lu w<|SL z x;show w.foldl SL (SL z x)<=z/\_/\(w.foldl SL (SL z x)=z\/_);refine⟨by lia,λa ha=>?_,?_⟩
  .rcases OQ.mp ha with rfl|ha
   .show w.foldl SL (SL z a)<=a
    lia
   .exact b a ha
  .rcases h3 with h3|h3
   .by_cases q:z<=x
    .exact .inl (by rw[h3];lia)
    .exact .inr (by rw[OQ];left;rw[show Vr SL z (x::w)=w.foldl SL (SL z x)from rfl,h3];lia)
   .exact .inr (OF _ h3)
theorem md(h:ns≠[]):h8 ns∈ns:=by
 cases ns with
 |nil=>exact Pf rfl h
 |cons x ns=>
  rcases(lu (x::ns) x).2.2 with h|h
  .unfold h8
   show(x::ns).foldl SL x∈_;rw[h];exact OL
  .exact h
theorem yd(h:a∈ns):h8 ns<=a:=(lu ns _).2.1 a h
theorem Lz(b:m∈ns)(c:∀a∈ns,m<=a):m=h8 ns:=by
 have:=c _ (md (ns:=ns) λz=>by rw[z]at b;cases b);have:=yd b;lia
section
variable{X:Cx}
theorem w9{w:Array (Int×Tok)}(E:0<w.size)(e:w.toList.map (·.1)=ns):UZ w (argBest (λi j=>decide (UZ w i<UZ w j))<|w.size-1)=h8 ns:=by
 obtain⟨d,b⟩:=argBest_lt (UZ w)<|w.size-1;refine Lz ?_ λa D=>?_
 .rw[numAt_eq,e];exact getD_mem (by rw[<-e,OC,Pq];lia)
 .obtain⟨j,c,rfl⟩:=mem_getD D
  rw[<-e,OC,Pq]at c;rw[<-e,<-numAt_eq];exact b j (by lia)
variable{p:Py}{w:PD}{A:Qc}{E:a0f}{s:OT}{l:ON}{x:Array (Int×Tok)}
theorem Gq(g:A.handled=OD)(c:s.heap.IsTuple l<|SQ x)(d:0<x.size)
  (h:∀v D f,(SQ x)[argBest (λi j=>decide (UZ x i<UZ x j))<|x.size-1]?=on v->(∀b o,s.heap.get? b=on o->D.get? b=on o)->Q v {s with heap:=D,toks:=f}):
  O6 (Po p w) A (VL (.builtin "min") [.ref l]) Q E s:=by
 have a:l<s.heap.objs.size:=by obtain⟨_,e,_⟩:=c;exact Ph e
 refine call_min_walk<|UH c ⟨_,_,_,_,_,_,_,rfl,Walks.tuple (A:=A.in1) g _ l (PQ a)<|SQ x,⟨⟨_,O5 _ rfl,rfl,rfl⟩,c.at λo e=>OH _ e⟩,λb hb=>?_,by simpa[SQ]using d,CmpOf.ints_lt (UZ x) (λ_ _=>Vz),λv D f k m=>?_⟩
 .show b<(s.heap.push _).objs.size
  rw[QD];rcases OQ.mp hb with rfl|hb
  .exact Rz _
  .rcases OQ.mp hb with rfl|hb
   .exact Rp a
   .cases hb
 .exact h v D f (by simpa[SQ]using k) λb o e=>m b o (λhm=>by
   rcases OQ.mp hm with n|hm
   .exact Pf (n▸Ph e) (P6 _)
   .cases hm)<|OH _ e
variable{K:Pa}
abbrev HK(K:Pa):a0i->Hp->VK->Prop:=λx H Q=>∃(p:ON) (l:a0c),x=[.ref p]/\(eg K H p (l.map V.int)\/g_ K H p (l.map V.int))/\l≠[]/\Q (.int<|h8 l) H
theorem ul(f:X.calm=OK):cK X (.builtin "min") (HK X.K):=by
 intro g s y H x M Q I r h;obtain⟨p,w,rfl,hq,c,q⟩:=h;obtain⟨u,rfl,k⟩:=hV r;cases k;have E:∀{l:a0g},aB (w.map V.int) l->∃x:Array<|Int×Tok,l.toArray=SQ x/\x.toList.map (·.1)=w/\0<x.size:=λ{l} b=>by
  have i:=jG b;obtain⟨x,A⟩:=i.allInts.items;have a:=i.numsOf;have m:l=(SQ x).toList:=by rw[<-A]
  rw[m,VQ]at a;refine⟨x,A,a,?_⟩;have:(x.toList.map (·.1)).length=w.length:=by rw[a]
  rw[OC,Pq]at this;cases w with
  |nil=>exact Pf rfl c
  |cons=>rw[this];exact Nat.succ_pos _
 rcases hq with hq|hq
 .obtain⟨l,b,pl,n⟩:=I.list hq
  obtain⟨x,A,a,D⟩:=E b;have j:=pl.isList;rw[A]at j;refine min_intList (I.ok.hd f) j D λv G o d e=>?_;obtain⟨t,rfl⟩:=Vz d;rw[w9 D a];exact⟨.int<|h8 w,H,I.kept e,⟨_,rfl⟩,q⟩
 .obtain⟨l,b,pl,n⟩:=I.tuple hq
  obtain⟨x,A,a,D⟩:=E b;rw[A]at pl;refine Gq (I.ok.hd f) pl D λv G o d e=>?_;obtain⟨t,rfl⟩:=Vz d;rw[w9 D a];exact⟨.int<|h8 w,H,I.kept e,⟨_,rfl⟩,q⟩
def uI:Option a0c->a0k
 |some (n::ns)=>on<|.int<|h8<|n::ns
 |_=>OD
def qV:a0e->a0k
 |[.lst x]=>uI<|cS x
 |[.tup x]=>uI<|cS x
 |_=>OD
theorem tU(e:uI o=on d):∃l,o=on l/\l≠[]/\d= .int (h8 l):=by
 match o,e with
 |some (n::l),e=>cases e;exact⟨_,rfl,(λz=>by cases z),rfl⟩
theorem EF:d9 K (HK K) qV:=λF H s Q w d A fr h e k=>by
 unfold qV at e;split at e
 .rename_i x
  obtain⟨l,q,b,rfl⟩:=tU e;obtain⟨v,rfl,g⟩:=ba.one h;obtain⟨a,p,rfl,r,dl⟩:=b5.sqL g;rw[fh q]at dl;have c:=ba.ints l dl;subst c;exact⟨a,l,rfl,.inl r,b,k _ H (To.refl fr) rfl⟩
 .rename_i x
  obtain⟨l,q,b,rfl⟩:=tU e;obtain⟨v,rfl,g⟩:=ba.one h;obtain⟨a,p,rfl,r,dl⟩:=b5.sqT g;rw[fh q]at dl;have c:=ba.ints l dl;subst c;exact⟨a,l,rfl,.inr r,b,k _ H (To.refl fr) rfl⟩
 .cases e
end
end L2.Pu
namespace L2
end L2
namespace L2.Pu
section
variable{X:Cx}{E:a0s}{K:Pa}{f k c:Expr}{e:List Expr}{b:a0P}{a:Scope}{d:TF}{m j:a0h}{l:a0a}{g:TG}{i:a0Y}
variable{f:Qd}{a:Hp}{B:Ow}{g:a0q}{H h:Hp}{d:Ds}{e b:Bg}{c:St}
theorem lU1{us:a0g}(h:us.length=1):∃a,us=[a]:=List.length_eq_one_iff.mp h
theorem lU2{us:a0g}(h:us.length=2):∃c d,us=[c,d]:=by
 obtain⟨a,l,rfl⟩:=SG h;obtain⟨b,rfl⟩:=lU1 (us:=l) (by simpa using h);exact⟨_,_,rfl⟩
theorem lU3{us:a0g}(h:us.length=3):∃d e f,us=[d,e,f]:=by
 obtain⟨a,l,rfl⟩:=SG h;obtain⟨b,c,rfl⟩:=lU2 (us:=l) (by simpa using h);exact⟨_,_,_,rfl⟩
theorem lU4{us:a0g}(h:us.length=4):∃e f g i,us=[e,f,g,i]:=by
 obtain⟨a,l,rfl⟩:=SG h;obtain⟨b,c,d,rfl⟩:=lU3 (us:=l) (by simpa using h);exact⟨_,_,_,_,rfl⟩
end
section
variable{X:Cx}{E:a0s}{e q o z B i:Expr}{u:List Expr}{t p:TF}{f1 f2 I J d:FD}{g:FL}{k j n:Nat}{f:ON}{y:Pd}{v:a0h}{x:PP}{a:a0e->a0k}{r:a0I}{c T:String}
theorem vv(i:Nat){x:PP}(b:X.N[i]?=on x:=by rfl)(c:Zd X.env.scope x:=by first|exact QY rfl|exact RC (QY rfl)|exact RC (RC rfl))(d:b0c x:=by decide)
  (a:(x==("__classdict__":PP))=OO:=by decide):PE X (.Name x t) (tV X.K (af i) E):=M2 i<|pv i b c d a
theorem cx(a:PE X q<|tV X.K f1 E)(b:b0a X q []:=by rfl):PA X [q] (hX X.K (ae f1 az) E):=ft a fM b
theorem dk(a:PE X q<|tV X.K f1 E)(b:PE X o<|tV X.K f2 E)(c:b0a X q [o]:=by rfl)(d:b0a X o []:=by rfl):PA X [q,o] (hX X.K (ae f1<|ae f2 az) E):=ft a (cx b d) c
theorem rx(a:PE X q<|tV X.K f1 E)(b:PE X o<|tV X.K f2 E)(c:PE X z<|tV X.K I E)(d:b0a X q [o,z]:=by rfl)(h:b0a X o [z]:=by rfl)(i:b0a X z []:=by rfl):PA X [q,o,z] (hX X.K (ae f1<|ae f2<|ae I az) E):=ft a (dk b c h i) d
theorem y_(a:PE X q<|tV X.K f1 E)(b:PE X o<|tV X.K f2 E)(c:PE X z<|tV X.K I E)(d:PE X B<|tV X.K J E)(h:b0a X q [o,z,B]:=by rfl)(i:b0a X o [z,B]:=by rfl)(l:b0a X z [B]:=by rfl)(m:b0a X B []:=by rfl):PA X [q,o,z,B] (hX X.K (ae f1<|ae f2<|ae I<|ae J az) E):=ft a (rx b c d i l m) h
theorem L_(c:Dn)(d:Bg)(r:a0e)(a:Bg)(h:az c d=on (.ok r,a)):r.length=0:=Hh h
structure FB (P:Py) (w:PD) (K:Pa) (mg:a0j) (base:PZ) (k:Nat) (x:PP) (f:ON) (y:Pd) (v:a0h) (n:Nat) (m:a0e->M D):Prop where
 ok:fw P w K mg base (hE P w) k f y v (Ic K n m)
 m:mg x=on (.ref f)
 kp:UF K (.ref f)=OK
 b:dH K y v []
theorem vc(G:FB X.prog X.w X.K X.mg X.base j x f y v n m)(h:dv k X.A)(z:PA X (e::u)<|hX X.K g E)(i:j<=k:=by decide)(l:dT (hE X.prog X.w) X E:=by first|exact eV|exact zk|assumption)(o:Gl X x:=by rfl)
  (B:∀D I r d,g D I=on (.ok r,d)->r.length=n:=by repeat (first|exact L_|apply bO)) (a:b0c x:=by decide) (q:b0a X e u:=by rfl) (c:b0b X t u:=by rfl):
  PE X (.Call (.Name x p) (e::u) [] t) (tV X.K (bK m g) E):=Ke G.ok (h.mono i) o G.m G.kp G.b l z B a q c
theorem bF(d:X.mg "len"=OD)(f:PA X (e::u)<|hX X.K g E)(b:Gl X "len":=by rfl)(c:b0a X e u:=by rfl)(a:b0b X t u:=by rfl):PE X (.Call (.Name "len" p) (e::u) [] t) (tV X.K (aV eJ g) E):=bU nU NG b d Wd f (by decide) (by decide) c a
theorem gJ(f:X.mg "sum"=OD)(i:PA X (e::u)<|hX X.K g E)(b:Gl X "sum":=by rfl)(c:X.calm=OK:=by rfl)(d:b0a X e u:=by rfl)(a:b0b X t u:=by rfl):PE X (.Call (.Name "sum" p) (e::u) [] t) (tV X.K (aV h9 g) E):=bU (Fa c) LD b f Boot.«sum» i (by decide) (by decide) d a
theorem kX(d:X.mg "isinstance"=OD)(f:PA X (e::u)<|hX X.K g E)(b:Gl X "isinstance":=by rfl)(c:b0a X e u:=by rfl)(a:b0b X t u:=by rfl):PE X (.Call (.Name "isinstance" p) (e::u) [] t) (tV X.K (aV GQ g) E):=bU Ff NH b d Boot.«isinstance» f (by decide) (by decide) c a
theorem f_{d:Scope}(a f:a0h)(e:a0a)(k:d.kind= .function:=by rfl)(g:(d.names.map (·.1)).Nodup:=by decide +kernel)
  (fr:(d.names.all λy=>y.2 != .free||(X.env.scope.names.lookup y.1==on .cell||X.env.scope.names.lookup y.1==on .free))=OK:=by rfl) (b:a=f++e.map (λj=>X.N.getD j SK):=by rfl)
  (c:(e.all λj=>decide (j<X.N.length)&&d.names.lookup (X.N.getD j SK)==on .free)=OK:=by rfl):cy X d a f e:=cy.ofB k g fr b c
theorem en{a:a0h}(h:a.Nodup:=by decide +kernel):(aP X a b cl C l s H).N.Nodup:=h
theorem dc(i:Nat){x:PP}(a:X.N.Nodup)(b:X.N[i]?=on x:=by rfl)(c:x5 X.env.scope x:=by first|exact QY rfl|exact RC rfl)(d:b0d X x:=by first|exact .inl rfl|exact .inr rfl|assumption):PG X (.Name x t) (gc i):=xZ a b c d
theorem d_(i:Nat){x:PP}{e:Expr}{t a:TF}(b:X.N.Nodup)(c:PE X e m)(d:X.N[i]?=on x:=by rfl)(h:x5 X.env.scope x:=by first|exact QY rfl|exact RC rfl)(f:TY e (on (.Name x a)) t.line X.env=Rm OO:=by rfl)(l:b0d X x:=by first|exact .inl rfl|exact .inr rfl|assumption):PS X (.Assign [.Name x a] e t) (kY m (gc i)):=qP b d h c f l
theorem na{Q:a0g->Prop}(h:∀a,Q [a])(us:a0g)(b:us.length=1):Q us:=by obtain⟨_,rfl⟩:=lU1 b;exact h _
theorem n_{Q:a0g->Prop}(h:∀a b,Q [a,b])(us:a0g)(c:us.length=2):Q us:=by obtain⟨_,_,rfl⟩:=lU2 c;exact h _ _
theorem s_{Q:a0g->Prop}(h:∀a b c,Q [a,b,c])(us:a0g)(d:us.length=3):Q us:=by obtain⟨_,_,_,rfl⟩:=lU3 d;exact h _ _ _
theorem Y3{Q:a0g->Prop}(h:∀a b c d,Q [a,b,c,d])(us:a0g)(i:us.length=4):Q us:=by obtain⟨_,_,_,_,rfl⟩:=lU4 i;exact h _ _ _ _
theorem e_{N Q:a0h}{c:Scope}(a:c.kind= .function:=by rfl)(b:c.isCoroutine=OO:=by rfl)(g:c.isGenerator=OO:=by rfl)(d:N.Nodup:=by decide +kernel)(e:N.take Q.length=Q:=by rfl)(f:∀x∈Q,c.names.lookup x=on .local\/c.names.lookup x=on .cell:=by decide +kernel)(h:∀y∈c.names,y.2≠ .free:=by decide +kernel):bt N Q c:=⟨a,b,g,d,e,f,h⟩
structure fx (K:Pa) (mg:a0j) (x:PP) (st:Qd) (f:ON) (y:Pd) (v:a0h):Prop where
 F:hL K x x st f y
 m:mg x=on (.ref f)
 b:dH K y v []
theorem gl{P:Py}{w:PD}{K:Pa}{mg:a0j}{base:PZ}{x:PP}{e:Qd}{f:ON}{y:Pd}{N v:a0h}{k n:Nat}{g:G}(m:Nat)(F:fx K mg x e f y v)(S:bt N v<|ag e)(a:∀(c:OP) (A:Qc) (d:a0C) (s:OT) (H:Hp) (E:XK),dv k (A.deeper<|Tg x (ag e) s.heap.objs.size f c)->PSs (gi (hE P w) P w K mg base N x (ag e) f c A d s H E) (cI e) (tG K H g (λ_=>E)))(i:v.length=n:=by rfl)(j:N.length=m:=by rfl):FB P w K mg base (k+1) x f y v n (gG m g):=⟨k6 n m g F.F S i j a,F.m,F.F.kp,F.b⟩
def Al:List Prop->Prop
 |[]=>True
 |p::l=>p/\Al l
theorem aD{p:Prop}(h:p)(t:Al l):Al (p::l):=⟨h,t⟩
theorem MP:∀{l:List Prop},Al l->∀i,l.getD i True
 |[],_,_=>trivial
 |_::_,h,0=>h.1
 |_::_,h,i+1=>MP h.2 i
end
end L2.Pu
namespace L2
section
variable{a:Py}{w:PD}{A:Qc}{E:a0f}{s:OT}{K:Pa}
variable{X:Cx}
end
namespace Pu
section
variable{X:Cx}{E:a0s}
end
end Pu
end L2
namespace L2.Pu
section
variable{X:Cx}{E:a0s}{a b:Expr}{l:TF}{k:Nat}{f C:ON}{m:Pd}{ps:a0h}{K:Pa}
structure IsC (K:Pa) (C:ON):Prop where
 cl:ro K C
 ha:Th K (.ref C) "__class__"=on (on<|.builtin "object.__class__")
 hn:specialIn K (.builtin "object.__class__") "__get__"=on (on<|.builtin "getset_descriptor.__get__")
 htk:Yh K (.builtin "object.__class__")=on OK
 hm:PySem.W.mroIn K C (.type "object")=on OK
theorem Hz{r c:Nat}{a:LI}(b:d4 r c a):tp r (tp c a)=a:=by
 obtain⟨e,g⟩:=b;refine QE (by simp[ry,e]) λi n d=>?_;have h:a[i].length=c:=g _<|PF d;refine QE (by simp[ry,h]) λj o l=>?_;have m:j<c:=by lia
 simp[ry,OJ,m,d,l]
variable{k f e b:TF}
noncomputable def S(n:Nat)(f:a0D):Int:=((OV n).map f).sum
theorem MU(f:a0D):S 0 f=0:=rfl
theorem fm(n:Nat)(f:a0D):S (n+1) f=S n f+f n:=by
 unfold S;rw[Q9,Pw,TM];simp
theorem bN{f g:a0D}(h:∀i<n,f i=g i):S n f=S n g:=by
 unfold S;rw[Pk λi c=>h i<|O9.mp c]
theorem iW(n:Nat)(f g:a0D):S n (λi=>f i+g i)=S n f+S n g:=rS f g _
theorem lQ(n:Nat):S n (λ_=>0)=0:=jP _
theorem uT(n:Nat)(f:a0D):S n (λi=>-f i)=-S n f:=by
 induction n with
 |zero=>rfl
 |succ n a=>rw[fm,fm,a];lia
theorem Fq(n m:Nat)(h:a0u):S n (λi=>S m (λj=>h i j))=S m (λj=>S n (λi=>h i j)):=by
 induction n with
 |zero=>rw[MU];exact(lQ m).symm
 |succ n a=>
  rw[fm,a,<-iW];exact bN λj _=>(fm n _).symm
theorem pI{g:a0D}:∀{l L:a0a},l.Sublist L->L.Nodup->(l.map g).sum=(L.map λx=>if x∈l then g x else 0).sum
 |_,_,.slnil,_=>rfl
 |l,_,.cons a (l₂:=L) h,nd=>by
  have c:=(Pz.mp nd);have b:a∉l:=λz=>c.1<|h.subset z;rw[O0,Pi,OR b,pI h c.2,Ru]
 |_,_,.cons₂ a (l₁:=l) (l₂:=L) h,nd=>by
  have c:=(Pz.mp nd);rw[O0,O0,Pi,Pi,OS OL,pI h c.2];congr 2;refine Pk λx e=>?_;have d:x≠a:=λz=>c.1<|z▸e;by_cases q:x∈l
  .rw[OS q,OS<|OF _ q]
  .rw[OR q,OR λz=>(OQ.mp z).elim d q]
theorem oi{l:a0a}(h:l.Sublist<|OV n):(l.map g).sum=S n λx=>if x∈l then g x else 0:=pI h UK
theorem yp{p:Nat->Bool}{g:a0D}:∀l:a0a,((l.filter p).map g).sum=(l.map λx=>if p x=OK then g x else 0).sum
 |[]=>rfl
 |x::l=>by
  rw[Tp,O0,Pi,<-yp l];by_cases q:p x=OK
  .rw[OS q,OS q,O0,Pi]
  .rw[OR q,OR q,Ru]
noncomputable abbrev nI(l:a0a):a0c:=l.map λ(i:Nat)=>(i:Int)
noncomputable abbrev nL(l:a0a):D:= .lst<|(nI l).map D.int
theorem ym:∀a:a0c,Y1 (.int i) (a.map D.int)=decide (i∈a)
 |[]=>rfl
 |x::a=>by
  have b:=ym (i:=i) a;unfold Y1 at b⊢;rw[O0,Uy,b];show(decide (x=i)||_)=_;rw[Se];simp only[Bool.or_eq_true,PR,OQ];constructor
  .rintro(h|h)
   .exact .inl h.symm
   .exact .inr h
  .rintro(h|h)
   .exact .inl h.symm
   .exact .inr h
theorem uc:∀a:a0c,(a.map D.int).all dS=OK
 |[]=>rfl
 |_::a=>uc a
theorem Mp{b:a0c}{a:Bool}:YK a (.int i) (.lst<|b.map D.int)=on (.bl (if a then !decide (i∈b)else decide (i∈b))):=by
 show(if(dS (.int i)&&(b.map D.int).all dS)=OK then _ else _)=_;rw[uc,Bool.and_true,OS (show dS (.int i)=OK from rfl),ym]
theorem Lw{i:Nat}{l:a0a}:((i:Int)∈nI l)↔i∈l:=by
 constructor
 .intro h
  obtain⟨j,c,e⟩:=OZ.mp h;exact(Int.ofNat.inj e)▸c
 .intro h
  exact OZ.mpr ⟨i,h,rfl⟩
theorem rh{i:Nat}{l:a0a}{a:Bool}:YK a (.int (i:Int)) (nL l)=on (.bl (if a then !decide (i∈l)else decide (i∈l))):=by
 rw[Mp];simp only[Lw]
theorem kh{b:Type}{f:FD}(xs:List b)(u v:b->D)(p:b->Bool)(g:it δ β=on (.ok<|xs.map u,β))
  (i:∀x∈xs,∃a,tg (u x) (ko nv b0 δ)=on a/\tt a β=on (.ok<|p x,β)/\(p x=OK->f a β=on (.ok<|v x,β))) (j:xs.length<=Pe):cB nv b0 it tg tt (js f) δ β=on (.ok<|.lst<|(xs.filter p).map v,β):=by
 refine sL g ?_ (by rw[OC];exact Pl (List.length_filter_le _ _) j);have k:∀xs:List b,(∀x∈xs,∃a,tg (u x) (ko nv b0 δ)=on a/\tt a β=on (.ok<|p x,β)/\(p x=OK->f a β=on (.ok<|v x,β)))->l9 tg tt (js f) (xs.map u) (ko nv b0 δ) β=on (.ok<|(xs.filter p).map v,β):=by
  intro xs
  induction xs with
  |nil=>intro _;rfl
  |cons x xs w=>
   intro h;obtain⟨a,d,c,l⟩:=h x OL;have e:=w λy m=>h y<|OF _ m;rw[O0,l9,Tp];cases q:p x with
   |true=>
    rw[q]at c;simp only[d,M.bind,M.ret,c,js,l q,e,OS,O0,SE,RM]
   |false=>
    rw[q]at c;simp only[d,M.bind,M.ret,c,e,Pb,Qe,RM]
 exact k xs i
theorem pz:∀(n:Nat) (a:a0e),cm n a=(OV a.length).map λ(i:Nat)=>D.tup [.int ((n+i:Nat):Int),a.getD i .non]
 |n,[]=>rfl
 |n,x::a=>by
  rw[cm,pz (n+1) a,O4,W3,O0,OU];congr 1;refine Pk λi _=>?_;simp only[Ua];rw[show n+1+i=n+(i+1) by lia];rfl
noncomputable abbrev bI(b:LP)(i j:Nat):Int×Int:=(b.getD i []).getD j (0,0)
theorem d4.getD{α:Type}{m:List (List α)}(h:d4 r c m)(d:i<r):m[i]?=on (m.getD i [])/\(m.getD i []).length=c:=by
 obtain⟨a,e,l⟩:=h.at d;have:m.getD i []=a:=by rw[OJ,e];rfl
 rw[this];exact⟨e,l⟩
theorem lO{a:Type}{l:List a}{i:Nat}{d:a}(h:i<l.length):l[i]?=on (l.getD i d):=by
 rw[OJ,OE h];rfl
theorem oN{xs:a0c}(h:i<xs.length):gt (.lst<|xs.map D.int) (.int (i:Int))=on (.int<|xs.getD i 0):=cf (by rw[OI,lO h];rfl)
theorem wq{b:LP}(a:d4 r c b)(g:i<r)(h:j<c):gt (dE b) (.int (i:Int))=on (.lst<|(b.getD i []).map pD)/\gt (.lst<|(b.getD i []).map pD) (.int (j:Int))=on (pD<|bI b i j):=by
 obtain⟨e,l⟩:=a.getD g;refine⟨mh (by rw[OI,e];rfl),cf ?_⟩;rw[OI,lO (d:=(0,0))<|by lia];rfl
noncomputable def qT(a:a0c)(c:a0a):Int:=(c.map λi=>a.getD i 0).sum
def gb(a:a0c)(b:LP)(r:Nat)(c:a0a)(j:Nat):Int:=a.getD j 0-S r λi=>if i∈c then 0 else(bI b i j).1
def hG(b:LP)(c:a0a)(j:Nat):Int:=(c.map λi=>(bI b i j).2).sum
def uC(a:a0c)(b:LP)(r c:Nat)(d e:a0a):Int:=S c λj=>if j∈e then gb a b r d j else hG b d j
def hF(b:LP)(c d:a0a)(i j:Nat):Int:=(if i∈c/\j∉d then(bI b i j).2 else 0)-(if i∉c/\j∈d then(bI b i j).1 else 0)
theorem IX{b:LP}{d e:a0a}(h:d.Sublist<|OV r)(g:e.Sublist<|OV c):
  uC cs b r c d e=qT cs e+S r λi=>S c λj=>hF b d e i j:=by
 unfold uC qT;rw[oi g,Fq,<-iW];refine bN λj l=>?_;by_cases q:j∈e
 .rw[OS q,OS q]
  unfold gb;rw[Int.sub_eq_add_neg,<-uT];congr 1;refine bN λi g=>?_;unfold hF;by_cases z:i∈d
  .simp[z,q]
  .simp[z,q]
 .rw[OR q,OR q,Ru]
  unfold hG;rw[oi h];refine bN λi g=>?_;unfold hF;by_cases z:i∈d
  .simp[z,q]
  .simp[z,q]
end
end L2.Pu
namespace L2.Pu
section
variable{X:Cx}{K:Pa}
def KP(K:Pa):V->a0i->Hp->VK->Prop:=λx D H Q=>∃(p:ON) (w:a0i) (y:V) (j:Nat),x= .ref p/\D=[y]/\eg K H p w/\fL y=OK/\w.all fL=OK/\(w.findIdx? λz=>x0 z y)=on j/\Q (.int (j:Int)) H
theorem Gp:MtR X "list.index" (KP X.K):=by
 intro i s Y H x vs v us Q I t A h;obtain⟨p,G,y,j,rfl,rfl,B,C,M,J,q⟩:=h;cases t;obtain⟨u,rfl,L⟩:=A.one;obtain⟨D,r,pl,l⟩:=I.list B;obtain⟨⟨aa,Z,P,N⟩,n,e,m,S,V⟩:=pl;simp only at m S V;subst m S V;have O:=r.length;obtain⟨b,R,T⟩:=Vu.mp J;have E:∀k (c:k<D.toArray.size) (a:k<G.length),pj y D.toArray[k]=x0 G[k] y:=λk c a=>by
  obtain⟨w,U,d⟩:=r.get<|OE a;have f:fL G[k]=OK:=Re.mp M _<|PF a;have:D.toArray[k]=w:=by
   have W:D[k]?=on w:=U;rw[List.getElem_toArray];exact(OM.mp W).2
  rw[this,wP d f]
 have sz:D.toArray.size=G.length:=by rw[O7,O]
 have o:=j7;refine VY Wt ⟨_,e,rfl⟩ PySem.F.entry_list_index (PySem.F.args_list_index_2 _ _) (SeqAt.list_indexAt p D.toArray n OD N u (pj y) j (by lia) (by lia) ?_ ?_) ⟨e,λz l=>iE L C r M z (by simpa using l),?_⟩
 .rw[E j (by lia) b];exact R
 .intro k c g
  rw[E k c<|by lia];simpa using T k g
 .exact⟨.int (j:Int),H,I.kept (t':=s.toks+1) λ_ _ z=>z,⟨_,rfl⟩,q⟩
variable{E:a0s}{o e:Expr}{P s:TF}
def wy(e:a0e):a0e->a0k
 |[y]=>if(dS y&&e.all dS)=OK then(e.findIdx? λz=>L3 z y).map λ(j:Nat)=>D.int (j:Int)else OD
 |_=>OD
def G3(f:FD)(g:FL):FD:=λe=>M.bind (f e) λd=>match d with
 | .lst ds=>M.bind (g e) λo=>M.ofO<|wy ds o
 |_=>M.fail
theorem wI{w:V}(a:dS y=OK)(b:b5 K F H y w):∀{o:a0e} {e:a0i},ba K F H o e->o.all dS=OK->e.all fL=OK/\(e.findIdx? λz=>x0 z w)=o.findIdx? λz=>L3 z y
 |[],e,h,_=>by
  obtain rfl:e=[]:=h;exact⟨rfl,rfl⟩
 |d::o,e,h,f=>by
  obtain⟨x,r,rfl,c,g⟩:=h;rw[Tu,Pr]at f;obtain⟨i,j⟩:=wI a b g f.2;refine⟨by rw[Tu,lL f.1 c,i];rfl,?_⟩;rw[X7,X7,E4 f.1 a c b,j]
theorem yQ(Y:PE X o<|tV X.K f E)(ha:PA X [e]<|hX X.K g E)
  (i:SB o "index" X.env (Qh o X.env)=Qh o X.env:=by rfl)
  (m:((Q5 s<|O1 [e] X.env).all (λx=>!x.1)&&(Sc s<|Q6 [] X.env).all (λx=>x.1.isSome)
   &&decide ([e].length+([]:a0Z).length+(if([]:a0Z).isEmpty then 0 else 1)<30))=OK:=by rfl)
  (l:(P.endLine==s.line)=OK:=by rfl) (hs:b0a X e []:=by rfl) (c:b0b X s []:=by rfl):
  PE X (.Call (.Attribute o "index" P) [e] [] s) (tV X.K (G3 f g) E):=
 (iU Qo Wt PySem.F.type_list_index Gp Y ha i m l hs c).imp λZ H Q n=>j2 n λF V β fr O h=>⟨F,V,β,fr,O,(run.bind (R:=b5 X.K F) h).mono λv H1 n=>l0 n λd G t hd r1=>by
  have S:∀{A:M D},A=M.fail->run (b5 X.K F) F E Z A H1 Q G->False:=λ{A} e r=>by
   obtain⟨r,aa,T,_⟩:=r;rw[e]at T;cases T
  cases d<;>first|exact(S rfl r1).elim|skip
  rename_i ds;have B:=hd;obtain⟨a,xs,rfl,C,dl⟩:=b5.sqL hd;refine⟨.inl ⟨rfl,xs,C⟩,F,V,G,t.fr,O.tr<|t.tr fr,(run.bind (R:=ba X.K F) r1).mono λvs H2 n=>l0 n λas ab U I r2=>?_⟩;obtain⟨z,b,k⟩:=run.ofO r2
  match as,b with
  |[y],b=>
   unfold wy at b;simp only at b;split at b
   .rename_i u
    rw[Pr]at u;obtain⟨w,rfl,W⟩:=ba.one I;have J:=b5.tr (U.tr t.fr) _ _ B;obtain⟨a',L,ea,p,N⟩:=b5.sqL J;cases ea;obtain⟨i1,i2⟩:=wI u.1 W N u.2;cases q:ds.findIdx? λz=>L3 z y with
    |none=>rw[q]at b;cases b
    |some j=>
     rw[q]at b;cases b;exact⟨a,L,w,j,rfl,rfl,p,lL u.1 W,i1,i2.trans q,k _ H2 (To.refl U.fr) rfl⟩
   .cases b⟩
def im(ns:a0c):Int:=ns.foldl Vi<|ns.headD 0
theorem j1:∀(e:a0c) (z:Int),z<=e.foldl Vi z/\(∀a∈e,a<=e.foldl Vi z)/\(e.foldl Vi z=z\/e.foldl Vi z∈e)
 |[],z=>⟨Ux _,λ_ h=>(by cases h),.inl rfl⟩
 |x::e,z=>by
  obtain⟨c,b,h3⟩:=j1 e<|Vi z x;show z<=e.foldl Vi (Vi z x)/\_/\(e.foldl Vi (Vi z x)=z\/_);refine⟨by lia,λa ha=>?_,?_⟩
  .rcases OQ.mp ha with rfl|ha
   .show a<=e.foldl Vi (Vi z a)
    lia
   .exact b a ha
  .rcases h3 with h3|h3
   .by_cases q:x<=z
    .exact .inl (by rw[h3];lia)
    .exact .inr (by rw[OQ];left;rw[show Vr Vi z (x::e)=e.foldl Vi (Vi z x)from rfl,h3];lia)
   .exact .inr (OF _ h3)
theorem t7(h:ns≠[]):im ns∈ns:=by
 cases ns with
 |nil=>exact Pf rfl h
 |cons x ns=>
  rcases(j1 (x::ns) x).2.2 with h|h
  .unfold im
   show(x::ns).foldl Vi x∈_;rw[h];exact OL
  .exact h
theorem wA(h:a∈ns):a<=im ns:=(j1 ns _).2.1 a h
theorem JN(b:m∈ns)(c:∀a∈ns,a<=m):m=im ns:=by
 have:=c _ (t7 (ns:=ns) λz=>by rw[z]at b;cases b);have:=wA b;lia
theorem Fk{o:Array (Int×Tok)}(w:0<o.size)(e:o.toList.map (·.1)=ns):UZ o (argBest (λi j=>decide (UZ o i>UZ o j))<|o.size-1)=im ns:=by
 obtain⟨d,b⟩:=argBest_gt (UZ o)<|o.size-1;refine JN ?_ λa s=>?_
 .rw[numAt_eq,e];exact getD_mem (by rw[<-e,OC,Pq];lia)
 .obtain⟨j,c,rfl⟩:=mem_getD s
  rw[<-e,OC,Pq]at c;rw[<-e,<-numAt_eq];exact b j (by lia)
abbrev HL(K:Pa):a0i->Hp->VK->Prop:=λo H Q=>∃(p:ON) (e:a0c),o=[.ref p]/\eg K H p (e.map V.int)/\e≠[]/\Q (.int<|im e) H
theorem Fd(g:X.calm=OK):cK X (.builtin "max") (HL X.K):=by
 intro c s y H e M Q I r h;obtain⟨p,o,rfl,i,a,q⟩:=h;obtain⟨u,rfl,j⟩:=hV r;cases j;obtain⟨w,k,G,A⟩:=I.list i;have d:=jG k;obtain⟨e,D⟩:=d.allInts.items;have b:=d.numsOf;have l:w=(SQ e).toList:=by rw[<-D]
 rw[l,VQ]at b;have E:0<e.size:=by
  have:(e.toList.map (·.1)).length=o.length:=by rw[b]
  rw[OC,Pq]at this;cases o with
  |nil=>exact Pf rfl a
  |cons=>rw[this];exact Nat.succ_pos _
 have f:=G.isList;rw[D]at f;refine max_intList (I.ok.hd g) f E λv P B m n=>?_;obtain⟨t,rfl⟩:=Vz m;rw[Fk E b];exact⟨.int<|im o,H,I.kept n,⟨_,rfl⟩,q⟩
def uJ:a0e->a0k
 |[.lst xs]=>match cS xs with
  |some (n::ns)=>on<|.int<|im<|n::ns
  |_=>OD
 |_=>OD
theorem LF:d9 K (HL K) uJ:=λF H o Q s d w fr h e k=>by
 unfold uJ at e;split at e
 .rename_i xs
  split at e
  .rename_i n ns q
   cases e;obtain⟨v,rfl,g⟩:=ba.one h;obtain⟨a,D,rfl,r,dl⟩:=b5.sqL g;rw[fh q]at dl;have b:=ba.ints (n::ns) dl;subst b;exact⟨a,n::ns,rfl,r,λz=>(by cases z),k _ H (To.refl fr) rfl⟩
  .cases e
 .cases e
theorem rO(c:Nat->Ds->Bg->Prop)
  (D:∀n δ β,c n δ β->(∃β1,t (gs δ) β=on (.ok OO,β1)/\Gw h δ β1 Q)\/∃β1,t (gs δ) β=on (.ok OK,β1)/\Gw g δ β1 (λo w=>∃s,o= .nx s/\∃m,m<n/\c m s w)):
  ∀(n:Nat) (δ:Ds) (β:Bg),c n δ β->Gw (aW (YM t g) h) δ β Q:=by
 have E:∀(n:Nat) (δ:Ds) (β:Bg),c n δ β->∃k a b,ck t g k δ β=on (.nx a,b)/\Gw h a b Q:=by
  intro n
  induction n using Wc with
  |_ n ih=>
   intro δ β hI;rcases D n δ β hI with⟨β1,e,k⟩|⟨β1,e,k⟩
   .exact⟨1,δ,β1,by unfold ck;simp only[e],k⟩
   .obtain⟨o,w,f,s,rfl,m,hm,d⟩:=k
    obtain⟨k,a,b,i,j⟩:=ih m hm s w d;exact⟨k+1,a,b,by unfold ck;simp only[e,f,i],j⟩
 intro n δ β hI;obtain⟨k,a,b,e,l⟩:=E n δ β hI;exact f7 (Mw e) l
end
end L2.Pu
namespace L2.Pu
noncomputable def Mz:G:=λ_ _=>OD
theorem bV{w:Qd}{K:Pa}{E:a0s}:PS X w (tG K H Mz E):=λ_ _ _ _ _ _ h=>by
 obtain⟨_,_,_,_,_,_,_,e,_⟩:=h;cases e
section
variable{j:Py}{w:PD}{A:Qc}{E:a0f}{s:OT}{l:ON}{t:Array (Int×Tok)}
theorem FT(f:A.handled=OD)(c:s.heap.IsTuple l<|SQ t)
  (h:∀D d G,(∀b o,s.heap.get? b=on o->D.get? b=on o)->Q (.int (preSum (UZ t) t.size) G) {s with heap:=D,toks:=d}):
  O6 (Po j w) A (VL (.builtin "sum") [.ref l]) Q E s:=by
 have a:l<s.heap.objs.size:=by obtain⟨_,e,_⟩:=c;exact Ph e
 refine call_sum_walkG<|UH c ⟨_,_,_,_,_,_,UZ t,rfl,Walks.tuple (A:=A.in1) f _ l (PQ a)<|SQ t,⟨⟨_,O5 _ rfl,rfl,rfl⟩,c.at λo e=>OH _ e⟩,λb hb=>?_,(λ_ _=>Vz),λD d G g=>?_⟩
 .show b<(s.heap.push _).objs.size
  rw[QD];rcases OQ.mp hb with rfl|hb
  .exact Rz _
  .rcases OQ.mp hb with rfl|hb
   .exact Rp a
   .cases hb
 .have:=h D d G λb o e=>g b o (λhm=>by
   rcases OQ.mp hm with i|hm
   .exact Pf (i▸Ph e) (P6 _)
   .cases hm)<|OH _ e
  simpa[SQ]using this
variable{X:Cx}{K:Pa}
abbrev HJ(K:Pa):a0i->Hp->VK->Prop:=λt H Q=>∃(p:ON) (j:a0c),t=[.ref p]/\(eg K H p (j.map V.int)\/g_ K H p (j.map V.int))/\Q (.int j.sum) H
theorem E9(b:X.calm=OK):cK X (.builtin "sum") (HJ X.K):=by
 intro a s f H t E Q I r h;obtain⟨p,l,rfl,hq|hq,q⟩:=h
 .exact uk b a s f H _ E Q I r ⟨p,l,rfl,hq,q⟩
 .obtain⟨u,rfl,g⟩:=hV r
  cases g;obtain⟨w,i,A,m⟩:=I.tuple hq;have c:=jG i;obtain⟨t,D⟩:=c.allInts.items;have d:=c.numsOf;have j:w=(SQ t).toList:=by rw[<-D]
  rw[j,VQ]at d;rw[D]at A;refine FT (I.ok.hd b) A λG n M k=>?_;have e:preSum (UZ t) t.size=l.sum:=by rw[preSum_eq,Sa (by simp),d]
  rw[e];exact⟨.int l.sum,H,I.kept k,⟨_,rfl⟩,q⟩
def qu:a0e->a0k
 |[.lst t]=>(cS t).map λj=> .int j.sum
 |[.tup t]=>(cS t).map λj=> .int j.sum
 |_=>OD
theorem LC:d9 K (HJ K) qu:=λF H s Q w d A fr h e k=>by
 unfold qu at e;split at e
 .rename_i t
  obtain⟨j,q,rfl⟩:=S9.mp e;obtain⟨v,rfl,g⟩:=ba.one h;obtain⟨a,l,rfl,r,dl⟩:=b5.sqL g;rw[fh q]at dl;have b:=ba.ints j dl;subst b;exact⟨a,j,rfl,.inl r,k _ H (To.refl fr) rfl⟩
 .rename_i t
  obtain⟨j,q,rfl⟩:=S9.mp e;obtain⟨v,rfl,g⟩:=ba.one h;obtain⟨a,l,rfl,r,dl⟩:=b5.sqT g;rw[fh q]at dl;have b:=ba.ints j dl;subst b;exact⟨a,j,rfl,.inr r,k _ H (To.refl fr) rfl⟩
 .cases e
theorem Ku(j:a0c):qu [.lst<|j.map D.int]=on (.int j.sum):=eB j
theorem Kt(j:a0c):qu [.tup<|j.map D.int]=on (.int j.sum):=eB j
end
end L2.Pu
namespace L2.Hs
open PySem.SetTable
def Rs(w:a0z):Prop:=∀i k x y:Nat,i<k->w[i]?=on x->w[k]?=on y->x<y
theorem qh{E:a0z}(r:Rs E):∀(fuel D c:Nat),D<=c->c<=E.size->c-D<=fuel->(∀i x,i<D->E[i]?=on x->x<j)->(∀i x,c<=i->E[i]?=on x->j<=x)->
  below.go E j fuel D c<=E.size/\(∀i x,i<below.go E j fuel D c->E[i]?=on x->x<j)/\∀i x,below.go E j fuel D c<=i->E[i]?=on x->j<=x
 |0,D,c,h1,h2,h3,a,b=>by
  have:D=c:=by lia
  subst this;exact⟨h2,a,b⟩
 |fuel+1,D,c,h1,h2,h3,a,b=>by
  unfold below.go;by_cases q:D<c
  .rw[OS q]
   simp only;have G:(D+c)/2<E.size:=by lia
   have e:E[(D+c)/2]?=on (E.getD ((D+c)/2) j):=by simp[RP,G]
   by_cases z:E.getD ((D+c)/2) j<j
   .rw[OS z]
    refine qh r fuel _ _ (by lia) h2 (by lia) (λi x f d=>?_) b;by_cases w:i=(D+c)/2
    .subst w
     rw[e]at d;cases d;exact z
    .exact T8 (r i ((D+c)/2) x _ (by lia) d e) z
   .rw[OR z]
    refine qh r fuel _ _ (by lia) (by lia) (by lia) a (λi x f d=>?_);by_cases w:i=(D+c)/2
    .subst w
     rw[e]at d;cases d;lia
    .have:=r ((D+c)/2) i _ x (by lia) e d
     lia
  .rw[OR q]
   have:D=c:=by lia
   subst this;exact⟨h2,a,b⟩
theorem ki{w:a0z}(r:Rs w):below w j<=w.size/\(∀i x,i<below w j->w[i]?=on x->x<j)/\∀i x,below w j<=i->w[i]?=on x->j<=x:=
 qh r w.size 0 w.size (Qf _) (OX _) (by lia) (λi x h=>Pf h<|QS i) (λi x h e=>by
  have:=(Qn.mp e).1;lia)
theorem Hf(r:Rs f)(h:f[i]?=on j):below f j=i:=by
 obtain⟨c,a,b⟩:=ki (j:=j) r;rcases Sw (below f j) i with q|q|q
 .have d:=(Qn.mp h).1
  have e:f[below f j]?=on f[below f j]:=getElem?_pos f _ (by lia);have:=b _ _ (OX _) e;have:=r _ _ _ _ q e h;lia
 .exact q
 .have:=a _ _ q h
  lia
theorem tE{t:Qb}(r:Rs t.place)(h:t.place[i]?=on j):t.slot j= .live i:=by
 unfold slot;simp only[Hf r h,h,Yx,P8]
theorem y7{t:Qb}(d:t.dummies=#[])(h:∀i:Nat,t.place[i]?≠on j):t.slot j= .empty:=by
 unfold slot;have a:(t.place[below t.place j]?==on j)=OO:=by
  rw[WU];exact h _
 have b:has t.dummies j=OO:=by unfold has;rw[d];rfl
 simp only[a,b,Pb,Qe]
noncomputable def eo(t:Qb):Nat->Probe->Probe
 |0,p=>p
 |n+1,p=>eo t n<|t.advance p
theorem p8(t:Qb):∀(n:Nat) (p:Probe),eo t (n+1) p=t.advance (eo t n p)
 |0,p=>rfl
 |n+1,p=>by
  show eo t (n+1) (t.advance p)=t.advance (eo t n<|t.advance p);exact p8 t n<|t.advance p
theorem oO(t:Qb):∀(n m:Nat) (p:Probe),eo t (n+m) p=eo t m (eo t n p)
 |0,m,p=>by rw[Qi];rfl
 |n+1,m,p=>by
  rw[show n+1+m=(n+m)+1 by lia];exact oO t n m<|t.advance p
structure Pv (t:Qb) (p:Probe):Prop where
 j:p.j+p.more<=t.mask
 more:p.more<=9
 i:p.i<=t.mask
 pt:p.perturb<2^64
 du:p.dummy=OD
theorem tQ{w i:Nat}(h:i<=w):i<=runEnd w i/\runEnd w i<=w/\runEnd w i-i<=9:=by
 unfold runEnd;by_cases q:i+9<=w
 .rw[OS q];lia
 .rw[OR q];lia
noncomputable def ra(t:Qb)(i w:Nat):Probe:={j:=i,more:=runEnd t.mask i-i,i,perturb:=w,dummy:=OD}
theorem rG{t:Qb}(h:i<=t.mask)(a:pt<2^64):Pv t (ra t i pt):=by
 obtain⟨c,d,b⟩:=tQ h;refine⟨?_,b,h,a,rfl⟩;show i+(runEnd t.mask i-i)<=t.mask;lia
theorem tu(t:Qb)(h:Int):t.probeStart h=ra t (bits h % (t.mask+1)) (bits h):=rfl
theorem o5(h:Int):bits h<2^64:=by
 unfold bits;have:=Ug h (show(0:Int)<2^64 by decide);have:=TR h (show(2^64:Int)≠0 by decide);lia
theorem pK(t:Qb)(h:Int):Pv t (t.probeStart h):=by
 rw[tu];exact rG (by have:=Vv (bits h) (show t.mask+1>0 by lia);lia)<|o5 h
noncomputable abbrev K_(w i D:Nat):Nat:=(i*5+1+D/32) % (w+1)
theorem Fo{t:Qb}{p:Probe}(h:0<p.more):t.advance p={p with j:=p.j+1,more:=p.more-1}:=by
 unfold advance;rw[OS h]
theorem yI{t:Qb}{p:Probe}(h:p.more=0)(w:p.dummy=OD):t.advance p=ra t (K_ t.mask p.i p.perturb) (p.perturb/32):=by
 unfold advance;rw[OR<|by lia];unfold leap ra;simp only[w]
theorem zJ(w i D:Nat):K_ w i D<=w:=by
 have:=Vv (i*5+1+D/32) (show w+1>0 by lia);unfold K_;lia
theorem Fn{t:Qb}(v:Pv t p):Pv t (t.advance p):=by
 by_cases q:0<p.more
 .rw[Fo q]
  exact⟨by have:=v.j;show p.j+1+(p.more-1)<=t.mask;lia,by have:=v.more;show p.more-1<=9;lia,v.i,v.pt,v.du⟩
 .rw[yI (by lia) v.du]
  exact rG (zJ _ _ _)<|Qp (Wb _ _) v.pt
theorem nB:∀(n:Nat) {p:Probe},Pv t p->Pv t (eo t n p)
 |0,_,v=>v
 |n+1,_,v=>nB n<|Fn v
theorem sE:∀(k:Nat) {p:Probe},Pv t p->k<=p.more->eo t k p={p with j:=p.j+k,more:=p.more-k}
 |0,p,v,h=>by cases p;rfl
 |k+1,p,v,h=>by
  rw[p8,sE k v<|by lia];rw[Fo (show 0<p.more-k by lia)];simp only[Probe.mk.injEq,and_true,true_and];lia
theorem p9{t:Qb}{p:Probe}(v:Pv t p):eo t (p.more+1) p=ra t (K_ t.mask p.i p.perturb) (p.perturb/32):=by
 rw[p8,sE _ v<|OX _];exact yI (UV _) v.du
def cG(w:Nat):Nat->Nat×Nat->Nat×Nat
 |0,x=>x
 |k+1,x=>cG w k (K_ w x.1 x.2,x.2/32)
theorem kO(w:Nat):∀(k:Nat) (x:Nat×Nat),cG w (k+1) x=(K_ w (cG w k x).1 (cG w k x).2,(cG w k x).2/32)
 |0,x=>rfl
 |k+1,x=>kO w k _
theorem wt{t:Qb}:∀(k:Nat) {p:Probe},Pv t p->∃n,n<=10*(k+1)/\eo t n p=ra t (cG t.mask (k+1) (p.i,p.perturb)).1 (cG t.mask (k+1) (p.i,p.perturb)).2
 |0,p,v=>⟨p.more+1,by have:=v.more;lia,p9 v⟩
 |k+1,p,v=>by
  obtain⟨n,w,e⟩:=wt k v;have a:=nB n v;rw[e]at a;refine⟨n+((ra t (cG t.mask (k+1) (p.i,p.perturb)).1 (cG t.mask (k+1) (p.i,p.perturb)).2).more+1),by have:=a.more;lia,?_⟩;rw[oO,e,p9 a,kO t.mask<|k+1];rfl
def Mk(w:Nat):Prop:=w=7\/w=31\/w=127
noncomputable def J_(w:Nat):Nat->Nat->Nat
 |0,i=>i
 |k+1,i=>J_ w k<|(i*5+1) % (w+1)
theorem oC(w:Nat):∀(a b i:Nat),J_ w (a+b) i=J_ w b (J_ w a i)
 |0,b,i=>by rw[Qi];rfl
 |a+1,b,i=>by
  rw[show a+1+b=(a+b)+1 by lia];exact oC w a b _
def HP(w:Nat):Bool:=(J_ w (w+1) 0==0)&&(OV<|w+1).all λj=>(OV<|w+1).any λk=>J_ w k 0==j
theorem K9{w:Nat}(h:Mk w):HP w=OK:=by
 rcases h with rfl|rfl|rfl<;>decide +kernel
theorem x6{w i j:Nat}(h:Mk w)(l:i<=w)(m:j<=w):∃k,k<=w/\J_ w k i=j:=by
 have o:=K9 h;unfold HP at o;rw[Pr,SO,Re]at o;obtain⟨g,D⟩:=o;obtain⟨a,e,c⟩:=List.any_eq_true.mp (D i<|O9.mpr<|by lia);obtain⟨b,f,d⟩:=List.any_eq_true.mp (D j<|O9.mpr<|by lia);rw[SO]at c d;have:=O9.mp e;have:=O9.mp f;by_cases q:a<=b
 .refine⟨b-a,by lia,?_⟩
  rw[<-c,<-oC,show a+(b-a)=b by lia,d]
 .refine⟨b+(w+1)-a,by lia,?_⟩
  rw[<-c,<-oC,show a+(b+(w+1)-a)=(w+1)+b by lia,oC,g,d]
theorem m4(w:Nat):∀(k i:Nat),cG w k (i,0)=(J_ w k i,0)
 |0,i=>rfl
 |k+1,i=>by
  show cG w k (K_ w i 0,0/32)=_;rw[show(0/32:Nat)=0 from rfl,m4 w k];rfl
theorem pP(w:Nat):∀(a b:Nat) (x:Nat×Nat),cG w (a+b) x=cG w b (cG w a x)
 |0,b,x=>by rw[Qi];rfl
 |a+1,b,x=>by
  rw[show a+1+b=(a+b)+1 by lia];exact pP w a b _
theorem pO(w:Nat):∀(k:Nat) (x:Nat×Nat),(cG w k x).2=x.2/32^k
 |0,x=>by simp[cG]
 |k+1,x=>by
  rw[kO,pO w k x,W9,Xa]
theorem xL(w:Nat):∀(k:Nat) (x:Nat×Nat),x.1<=w->(cG w k x).1<=w
 |0,x,h=>h
 |k+1,x,h=>by rw[kO];exact zJ _ _ _
theorem OA{t:Qb}(h:Mk t.mask)(v:Pv t p)(a:j<=t.mask):∃n,n<10*turns t.mask/\(eo t n p).j=j:=by
 have z:(cG t.mask 13 (p.i,p.perturb)).2=0:=by
  rw[pO];exact Nat.div_eq_of_lt (Pj v.pt<|by decide)
 have l:=xL t.mask 13 (p.i,p.perturb) v.i;obtain⟨k,c,e⟩:=x6 h l a;obtain⟨n,w,b⟩:=wt (12+k) v;refine⟨n,by unfold turns;lia,?_⟩;rw[b];show(cG t.mask (12+k+1) (p.i,p.perturb)).1=j;rw[show 12+k+1=13+k by lia,pP,show cG t.mask 13 (p.i,p.perturb)=((cG t.mask 13 (p.i,p.perturb)).1,0)from R3 rfl z,m4];exact e
abbrev Lv(t:Qb)(j:Nat):Prop:=∃k:Nat,t.place[k]?=on j
structure Tb (t:Qb) (hs:a0c):Prop where
 km:Mk t.mask
 sz:t.place.size=hs.length
 rs:Rs t.place
 le:∀i j:Nat,t.place[i]?=on j->j<=t.mask
 du:t.dummies=#[]
 nf:t.place.size*5<t.mask*3
 rch:∀(i:Nat) (h:Int) (j:Nat),hs[i]?=on h->t.place[i]?=on j->∃n,(eo t n<|t.probeStart h).j=j/\∀m<n,Lv t (eo t m<|t.probeStart h).j
theorem Mk.odd(h:Mk m):m % 2=1/\7<=m/\m<=127:=by
 rcases h with rfl|rfl|rfl<;>decide
theorem q_{D:a0z}(r:Rs D):∀n,n<=D.size->(∀i:Nat,i<n->D[i]?=on i)\/∃j,j<n/\∀i:Nat,D[i]?≠on j
 |0,_=> .inl λi h=>Pf h<|QS i
 |n+1,h=>by
  rcases q_ r n (by lia)with q|⟨j,c,b⟩
  .have e:D[n]?=on D[n]:=getElem?_pos D n (by lia)
   by_cases z:D[n]=n
   .refine .inl λi d=>?_
    by_cases w:i=n
    .subst w;rw[e,z]
    .exact q i (by lia)
   .have lt:n<=D[n]:=by
     cases n with
     |zero=>lia
     |succ m=>
      have:=r m (m+1) _ _ (by lia) (q m<|by lia) e;lia
    refine .inr ⟨n,by lia,λi a=>?_⟩;rcases Sw i n with w|w|w
    .rw[q i w]at a;cases a;lia
    .subst w;rw[e]at a;exact z<|Pn a
    .have:=r n i _ _ w e a
     lia
  .exact .inr ⟨j,by lia,b⟩
theorem Mt{w:a0z}(r:Rs w):∃j,j<=w.size/\∀i:Nat,w[i]?≠on j:=by
 rcases q_ r w.size (OX _)with q|⟨j,c,a⟩
 .refine⟨w.size,OX _,λi e=>?_⟩
  have b:=(Qn.mp e).1;rw[q i b]at e;cases e;lia
 .exact⟨j,by lia,a⟩
theorem Ig{t:Qb}(r:Rs t.place)(d:t.dummies=#[]):∀(fuel:Nat) (p:Probe) (e:Nat),Pv t p->e<fuel->¬Lv t (eo t e p).j->
  ∃m,m<=e/\(∀a<m,∃i,t.place[i]?=on (eo t a p).j/\hashAt i≠h)/\
   ((¬Lv t (eo t m p).j/\probe.go t hashAt h fuel p=on (.empty (eo t m p).j OD))\/∃i,t.place[i]?=on (eo t m p).j/\hashAt i=h/\probe.go t hashAt h fuel p=on (.candidate (eo t m p).j i<|eo t (m+1) p))
 |0,_,_,_,h,_=>Pf h<|QS _
 |fuel+1,p,e,v,hf,he=>by
  unfold probe.go;by_cases q:Lv t p.j
  .obtain⟨i,b⟩:=q
   rw[tE r b];simp only;by_cases z:hashAt i=h
   .refine⟨0,Qf _,λa w=>Pf w<|QS _,.inr ⟨i,b,z,?_⟩⟩
    rw[OS<|by rw[SO];exact z];rfl
   .rw[OR<|by rw[SO];exact z]
    cases e with
    |zero=>exact Pf ⟨i,b⟩ he
    |succ e=>
     obtain⟨m,w,D,c⟩:=Ig r d fuel (t.advance p) e (Fn v) (by lia) he;refine⟨m+1,by lia,λa f=>?_,c⟩;cases a with
     |zero=>exact⟨i,b,z⟩
     |succ a=>exact D a (by lia)
  .rw[y7 d (λi b=>q ⟨i,b⟩)]
   refine⟨0,Qf _,λa w=>Pf w<|QS _,.inl ⟨q,?_⟩⟩;simp only[v.du];rfl
theorem Tb.free{t:Qb}(T:Tb t hs)(v:Pv t p):∃e,e<10*turns t.mask/\¬Lv t (eo t e p).j:=by
 obtain⟨j,f,a⟩:=Mt T.rs;have:=T.nf;have:=T.km.odd;obtain⟨e,b,c⟩:=OA T.km v (show j<=t.mask by lia);exact⟨e,b,λ⟨k,d⟩=>a k<|by rw[<-c];exact d⟩
theorem ER{E:Type}{D:Array E}{p:Nat}{x:E}(b:p<=D.size)(i:Nat):(insertAt D p x)[i]?=if i<p then D[i]? else if i=p then on x else D[i-1]?:=by
 unfold insertAt;rw[Array.getElem?_append];have a:((D.extract 0 p).push x).size=p+1:=by simp;lia
 rw[a];by_cases q:i<p
 .rw[OS (by lia),OS q,Xu,XG]
  rw[OR (by lia),WR];simp;lia
 .by_cases z:i=p
  .subst z
   rw[OS (by lia),OR (by lia),OS rfl,Xu,XG];rw[OS<|by lia]
  .rw[OR (by lia),OR q,OR z,WR]
   by_cases w:i-1<D.size
   .rw[OS<|by lia]
    congr 1;lia
   .rw[OR (by lia),R6<|by lia]
theorem ik{D:Type}{w:Array D}{p:Nat}{x:D}(a:p<=w.size):(insertAt w p x).size=w.size+1:=by
 unfold insertAt;simp;lia
theorem Tb.put{t:Qb}{hs:a0c}(T:Tb t hs)(C:¬Lv t j)(S:(eo t n<|t.probeStart h).j=j)(V:∀m<n,Lv t (eo t m<|t.probeStart h).j)(s:(t.place.size+1)*5<t.mask*3):
  (t.put j).1.dummies=#[]/\(t.put j).1.mask=t.mask/\(t.put j).1.place.size=t.place.size+1/\(t.put j).2<=t.place.size/\Tb (t.put j).1 (hs.take (t.put j).2++h::hs.drop (t.put j).2):=by
 obtain⟨G,F,b3⟩:=ki (j:=j) T.rs;have Q:has t.dummies j=OO:=by unfold has;rw[T.du];rfl
 have A:(t.put j).1.dummies=#[]:=by
  show(if has t.dummies j=OK then _ else t.dummies)=#[];rw[Q,OR OY,T.du]
 have E:(t.put j).1.place=insertAt t.place (below t.place j) j:=rfl;have g:=λi=>ER (x:=j) G i;have B:∀x,Lv t x->Lv (t.put j).1 x:=λx ⟨k,l⟩=>by
  by_cases q:k<below t.place j
  .exact⟨k,by rw[E,g,OS q];exact l⟩
  .exact⟨k+1,by rw[E,g,OR (by lia),OR<|by lia];exact l⟩
 have K:∀m p,eo (t.put j).1 m p=eo t m p:=λm=>by
  induction m with
  |zero=>intro p;rfl
  |succ m R=>intro p;exact R<|t.advance p
 refine⟨A,rfl,by rw[E,ik G],G,⟨T.km,?_,?_,?_,A,?_,?_⟩⟩
 .rw[E,ik G,T.sz]
  have:(t.put j).2<=hs.length:=by rw[<-T.sz];exact G
  simp;lia
 .intro i k x y r c e
  rw[E,g]at c e;have H:∀k,t.place[k]?≠on j:=λk l=>C ⟨k,l⟩;by_cases D:i<below t.place j
  .rw[OS D]at c
   by_cases P:k<below t.place j
   .rw[OS P]at e
    exact T.rs i k x y r c e
   .rw[OR P]at e
    by_cases w:k=below t.place j
    .rw[OS w]at e;cases e
     exact F i x D c
    .rw[OR w]at e
     exact T.rs i (k-1) x y (by lia) c e
  .rw[OR D]at c
   rw[OR (by lia),OR<|by lia]at e;by_cases w:i=below t.place j
   .rw[OS w]at c;cases c
    have N:=b3 (k-1) y (by lia) e;have:y≠j:=λz=>H (k-1) (by rw[e,z]);lia
   .rw[OR w]at c
    exact T.rs (i-1) (k-1) x y (by lia) c e
 .intro i x c
  rw[E,g]at c;by_cases D:i<below t.place j
  .rw[OS D]at c;exact T.le i x c
  .rw[OR D]at c
   by_cases w:i=below t.place j
   .rw[OS w]at c;cases c
    have v:=nB n<|pK t h;have:=v.j;show j<=t.mask;lia
   .rw[OR w]at c;exact T.le _ x c
 .rw[E,ik G];exact s
 .intro i h' x I c
  have O:(t.put j).2<=hs.length:=by rw[<-T.sz];exact G
  have u:(t.put j).2=below t.place j:=rfl;rw[E,g]at c;have d:(if i<below t.place j then hs[i]? else if i=below t.place j then on h else hs[i-1]?)=on h':=by
   rw[<-I,u];by_cases D:i<below t.place j
   .rw[OS D,RG (by rw[Rv];lia),WJ D]
   .rw[OR D,QR (by rw[Rv];lia),Rv,Nat.min_eq_left<|by lia]
    by_cases w:i=below t.place j
    .rw[OS w,w,UV];rfl
    .rw[OR w,show i-below t.place j=(i-1-below t.place j)+1 by lia,WT,X8]
     congr 1;lia
  have f:∀o,hs[o]?=on h'->t.place[o]?=on x->∃n,(eo (t.put j).1 n<|(t.put j).1.probeStart h').j=x/\∀m<n,Lv (t.put j).1 (eo (t.put j).1 m<|(t.put j).1.probeStart h').j:=λo a b=>by
   obtain⟨J,L,u⟩:=T.rch o h' x a b;refine⟨J,by rw[K];exact L,λm M=>?_⟩;rw[K];exact B _<|u m M
  by_cases D:i<below t.place j
  .rw[OS D]at c d
   exact f i d c
  .rw[OR D]at c d
   by_cases w:i=below t.place j
   .rw[OS w]at c d
    cases c;cases d;refine⟨n,by rw[K];exact S,λm M=>?_⟩;rw[K];exact B _<|V m M
   .rw[OR w]at c d
    exact f (i-1) d c
theorem wu{t u:Qb}(h:t.mask=u.mask):∀(n:Nat) (p:Probe),eo t n p=eo u n p
 |0,p=>rfl
 |n+1,p=>by
  show eo t n (t.advance p)=eo u n (u.advance p);have:t.advance p=u.advance p:=by unfold advance;rw[h]
  rw[this];exact wu h n _
theorem yZ{t u:Qb}(h:t.mask=u.mask)(x:Int):t.probeStart x=u.probeStart x:=by unfold probeStart;rw[h]
noncomputable abbrev tm(mask:Nat):Qb:={mask,place:=#[],dummies:=#[],finger:=0,led:=OK,moves:=0,plain:=OK}
noncomputable abbrev fr(owner:a0x)(j:Nat):Bool:=(owner.getD j<|on 0).isNone
theorem yo{w:Nat}{owner:a0x}:∀(fuel i D:Nat),i<=w->D<2^64->(∃b,b<fuel/\fr owner (cG w b (i,D)).1=OK)->
  ∃n,layClean.free w owner fuel i D=on (eo (tm w) n<|ra (tm w) i D).j/\fr owner (eo (tm w) n<|ra (tm w) i D).j=OK/\∀m<n,fr owner (eo (tm w) m<|ra (tm w) i D).j=OO
 |0,_,_,_,_,⟨b,h,_⟩=>Pf h<|QS b
 |fuel+1,i,D,hi,hp,⟨b,hb,hf⟩=>by
  have v:=rG (t:=tm w) hi hp;obtain⟨M,A,B⟩:=tQ hi;have e:(ra (tm w) i D).more=runEnd w i-i:=rfl;have c:∀k,k<=runEnd w i-i->(eo (tm w) k<|ra (tm w) i D).j=i+k:=λk a=>by
   rw[sE k v a];rfl
  unfold layClean.free;split
  .rename_i k a
   obtain⟨f,g,l⟩:=List.find?_range_eq_some.mp a;have:=O9.mp g;refine⟨k,by rw[c k<|by lia],by rw[c k<|by lia];exact f,λm G=>?_⟩;rw[c m<|by lia];have:=l m G;simpa using this
  .rename_i a
   have K:∀k,k<=runEnd w i-i->fr owner (i+k)=OO:=λk o=>by
    have:=List.find?_range_eq_none.mp a k (by lia);simpa using this
   cases b with
   |zero=>
    have p:=K 0 (by lia);exact Pf hf (by rw[show(cG w 0 (i,D)).1=i+0 from rfl,p];exact OY)
   |succ b=>
    obtain⟨n,r,u,y⟩:=yo fuel (K_ w i D) (D/32) (zJ _ _ _) (Qp (Wb _ _) hp) ⟨b,by lia,hf⟩;have E:∀m,eo (tm w) (runEnd w i-i+1+m) (ra (tm w) i D)=eo (tm w) m (ra (tm w) (K_ w i D)<|D/32):=λm=>by
     rw[oO,<-e,p9 v];rfl
    refine⟨runEnd w i-i+1+n,by rw[E];exact r,by rw[E];exact u,λm G=>?_⟩;by_cases q:m<=runEnd w i-i
    .rw[c m q];exact K m q
    .obtain⟨d,rfl⟩:∃d,m=runEnd w i-i+1+d:=⟨m-(runEnd w i-i+1),by lia⟩
     rw[E];exact y d (by lia)
structure Ow (mask:Nat) (owner:a0x) (hs:a0c):Prop where
 sz:owner.size=mask+1
 lt:∀j k:Nat,owner[j]?=on (on k)->k<hs.length
 un:∀j j' k:Nat,owner[j]?=on (on k)->owner[j']?=on (on k)->j=j'
 cn:owner.toList.countP (·.isSome)=hs.length
 ex:∀(k:Nat) (h:Int),hs[k]?=on h->∃j n:Nat,owner[j]?=on (on k)/\(eo (tm mask) n<|(tm mask).probeStart h).j=j/\∀m<n,∃k':Nat,owner[(eo (tm mask) m<|(tm mask).probeStart h).j]?=on (on k')
theorem AB{w:Nat}{owner:a0x}(D:owner.size=w+1){j:Nat}(b:j<=w):(fr owner j=OK↔owner[j]?=on OD)/\(fr owner j=OO↔∃k:Nat,owner[j]?=on (on k)):=by
 have e:owner[j]?=on owner[j]:=getElem?_pos owner j (by lia);have a:owner.getD j (on 0)=owner[j]:=by simp[RP,show j<owner.size by lia]
 unfold fr;rw[a,e];cases owner[j]<;>simp
theorem Ow.step{D:Nat}{owner:a0x}{E:a0c}(O:Ow D owner E)(h:Int)(G:Mk D)(W:E.length<=D):
  ∃j,layClean.free D owner (turns D) (bits h % (D+1)) (bits h)=on j/\Ow D (owner.setIfInBounds j<|on E.length) (E++[h]):=by
 have u:bits h % (D+1)<=D:=by have:=Vv (bits h) (show D+1>0 by lia);lia
 have⟨v,h1,h2⟩:∃v,v<=D/\fr owner v=OK:=by
  refine Q7 λz=>?_;have K:∀a∈owner.toList,Option.isSome a=OK:=λa P=>by
   obtain⟨i,g,e⟩:=RY P;have L:i<owner.size:=by simpa using g
   have N:fr owner i=OO:=by
    cases q:fr owner i with
    |false=>rfl
    |true=>exact Pf ⟨i,by have:=O.sz;lia,q⟩ z
   obtain⟨k,A⟩:=(AB O.sz (show i<=D by have:=O.sz;lia)).2.mp N;have:owner[i]?=on a:=by rw[<-Si,OE g,e]
   rw[this]at A;cases A;rfl
  have:=List.countP_eq_length.mpr K;rw[O.cn]at this;have:=O.sz;simp at*;lia
 have z:(cG D 13 (bits h % (D+1),bits h)).2=0:=by
  rw[pO];exact Nat.div_eq_of_lt (Pj (o5 h)<|by decide)
 have l:=xL D 13 (bits h % (D+1),bits h) u;obtain⟨k,A,e⟩:=x6 G l h1;have Q:fr owner (cG D (13+k) (bits h % (D+1),bits h)).1=OK:=by
  rw[pP,show cG D 13 (bits h % (D+1),bits h)=((cG D 13 (bits h % (D+1),bits h)).1,0)from R3 rfl z,m4];show fr owner (J_ D k _)=OK;rw[e];exact h2
 obtain⟨n,F,H,R⟩:=yo (owner:=owner) (turns D) (bits h % (D+1)) (bits h) u (o5 h) ⟨13+k,by unfold turns;lia,Q⟩;have I:∀m,(eo (tm D) m<|ra (tm D) (bits h % (D+1))<|bits h).j<=D:=λm=>by
  have:=(nB m<|rG (t:=tm D) u<|o5 h).j;show _<=(tm D).mask;lia
 generalize J:(eo (tm D) n<|ra (tm D) (bits h % (D+1))<|bits h).j=j at F H;have T:j<=D:=by rw[<-J];exact I n
 have o:owner[j]?=on OD:=(AB O.sz T).1.mp H;have p:j<owner.size:=by have:=O.sz;lia
 have set:∀x:Nat,(owner.setIfInBounds j<|on E.length)[x]?=if j=x then on (on E.length)else owner[x]?:=λx=>by
  rw[Array.getElem?_setIfInBounds];by_cases q:j=x
  .rw[OS q,OS q,OS p]
  .rw[OR q,OR q]
 refine⟨j,F,⟨by rw[Array.size_setIfInBounds];exact O.sz,λx k c=>?_,λx y k c f=>?_,?_,λk S d=>?_⟩⟩
 .rw[set]at c
  rw[O8];by_cases q:j=x
  .rw[OS q]at c;cases c;simp
  .rw[OR q]at c
   have:=O.lt x k c;lia
 .rw[set]at c f
  by_cases q:j=x
  .rw[OS q]at c;cases c
   by_cases r:j=y
   .lia
   .rw[OR r]at f
    exact Pf (O.lt y _ f)<|P6 _
  .rw[OR q]at c
   by_cases r:j=y
   .rw[OS r]at f;cases f
    exact Pf (O.lt x _ c)<|P6 _
   .rw[OR r]at f
    exact O.un x y k c f
 .rw[Array.toList_setIfInBounds,List.countP_set (by simpa using p),O.cn]
  have:owner.toList[j]'(by simpa using p)=OD:=by
   have e:=getElem?_pos owner j p;rw[o]at e;rw[Tq];exact(Pn e).symm
  rw[this];simp
 .by_cases q:k<E.length
  .rw[RG q]at d
   obtain⟨x,U,M,V,s⟩:=O.ex k S d;refine⟨x,U,?_,V,λm G=>?_⟩
   .rw[set,OR (λw=>by subst w;rw[o]at M;cases M)];exact M
   .obtain⟨B,b⟩:=s m G
    exact⟨B,by rw[set,OR (λw=>by rw[<-w,o]at b;cases b)];exact b⟩
  .have C:=(OM.mp d).1
   rw[O8,PX]at C;have:k=E.length:=by lia
   subst this;rw[QR<|OX _,UV]at d;cases d;refine⟨j,n,by rw[set,OS rfl],J,λm G=>?_⟩;obtain⟨B,b⟩:=(AB O.sz<|I m).2.mp<|R m G;exact⟨B,by rw[tu,set,OR (λw=>by rw[<-w,o]at b;cases b)];exact b⟩
theorem Ow.nil(w:Nat):Ow w (Array.replicate (w+1) OD) []:=by
 have g:∀x:Nat,(Array.replicate (w+1) (OD:a0L))[x]?=if x<w+1 then on OD else OD:=λx=>Array.getElem?_replicate;refine⟨by simp,λj k h=>?_,λj b k h=>?_,by simp,λk h a=>by simp at a⟩
 .rw[g]at h
  split at h<;>cases h
 .rw[g]at h
  split at h<;>cases h
theorem wk{D:Nat}(K:Mk D):∀(l:a0c) (w:a0x) (E:a0c),Ow D w E->E.length+l.length<=D+1->∃a,l.foldl (λ(G:Option<|a0x×Nat) h=>do
   let (w,k) <-G
   let j <-layClean.free D w (turns D) (bits h % (D+1)) (bits h)
   Rm (w.setIfInBounds j<|on k,k+1)) (on (w,E.length))=on (a,E.length+l.length)/\Ow D a (E++l)
 |[],w,E,O,_=>⟨w,rfl,by rw[P9];exact O⟩
 |h::l,w,E,O,hl=>by
  rw[O4]at hl;obtain⟨j,e,d⟩:=O.step h K (by lia);obtain⟨f,b,c⟩:=wk K l _ (E++[h]) d (by rw[O8,PX];lia);refine⟨f,?_,by rw[Ql]at c;exact c⟩;rw[List.foldl_cons];simp only[Option.bind_eq_bind,Tj,e];rw[O8,PX]at b;rw[O4,show E.length+(l.length+1)=E.length+1+l.length by lia];exact b
theorem LB{w:Nat}(G:Mk w)(E:Array Int)(b:E.size<=w+1):∃D,layClean w E=on D/\Ow w D E.toList:=by
 obtain⟨o,e,O⟩:=wk G E.toList _ [] (Ow.nil w) (by simpa using b);refine⟨o,?_,O⟩;unfold layClean;rw[<-Array.foldl_toList];have a:=e;simp only[V6]at a;exact(Qr (Option.map (·.1)) a).trans rfl
theorem wE{w D:Type}{f:w->Option D}{g:w->D}:∀{l:List w},(∀a∈l,f a=on (g a))->l.filterMap f=l.map g
 |[],_=>rfl
 |a::l,h=>by
  rw[QV,h a OL,O0,wE λb c=>h b<|OF a c]
noncomputable def cD(D:Nat)(w:a0x):a0b:=(OV<|D+1).filterMap λj=>(w.getD j OD).map (j,·)
theorem GC{D:Nat}{w:a0x}(E:w.size=D+1){j k:Nat}:(j,k)∈cD D w↔w[j]?=on (on k):=by
 unfold cD;rw[Uc];constructor
 .rintro⟨x,c,e⟩
  have d:=O9.mp c;have a:w.getD x OD=w[x]:=by simp[RP,show x<w.size by lia]
  rw[a]at e;cases q:w[x]with
  |none=>rw[q]at e;cases e
  |some f=>
   rw[q]at e;simp only[QI,WK,Prod.mk.injEq]at e;obtain⟨rfl,rfl⟩:=e;rw[getElem?_pos w x (by lia),q]
 .intro e
  have b:=(Qn.mp e).1;refine⟨j,O9.mpr (by lia),?_⟩;have a:w.getD j OD=w[j]:=by simp[RP,b]
  rw[getElem?_pos w j b]at e;rw[a,Pn e];rfl
theorem Ey(D:Nat)(w:a0x):(cD D w).Pairwise λa b=>a.1<b.1:=by
 unfold cD;refine List.Pairwise.filterMap _ (λa f h b d g c=>?_) List.pairwise_lt_range;cases q:w.getD a OD with
 |none=>rw[q]at d;cases d
 |some k=>
  rw[q]at d;cases e:w.getD f OD with
  |none=>rw[e]at c;cases c
  |some i=>
   rw[e]at c;cases d;cases c;exact h
theorem CT{t:Qb}{hs:Array Int}(M:Mk<|sizeAbove wanted-1)(nf:hs.size*5<(sizeAbove wanted-1)*3):
  ∃(G:Qb) (c:a0z),t.relaid hs wanted=on (G,c)/\c.toList.Perm (OV hs.size)/\Tb G (c.toList.map λk=>hs.getD k 0)/\G.led=t.led/\G.plain=t.plain:=by
 have ho:=M.odd;obtain⟨w,e,O⟩:=LB M hs (by lia);generalize T:sizeAbove wanted-1=mask at*;have d:hs.toList.length=hs.size:=by simp
 have f:=Ey mask w;have g:∀{j k:Nat},(j,k)∈cD mask w↔w[j]?=on (on k):=GC O.sz;have U:t.relaid hs wanted=on ({mask,place:=((cD mask w).map (·.1)).toArray,dummies:=#[],finger:=t.finger,led:=t.led,moves:=t.movedTo mask,plain:=t.plain},((cD mask w).map (·.2)).toArray):=by
  unfold relaid laid;rw[T,e];rfl
 have D:((cD mask w).map (·.2)).Perm (OV hs.size):=by
  refine(List.perm_ext_iff_of_nodup ?_ UK).mpr λk=>?_
  .unfold List.Nodup
   rw[Ur];refine List.Pairwise.imp_of_mem (R:=λa b=>a.1<b.1) (λ{a b} E B h z=>?_) f;obtain⟨j,k⟩:=a;obtain⟨r,v⟩:=b;have W:k=v:=z;subst W;have:=O.un j r k (g.mp E)<|g.mp B;have h':j<r:=h;lia
  .rw[OZ,O9]
   constructor
   .rintro⟨⟨j,v⟩,h,rfl⟩
    have:=O.lt j v<|g.mp h;rwa[d]at this
   .intro A
    obtain⟨j,n,C,_⟩:=O.ex k _ (OE<|by rw[d];exact A);exact⟨(j,k),g.mpr C,rfl⟩
 have l:(cD mask w).length=hs.size:=by
  have:=D.length_eq;rwa[OC,Ps]at this
 refine⟨_,_,U,by simpa using D,?_,rfl,rfl⟩;have K:∀{i:Nat} {x:Nat},(((cD mask w).map (·.1)).toArray)[i]?=on x->∃k,(cD mask w)[i]?=on (x,k):=λ{i x} h=>by
  rw[Tl,OI]at h;cases q:(cD mask w)[i]? with
  |none=>rw[q]at h;cases h
  |some a=>
   rw[q]at h;cases h;exact⟨a.2,rfl⟩
 have F:∀{j k:Nat},w[j]?=on (on k)->∃i:Nat,(((cD mask w).map (·.1)).toArray)[i]?=on j:=λ{j k} h=>by
  obtain⟨i,X,Y⟩:=RY<|g.mpr h;exact⟨i,by rw[Tl,OI,OE X,Y];rfl⟩
 refine⟨M,?_,?_,?_,rfl,?_,?_⟩
 .show(((cD mask w).map (·.1)).toArray).size=_
  simp
 .intro i k x y H Z hy
  obtain⟨a,E⟩:=K Z;obtain⟨b,B⟩:=K hy;obtain⟨C,I⟩:=OM.mp E;obtain⟨S,V⟩:=OM.mp B;have:=RI.mp f i k C S H;rw[I,V]at this;exact this
 .intro i j h
  obtain⟨a,E⟩:=K h;have:=(Qn.mp<|g.mp<|OW E).1;have:=O.sz;show j<=mask;lia
 .show(((cD mask w).map (·.1)).toArray).size*5<mask*3
  have:(((cD mask w).map (·.1)).toArray).size=hs.size:=by simp[l]
  lia
 .intro i h j J hj
  obtain⟨k,A⟩:=K hj;have o:=g.mp<|OW A;have s:hs.toList[k]?=on h:=by
   rw[OI]at J;have I:((cD mask w).map (·.2)).toArray.toList[i]?=on k:=by
    show((cD mask w).map (·.2))[i]?=_;rw[OI,A];rfl
   rw[I]at J;have N:k<hs.size:=by have:=O.lt j k o;rwa[d]at this
   have:hs.getD k 0=h:=Pn J;rw[Si,getElem?_pos hs k N,<-this];simp[RP,N]
  obtain⟨r,n,a1,a2,a3⟩:=O.ex k h s;have:=O.un j r k o a1;subst this;have P:∀(u:Qb),u.mask=mask->∀m,eo u m (u.probeStart h)=eo (tm mask) m ((tm mask).probeStart h):=λu Q m=>by
   rw[yZ (u:=tm mask) Q,wu (u:=tm mask) Q]
  refine⟨n,by rw[P _ rfl];exact a2,λm L=>?_⟩;rw[P _ rfl];obtain⟨v,p⟩:=a3 m L;exact F p
theorem tT{t:Qb}(a:t.probe f h p=r)(T:Tb t g)(v:Pv t p)(b:e<10*turns t.mask)(c:¬Lv t (eo t e p).j):
  ∃m,m<=e/\(∀d<m,∃i,t.place[i]?=on (eo t d p).j/\f i≠h)/\
   ((¬Lv t (eo t m p).j/\r=on (.empty (eo t m p).j OD))\/∃i,t.place[i]?=on (eo t m p).j/\f i=h/\r=on (.candidate (eo t m p).j i<|eo t (m+1) p)):=by
 subst a;exact Ig T.rs T.du _ p e v b c
section
variable{prog:Py}{w:PD}{A:Qc}{E:a0f}{s:OT}
noncomputable abbrev gr(prog:Py)(w:PD):HeapKind prog w a0c:=tupleKind<|U9 prog w
noncomputable abbrev hsh(prog:Py)(w:PD)(k:a0c):Int:=(gr prog w).hash k
theorem Tb.fits{t:Qb}{hs:a0c}(T:Tb t hs)(s:hs.length=n):t.fits n=OK:=by
 have:=T.nf;have:=T.sz;have:=T.km.odd;unfold V8 SetTable.fill;rw[T.du];simp;lia
theorem items_int(h:ItemsAre (U9 prog w) b a):∀v∈a,∃n t,v=SC n t:=by
 induction h with
 |nil=>intro v hv;cases hv
 |@cons k v' b a h1 _ ih=>
  intro v hv;rcases OQ.mp hv with rfl|hv
  .obtain⟨t,e⟩:=Vx h1
   exact⟨_,t,e⟩
  .exact ih v hv
theorem BE{M:Model}{o:Qk}(b:s.heap.get? a=on o)(h:Q o.cls s):O6 M A (typeOf<|.ref a) Q E s:=by
 show O6 M A (loadPart a _>>=_) Q E s;exact My<|wpAny_loadPart b<|OG h
theorem vZ(f:(gr prog w).is s.heap k x)(h:Q OO s):O6 (Po prog w) A (Wg 8<|.ref x) Q E s:=by
 obtain⟨o,b,n,e,g,K,i⟩:=f;unfold Wg;refine My<|BE e ?_;rw[g];simp only[Yx,P8];refine My<|OG ?_;simp only[Rr,Pb,Qe];refine My<|Q3 e K ?_;refine My ?_;show O6 _ _ (forIn b _ _) _ _ s;rw[<-SV];refine U1 _ (λD r G=>r.1=OD/\G=s/\∀v∈D,∃n t,v=SC n t) _ ?_ ?_ _ _ ⟨rfl,rfl,items_int i⟩
 .rintro v D r G ⟨c,rfl,a⟩
  obtain⟨n,t,rfl⟩:=a v OL;unfold Wg;refine My<|OG ?_;simp only[Pb,Qe];exact OG ⟨rfl,rfl,λu d=>a u<|OF _ d⟩
 .rintro⟨r1,j⟩ G ⟨c,rfl,_⟩
  simp only at c;subst c;exact OG h
theorem Hc(e:(gr prog w).is s.heap k x)(h:Q OK s):O6 (Po prog w) A (hashByValue 8<|.ref x) Q E s:=by
 have f:=WS (s:=s) e;obtain⟨o,b,n,g,j,K,i⟩:=e;unfold hashByValue;refine My<|RW f F.slot_tuple_hash.lookup ?_;simp only;refine My<|Q3 g K ?_;refine My ?_;show O6 _ _ (forIn b _ _) _ _ s;rw[<-SV];refine U1 _ (λD r G=>r.1=OD/\G=s/\∀v∈D,∃n t,v=SC n t) _ ?_ ?_ _ _ ⟨rfl,rfl,items_int i⟩
 .rintro v D r G ⟨c,rfl,a⟩
  obtain⟨n,t,rfl⟩:=a v OL;unfold hashByValue;refine My<|OG ?_;simp only[Rr,Pb,Qe];exact OG ⟨rfl,rfl,λu d=>a u<|OF _ d⟩
 .rintro⟨r1,l⟩ G ⟨c,rfl,_⟩
  simp only at c;subst c;exact OG h
theorem Js(f:(gr prog w).is s.heap k x):∀(l:a0l) {Q:Bool->OT->Prop},(∀y∈l,(gr prog w).is s.heap y.1 y.2)->Q OO s->O6 (Po prog w) A (Wj (.ref x)<|l.map λy=>Pc y.2) Q E s:=by
 intro l Q h i;unfold Wj;refine My ?_;refine U1 _ (λD r G=>r.1=OD/\G=s/\∃b:a0l,D=b.map (λy=>Pc y.2)/\∀y∈b,(gr prog w).is s.heap y.1 y.2) _ ?_ ?_ _ _ ⟨rfl,rfl,l,rfl,h⟩
 .rintro v D r G ⟨d,rfl,b,e,a⟩
  cases b with
  |nil=>cases e
  |cons y b=>
   cases e;have g:=a y OL;have K:(OD:a0S)=OD/\G=G/\∃c:a0l,b.map (λy=>Pc y.2)=c.map (λy=>Pc y.2)/\∀y∈c,(gr prog w).is G.heap y.1 y.2:=⟨rfl,rfl,b,rfl,λu j=>a u<|OF y j⟩;by_cases q:x==y.2
   .simp only[q,Bool.true_or,P8]
    exact OG K
   .simp only[q,Bool.false_or,carriedByValue,Tc,Pb,Qe]
    refine My<|(gr prog w).quiet f ?_;simp only[Rr,Pb,Qe];refine My<|(gr prog w).quiet g ?_;simp only[Rr,Pb,Qe];refine My<|vZ f ?_;simp only[Pb,Qe];refine My<|vZ g ?_;simp only[Pb,Qe];exact OG K
 .rintro⟨r1,m⟩ G ⟨d,rfl,_⟩
  simp only at d;subst d;exact OG i
theorem CG{o:Qk}{K:a0y}{t:Qb}{D:a0l}(hu:A.units<TN)(ho:s.heap.get? a=on o)(hd:o.data= .set K ep t)
  (F:K.toList=D.map λx=>(hsh prog w x.1,Pc x.2)) (hx:∀x∈D,(gr prog w).is s.heap x.1 x.2) (T:Tb t<|D.map λx=>hsh prog w x.1) (hk:(gr prog w).is s.heap k b)
  (he:e<10*turns t.mask) (R:¬Lv t (eo t e<|t.probeStart<|hsh prog w k).j) (ha:∀m<e,Lv t (eo t m<|t.probeStart<|hsh prog w k).j)
  (q1:k∈D.map (·.1)->Q (.there OD) s) (q2:k∉D.map (·.1)->Q (.free (eo t e<|t.probeStart<|hsh prog w k).j OO) s):
  ∀(n c m:Nat) (st:Option Probe),e=m+n->n<c->st.getD (t.probeStart<|hsh prog w k)=eo t m (t.probeStart<|hsh prog w k)->(∀g<m,∀(i:Nat) x,t.place[i]?=on (eo t g<|t.probeStart<|hsh prog w k).j->D[i]?=on x->x.1≠k)->
   O6 (Po prog w) A (setSearchFrom a (.ref b) (hsh prog w k) OK c st) Q E s:=by
 have ac:K.size=D.length:=by rw[<-Pq,F,OC]
 have U:t.fits K.size=OK:=T.fits (by rw[OC,ac]);have l:∀i:Nat,K[i]?=(D[i]?).map λx=>(hsh prog w x.1,Pc x.2):=λi=>by rw[<-Si,F,OI]
 have gw:t.gaveWay=OO:=by
  have:=T.km.odd;unfold SetTable.gaveWay;rw[WU];lia
 intro n
 induction n using Wc with
 |_ n ih=>
  intro c m st em al ad p;cases c with
  |zero=>lia
  |succ c=>
   unfold setSearchFrom;refine My<|Q1 ho hd U ?_
   dsimp only
   rw[ad,gw];simp only[Pb,Qe];have v:=nB m<|pK t<|hsh prog w k;have M:∀n',eo t n' (eo t m<|t.probeStart<|hsh prog w k)=eo t (m+n') (t.probeStart<|hsh prog w k):=λn'=>(oO t m n' _).symm;have G:∀{i N j:Nat},t.place[i]?=on j->t.place[N]?=on j->i=N:=λ{i N j} u C=>by
    rcases Sw i N with q|q|q
    .exact Pf (T.rs i N j j q u C) (P6 j)
    .exact q
    .exact Pf (T.rs N i j j q C u) (P6 j)
   split
   .rename_i W heq
    obtain⟨g,ae,r,d⟩:=tT heq T v (e:=n) (by lia) (by rw[M,<-em];exact R);rcases d with⟨X,H⟩|⟨i,O,am,H⟩
    .cases H
     have Y:g=n:=by
      rcases T7 g n with q|q
      .rw[M]at X
       exact Pf (ha (m+g)<|by lia) X
      .lia
     subst Y;refine OG ?_;rw[M,<-em];refine q2 λZ=>?_;obtain⟨x,af,I⟩:=OZ.mp Z;obtain⟨B,ag,ah⟩:=RY af;have h:D[B]?=on x:=by rw[OE ag,ah]
     have J:B<t.place.size:=by have:=T.sz;rw[OC]at this;lia
     obtain⟨P,a1,a2⟩:=T.rch B (hsh prog w k) t.place[B] (by rw[OI,h,<-I];rfl)<|getElem?_pos t.place B J;have an:P<e:=by
      rcases Sw P e with q|q|q
      .exact q
      .subst q
       exact Pf ⟨B,by rw[a1];exact getElem?_pos t.place B J⟩ R
      .exact Pf (a2 e q) R
     have V:t.place[B]?=on (eo t P<|t.probeStart<|hsh prog w k).j:=by rw[a1];exact getElem?_pos t.place B J
     by_cases q:P<m
     .exact p P q B x V h I
     .obtain⟨i,u,C⟩:=r (P-m) (by lia)
      rw[M,show m+(P-m)=P by lia]at u;have:=G u V;subst this;refine C ?_;show(K[i]?.map (·.1)).getD 0=_;rw[l,h,<-I];rfl
    .cases H
     have L:i<D.length:=by
      have u:=(Qn.mp O).1;have:=T.sz;rw[OC]at this;lia
     have h:D[i]?=on D[i]:=OE L;have aa:K[i]?=on (hsh prog w D[i].1,Pc D[i].2):=by rw[l,h];rfl
     have ai:=hx D[i]<|PF L;rw[M]at O;simp only;have el:(Qt (λx=>x.snd) (Array.filter (λx=>x.fst==hsh prog w k) K).toList)=(D.filter λy=>hsh prog w y.1==hsh prog w k).map λy=>Pc y.2:=by
      rw[Array.toList_filter,F,List.filter_map,OU];rfl
     rw[el];have ab:∀{Q':Bool->OT->Prop},Q' OO s->O6 (Po prog w) A (Wj (.ref b)<|(D.filter λy=>hsh prog w y.1==hsh prog w k).map λy=>Pc y.2) Q' E s:=λhq=>Js hk _ (λy hy=>hx y (Q8.mp hy).1) hq;have sm:t.sameMemory t.moves t.mask=on OK:=by unfold sameMemory;simp
     have sl:t.slot (eo t (m+g)<|t.probeStart<|hsh prog w k).j= .live i:=tE T.rs O;cases ak:t.led
     all_goals simp only[Wo,Rr,Pb,P8,Qe,M,aa]
     all_goals try refine My<|ab ?_
     all_goals try simp only[Pb,Qe]
     all_goals
      refine My<|QA<|(gr prog w).eqBool hu ai hk<|My<|Q1 ho hd U ?_;simp only[RV];by_cases q:D[i].1=k
      .rw[OS<|O3 q]
       exact OG<|q1<|OZ.mpr ⟨D[i],PF L,q⟩
      .rw[OR<|by simpa using q]
       simp only[sm,P8,sl,aa];refine My ?_;unfold isSame;simp only[Yx,P8];refine OG<|My<|OG ?_;simp only[P8];rw[OR<|by simpa using q];have Y:g<n:=by
        rcases T7 g n with z|z
        .exact z
        .obtain rfl:g=n:=by lia
         rw[<-em]at O;exact Pf ⟨i,O⟩ R
       refine ih (n-(g+1)) (by lia) c (m+g+1) _ (by lia) (by lia) rfl λS ao i2 x2 u C z=>?_;by_cases q1:S<m
       .exact p S q1 i2 x2 u C z
       .by_cases q2:S=m+g
        .subst q2
         have:=G O u;subst this;rw[h]at C;cases C;exact q z
        .obtain⟨i3,h3,h4⟩:=r (S-m) (by lia)
         rw[M,show m+(S-m)=S by lia]at h3;have:=G h3 u;subst this;refine h4 ?_;show(K[i3]?.map (·.1)).getD 0=_;rw[l,C,<-z];rfl
   .rename_i hno
    have aj:∀f:Nat->Int,(∀W,t.probe f (hsh prog w k) (eo t m<|t.probeStart<|hsh prog w k)=on W->False)->False:=λf U=>by
     obtain⟨g,ae,r,d⟩:=tT (f:=f) rfl T v (e:=n) (by lia) (by rw[M,<-em];exact R);rcases d with⟨_,H⟩|⟨i,_,_,H⟩
     .exact U _ H
     .exact U _ H
    exact(aj _ hno).elim
theorem ND{P:Nat->Prop}:∀n,P n->∃m,m<=n/\P m/\∀k<m,¬P k:=by
 intro n
 induction n using Wc with
 |_ n ih=>
  intro h;by_cases q:∃k,k<n/\P k
  .obtain⟨k,a,b⟩:=q
   obtain⟨m,d,c⟩:=ih k a b;exact⟨m,by lia,c⟩
  .exact⟨n,OX n,h,λk a b=>q ⟨k,a,b⟩⟩
def iJ(prog:Py)(w:PD)(h:PZ)(a:ON)(s:a0l):Prop:=
 ∃o A D t,h.get? a=on o/\o.ExactSet/\o.data= .set A D t/\(A.toList=s.map λx=>(hsh prog w x.1,Pc x.2))/\(s.map (·.1)).Nodup/\(∀x∈s,(gr prog w).is h x.1 x.2)/\(Tb t<|s.map λx=>hsh prog w x.1)/\t.plain=OK/\t.led=!(w.params.followText "set-order")
theorem qi{h s:PZ}{o:Qk}{m p t}(x:(gr prog w).is h k b)(i:h.get? a=on o)(A:o.data= .set m p t)(hs:PL a h s):(gr prog w).is s k b:=by
 obtain⟨g,c,n,e,j,d,l⟩:=x;have f:b≠a:=by
  rintro rfl;obtain rfl:g=o:=Pn<|e.symm.trans i;rw[A]at d;exact nomatch d
 exact⟨g,c,n,(hs.2 b f).trans e,j,d,l⟩
theorem tq{h:PZ}{o:Qk}(c:h.get? a=on o)(w:o.data= .set e d t)(b:a0y)(s:Qb):(h.update a<|UW b s).get? a=on {o with data:= .set b (d+1) s}:=by
 have:=Sm (UW b s) c (by rw[putSet_of b s w];rfl);rw[putSet_of b s w]at this;exact this
theorem KU{t:Qb}(T:Tb t hs)(j:Nat):(t.put j).1.dummies=#[]/\(t.put j).1.place.size=t.place.size+1/\(t.put j).2<=t.place.size:=by
 obtain⟨s,a,b3⟩:=ki (j:=j) T.rs;have w:has t.dummies j=OO:=by unfold has;rw[T.du];rfl
 refine⟨?_,ik s,s⟩;show(if has t.dummies j=OK then _ else t.dummies)=#[];rw[w,OR OY,T.du]
theorem JL{w D:Type}{A:List w}{s:Array D}{f:w->D}(e:s.toList=A.map f){p:Nat}(c:p<=s.size)(x:w):(insertAt s p<|f x).toList=(A.take p++x::A.drop p).map f:=by
 unfold insertAt;simp only[Array.toList_append,X3,Array.toList_extract];have a:(s.toList.extract 0 p)=s.toList.take p:=by simp[List.extract]
 have b:(s.toList.extract p s.size)=s.toList.drop p:=by
  simp only[List.extract];rw[Sa<|by simp]
 rw[a,b,e,Pw,O0,Vl,Sj,Ql];rfl
theorem Fp{D:a0l}(hu:A.units<TN)(S:iJ prog w s.heap a D)(hk:(gr prog w).is s.heap k b)(hn:D.length<63)
  (h:∀K q,PL a s.heap K->iJ prog w K a q->(k∈D.map (·.1)->q=D)->(k∉D.map (·.1)->q.Perm ((k,b)::D))->Q (decide (k∉D.map (·.1))) {s with heap:=K}):
  O6 (Po prog w) A (setAddHashed a (.ref b)<|hsh prog w k) Q E s:=by
 have S0:=S;obtain⟨o,G,ep,t,U,X,V,W,af,hx,T,hp,J⟩:=S;have F:G.size=D.length:=by rw[<-Pq,W,OC]
 have hf:t.fits G.size=OK:=T.fits (by rw[OC,F]);have Y:t.place.size=D.length:=by rw[T.sz,OC]
 obtain⟨e0,ag,ah⟩:=T.free<|pK t<|hsh prog w k;obtain⟨e,aj,hl,Z⟩:=ND (P:=λe=>¬Lv t (eo t e<|t.probeStart<|hsh prog w k).j) e0 ah;have ha:∀m<e,Lv t (eo t m<|t.probeStart<|hsh prog w k).j:=λm M=>Classical.not_not.mp<|Z m M;have ak:=T.km.odd;unfold setAddHashed setAddHashedIn;refine QA<|My<|Q1 U V hf ?_;have hb:byScan (Pc b) G=OO:=rfl;simp only[hb,Pb,Qe];refine My ?_;unfold setSearch;refine CG (e:=e) hu U V W hx T hk (by lia) hl ha (λM=>?_) (λM=>?_) e 100000 0 OD (by lia) (by unfold turns at ag;lia) rfl (λm' ai=>Pf ai<|QS _)
 .refine OG ?_
  have:=h s.heap D (PL.refl a s.heap) S0 (λ_=>rfl) (λz=>Pf M z);rw[Pt (λz=>z M)]at this;exact this
 .have hQ:∀K q,PL a s.heap K->iJ prog w K a q->q.Perm ((k,b)::D)->Q OK {s with heap:=K}:=λK q h1 h2 h3=>by
   have:=h K q h1 h2 (λz=>Pf z M) (λ_=>h3);rwa[O3 M]at this
  simp only;refine My<|Q1 U V hf ?_;generalize hj:(eo t e<|t.probeStart<|hsh prog w k).j=j at hl;obtain⟨pd,ps,pl⟩:=KU T j;generalize y:t.put j=tp at pd ps pl;obtain⟨u,p⟩:=tp;simp only at pd ps pl⊢;have l:u.plain=OK:=by
   have:(t.put j).1.plain=t.plain:=rfl;rw[y]at this;rw[this,hp]
  have L:u.led=t.led:=by
   have:(t.put j).1.led=t.led:=rfl;rw[y]at this;exact this
  have v:u.mask=t.mask:=by
   have:(t.put j).1.mask=t.mask:=rfl;rw[y]at this;exact this
  rw[l];simp only[P8];refine My<|Hc hk ?_;simp only[P8];have N:=JL (f:=λx:a0c×ON=>(hsh prog w x.1,Pc x.2)) W (p:=p) (by lia) (k,b);have B:(insertAt G p (hsh prog w k,Pc b)).size=G.size+1:=ik (by lia);have d:(D.take p++(k,b)::D.drop p).Perm ((k,b)::D):=by
   have:=List.perm_middle (a:=(k,b)) (l₁:=D.take p) (l₂:=D.drop p);rwa[Sn]at this
  have nd1:((D.take p++(k,b)::D.drop p).map (·.1)).Nodup:=by
   refine(d.map (·.1)).nodup_iff.mpr ?_;rw[O0,Pz];exact⟨M,af⟩
  refine My (wpAny_storeSet_of U V ?_<|by rw[B,Ri];lia);have H:=QP s.heap a<|UW (insertAt G p (hsh prog w k,Pc b)) u;have g1:=tq U V (insertAt G p (hsh prog w k,Pc b)) u;have aa:∀x∈D.take p++(k,b)::D.drop p,(gr prog w).is (s.heap.update a<|UW (insertAt G p (hsh prog w k,Pc b)) u) x.1 x.2:=λx hx'=>by
   rcases OQ.mp (d.mem_iff.mp hx')with rfl|hx'
   .exact qi hk U V H
   .exact qi (hx x hx') U V H
  by_cases r:u.tooFull=OK
  .simp only[r,Wo,Ts,P8]
   have fu:u.fill*5≥u.mask*3:=by unfold tooFull at r;exact QG r
   have fe:u.fill=D.length+1:=by unfold SetTable.fill;rw[pd,ps,Y];rfl
   have al:=T.nf;have f1:u.fits (insertAt G p (hsh prog w k,Pc b)).size=OK:=by
    unfold V8;rw[B,fe,ps,Y,F,v];simp;lia
   have wm:Mk (sizeAbove (grown<|G.size+1)-1)/\(G.size+1)*5<(sizeAbove (grown<|G.size+1)-1)*3/\sizeAbove (grown<|G.size+1)<=128:=by
    rw[fe,v]at fu;rw[F];rcases T.km with z|z|z
    .have:D.length=4:=by lia
     rw[this];exact⟨.inr (.inl<|by decide),by decide,by decide⟩
    .have:D.length=18:=by lia
     rw[this];exact⟨.inr (.inr<|by decide),by decide,by decide⟩
    .lia
   have C:(Array.map (λx=>x.fst)<|insertAt G p (hsh prog w k,Pc b)).size=G.size+1:=by rw[Array.size_map,B]
   obtain⟨t2,c,er,op,T2,ab,I⟩:=CT (t:=u) (hs:=(insertAt G p (hsh prog w k,Pc b)).map (·.1)) (wanted:=grown<|G.size+1) wm.1 (by rw[C];exact wm.2.1);refine My ?_;unfold setRelay;refine My<|Q1 g1 rfl f1 ?_;simp only;rw[OR<|by rw[Ri];lia];rw[er];generalize am:insertAt G p (hsh prog w k,Pc b)=es1 at*;generalize an:D.take p++(k,b)::D.drop p=xs1 at*;have l1:xs1.length=G.size+1:=by rw[d.length_eq,O4,F]
   have O:∀i,i<xs1.length->es1[i]?=on (hsh prog w (xs1.getD i (k,b)).1,Pc (xs1.getD i (k,b)).2):=λi R=>by
    rw[<-Si,N,OI,OE R,OJ,OE R];rfl
   have om:∀i∈c.toList,i<xs1.length:=λi R=>by
    have:=O9.mp<|op.mem_iff.mp R;rw[C]at this;lia
   have ac:(c.filterMap λx=>es1[x]?).toList=(c.toList.map λi=>xs1.getD i (k,b)).map λx=>(hsh prog w x.1,Pc x.2):=by
    rw[Array.toList_filterMap,wE (g:=λi=>(hsh prog w (xs1.getD i (k,b)).1,Pc (xs1.getD i (k,b)).2)) λi R=>O i<|om i R,OU];rfl
   have n:(c.toList.map λi=>xs1.getD i (k,b)).Perm xs1:=by
    refine(op.map _).trans<|Vt ?_;rw[C,<-l1];refine QE (by simp) λi h1 h2=>?_;rw[R1,R8,OJ,OE h2];rfl
   have ad:(c.filterMap λx=>es1[x]?).size=es1.size:=by
    rw[<-Pq,ac,OC,n.length_eq,l1,B]
   refine My ?_;show O6 _ _ (if((c.filterMap λx=>es1[x]?).size !=es1.size)=OK then _ else _) _ _ _;rw[OR<|by rw[ad];simp];refine OG ?_;refine wpAny_storeSet_of g1 rfl ?_ (by rw[ad,B,Ri];lia);have ae:=QP (s.heap.update a<|UW es1 u) a<|UW (c.filterMap λx=>es1[x]?) t2;have g2:=tq g1 rfl (c.filterMap λx=>es1[x]?) t2;refine OG<|hQ _ (c.toList.map λi=>xs1.getD i (k,b)) (H.trans ae) ⟨_,_,_,t2,g2,X,rfl,ac,?_,λx hx'=>?_,?_,by rw[I,l],by rw[ab,L,J]⟩<|n.trans d
   .exact(n.map (·.1)).nodup_iff.mpr nd1
   .exact qi (aa x<|n.mem_iff.mp hx') g1 rfl ae
   .have eh:(c.toList.map λi=>xs1.getD i (k,b)).map (λx=>hsh prog w x.1)=c.toList.map λi=>(es1.map (·.1)).getD i 0:=by
     rw[OU];refine Pk λi R=>?_;have h1:=O i<|om i R;have h2:(es1.map (·.1))[i]?=on (hsh prog w (xs1.getD i (k,b)).1):=by rw[Array.getElem?_map,h1];rfl
     have h3:=(Qn.mp h2);obtain⟨h4,h5⟩:=h3;simp only[Ua];rw[<-h5];simp[RP,h4];lia
    rw[eh];exact T2
  .simp only[r,Wo,Bool.and_false,Qe,RV,Pb]
   refine OG<|hQ _ (D.take p++(k,b)::D.drop p) H ⟨_,_,_,u,g1,X,rfl,N,nd1,aa,?_,l,by rw[L,J]⟩ d;have nf:(t.place.size+1)*5<t.mask*3:=by
    have:¬(u.fill*5≥u.mask*3):=by
     intro z;exact r (by unfold tooFull;exact O3 z)
    unfold SetTable.fill at this;rw[pd,ps,v]at this;simp at this;lia
   have:=(T.put (h:=hsh prog w k) hl hj (by exact ha) nf).2.2.2.2;rw[y]at this;rw[Pw,O0,Vl,Sj];exact this
end
namespace F2
theorem si_next:Slot "set_iterator" "__next__" "set_iterator.__next__":= .of (owner:="set_iterator") (n:="__next__") (by rw[WV,Vo];kernel_rfl) (by decide +kernel) (by decide +kernel) (by decide +kernel)
  (by first|exact .inl (by decide +kernel)|exact .inr (by decide +kernel)) (by rw[UE];kernel_rfl)
theorem si_iter:Slot "set_iterator" "__iter__" "set_iterator.__iter__":= .of (owner:="set_iterator") (n:="__iter__") (by rw[WV,Vo];kernel_rfl) (by decide +kernel) (by decide +kernel) (by decide +kernel)
  (by first|exact .inl (by decide +kernel)|exact .inr (by decide +kernel)) (by rw[UE];kernel_rfl)
theorem ent_next:Xj table "set_iterator.__next__"=on Builtin.«set_iterator.__next__»:=WD (by kernel_rfl)
theorem ent_iter:Xj table "set_iterator.__iter__"=on Builtin.«dict_keyiterator.__iter__»:=Xk (id':="dict_keyiterator.__iter__") (by kernel_rfl) rfl (by decide +kernel) (by kernel_rfl)
theorem ent_set_iter:Xj table "set.__iter__"=on Builtin.«frozenset.__iter__»:=Xk (id':="frozenset.__iter__") (by kernel_rfl) rfl (by decide +kernel) (by kernel_rfl)
theorem args_next(a:OP):argsOk "set_iterator.__next__" ⟨[a],[]⟩:=by unfold argsOk;kernel_rfl
theorem args_iter(a:OP):argsOk "set_iterator.__iter__" ⟨[a],[]⟩:=by unfold argsOk;kernel_rfl
end F2
theorem rB{w:Type}:∀{l:List w} {i:Nat} (h:i<l.length),(l[i]::l.eraseIdx i).Perm l
 |[],i,h=>Pf h<|QS i
 |a::l,0,h=> .refl _
 |a::l,i+1,h=>by
  show(l[i]'(by simpa using h)::a::l.eraseIdx i).Perm (a::l);exact(List.Perm.swap _ _ _).trans<|(rB<|by simpa using h).cons a
theorem xY{w:Type}(next:a0U):∀(fuel k:Nat) (left:List w) (a:Array w),left.length<=fuel->(Wh next fuel k left a).toList.Perm (a.toList++left)
 |0,k,left,a,h=>by
  have:left=[]:=UI.mp (by lia);subst this;unfold Wh;rw[P9]
 |fuel+1,k,left,a,h=>by
  unfold Wh;cases left with
  |nil=>simp
  |cons c d=>
   have b:next k % (c::d).length<(c::d).length:=Vv _ (by simp)
   rw[OE b];simp only;refine(xY next fuel (k+1) _ _ (by rw[List.length_eraseIdx_of_lt b];lia)).trans ?_
   rw[X3,Ql];exact List.Perm.append_left _<|rB b
theorem DC{w:Type}(next:a0U)(xs:Array w):(WF next xs).toList.Perm xs.toList:=by
 unfold WF;refine(xY next xs.size 0 xs.toList #[] (by simp)).trans ?_
 simp
section
variable{prog:Py}{w:PD}{A:Qc}{E:a0f}{s:OT}
noncomputable def eW(w:PD)(a:ON)(ep:Nat)(s:a0y):a0y:=if w.params.followText "set-order"=OK then WF (w.params.setOrder a ep) s else s
theorem l8(w:PD)(a:ON)(ep:Nat)(s:a0y):(eW w a ep s).toList.Perm s.toList:=by
 unfold eW;split
 .exact DC _ _
 .exact .refl _
structure X_ (w:PD) (h:PZ) (I a:ON) (es:a0y) (ep:Nat) (t:Qb) (i:Nat):Prop where
 st:∃o,h.get? a=on o/\o.data= .set es ep t
 it:∃(o:Qk) (sl:Nat),h.get? I=on o/\o.cls= .type "set_iterator"/\o.data= .fields #[.int sl 0,.int i 0,.ref a,.int es.size 0,.int ep 0]/\(w.params.followText "set-order"=OO->below t.place sl=i)
theorem nV{M:Model}(h:Q (M.w.params.followText "set-order") s):O6 M A setsByText Q E s:=by
 unfold setsByText;exact My<|SZ<|OG h
theorem DQ{D:a0y}{t:Qb}{e:Int×OP}(T:Tb t hs)(g:t.fits D.size=OK)(F:t.plain=OK)(H:t.led=!(w.params.followText "set-order"))(x:X_ w s.heap I a D Z t i)(h:I≠a)(k:(eW w a Z D)[i]?=on e)
  (J:∀M,X_ w M I a D Z t (i+1)->PL I s.heap M->Q (on e.2) {s with heap:=M}):O6 (Po prog w) A (S7<|.ref I) Q E s:=by
 obtain⟨⟨L,b,c⟩,o,U,m,r,K,n⟩:=id x;have u:s.TypeIs (.ref I) "set_iterator":=⟨o,m,r⟩;unfold S7;refine My<|T6<|wpAny_callSpecial?_slot (name:=RU "__next__") u F2.si_next<|P5 F2.si_next u F2.ent_next ?_<|F2.args_next _;unfold Builtin.«set_iterator.__next__»;refine My<|OG ?_;refine My<|VA m K ?_;simp only;refine My<|VM b c g ?_;simp only[Sk,Pb,Qe];refine My ?_;simp only[Qu]
 have G:∀nx:Nat,(w.params.followText "set-order"=OO->below t.place nx=i+1)->O6 (Po prog w) A.in1 (do
    Xn (Pc I) 0 (Tw nx)
    Xn (Pc I) 1 (Tw<|i+1)
    ret e.2) (λG P=>∃v,G=Fin.done (Flow.ret v)/\O6 (Po prog w) A (Rm<|on v) Q E P) (λe P=>O6 (Po prog w) A (do
     if(<-VZ e (R7 "StopIteration"))=OK then Rm OD else throw e) Q E P) s:=λnx p=>by
  refine My<|Tz m K (by simp) ?_;have y:(s.heap.update I<|Obj.mapFields (·.setIfInBounds 0 (Tw nx))).get? I=on _:=Sm _ m<|UY<|Rk K _;refine My<|Tz y (Rk K _) (by simp) ?_;refine OG ⟨_,rfl,OG<|J _ ⟨⟨L,?_,c⟩,⟨_,nx,Sm _ y<|UY<|Rk (Rk K _) _,?_,?_,p⟩⟩<|(QP ..).trans<|QP ..⟩
  .rw[RX _ _ _ _<|Ne.symm h,RX _ _ _ _<|Ne.symm h];exact b
  .rw[VJ,VJ];exact r
  .rw[Rk<|Rk K _];simp[Tw]
 unfold setNext;refine My<|Q1 b c g<|My<|nV ?_;have B:(Po prog w).w=w:=rfl;rw[B];cases q:w.params.followText "set-order"
 .have d:eW w a Z D=D:=by unfold eW;rw[q];rfl
  rw[d]at k;have N:=n q;have W:=(Qn.mp k).1;simp only[Pb,Qe];have O:t.place.size=D.size:=by
   unfold V8 at g;simp only[Pr,SO,PR]at g;exact g.1
  rw[OR (λz=>by
   have C:(!t.plain&&decide (D.size>1))=OK:=z;rw[F]at C;cases C)]
  refine My ?_;show O6 _ _ (if(!t.led&&!D.isEmpty)=OK then _ else _) _ _ _;rw[OR<|by rw[H,q];exact OY];refine OG<|OG ?_;have f:t.place[i]?=on t.place[i]:=getElem?_pos t.place i (by lia);rw[N,k,f];simp only;refine G _ λ_=>?_;obtain⟨S,R,b3⟩:=ki (j:=t.place[i]+1) T.rs;rcases Sw (below t.place<|t.place[i]+1) (i+1)with z|z|z
  .have:=b3 i _ (by lia) f
   lia
  .exact z
  .have l:t.place[i+1]?=on t.place[i+1]:=getElem?_pos t.place (i+1) (by lia)
   have X:=R (i+1) _ z l;have Y:=T.rs i (i+1) _ _ (by lia) f l;lia
 .have d:eW w a Z D=WF (w.params.setOrder a Z) D:=by unfold eW;rw[q];rfl
  rw[d]at k;simp only[P8,Sk,Pb,Qe];refine My ?_;unfold setWalk;refine My<|Q1 b c g<|My<|nV ?_;rw[B,q];simp only[P8];refine My<|SZ<|OG ?_;refine OG ?_;rw[show((Po prog w).w.params.setOrder a Z)=w.params.setOrder a Z from rfl,k];simp only[QI];exact G _ λz=>by rw[q]at z;cases z
theorem Gn{D:a0y}{t:Qb}(p:A.handled=OD)(T:Tb t J)(f:t.fits D.size=OK)(r:t.plain=OK)(u:t.led=!(w.params.followText "set-order"))(x:X_ w s.heap I a D H t D.size)
  (y:∀M,VU I s.heap M->Q OD {s with heap:=M}):O6 (Po prog w) A (S7<|.ref I) Q E s:=by
 obtain⟨⟨C,c,d⟩,o,F,g,B,P,h⟩:=id x;have k:s.TypeIs (.ref I) "set_iterator":=⟨o,g,B⟩;unfold S7;refine My<|T6<|wpAny_callSpecial?_slot (name:=RU "__next__") k F2.si_next<|P5 F2.si_next k F2.ent_next ?_<|F2.args_next _;unfold Builtin.«set_iterator.__next__»;refine My<|OG ?_;refine My<|VA g P ?_;simp only;refine My<|VM c d f ?_;simp only[Sk,Pb,Qe];refine My ?_;simp only[Qu]
 have G:O6 (Po prog w) A.in1 (do
    Xn (Pc I) 2 P7
    let e <-YA (R7 "StopIteration") []
    (raiseNew e:Sem Fin)) (λG K=>∃v,G=Fin.done (Flow.ret v)/\O6 (Po prog w) A (Rm<|on v) Q E K) (λe K=>O6 (Po prog w) A (do
     if(<-VZ e (R7 "StopIteration"))=OK then Rm OD else throw e) Q E K) s:=by
  refine My<|Tz g P (by simp) ?_;refine My ?_;simp only[YA,newTuple];refine My (Qy ?_<|by size_fits);refine My (m:=Tv _ _)<|Ss (a:=P7) (by first|rfl|(simp only[Tv];rfl)) ?_
  refine Qy ?_ (by size_fits);simp only[raiseNew];refine My<|X2 ?_;rw[show A.in1.handled=OD from p];refine My<|OG<|wpAny_throw ?_;refine My<|RF (T:="StopIteration") (b:=OK) ⟨_,O5 _ rfl,rfl⟩ Xl ?_;exact OG<|y _<|((QP ..).extBut.push _).push _
 unfold setNext;refine My<|Q1 c d f<|My<|nV ?_;have l:(Po prog w).w=w:=rfl;rw[l];have i:(eW w a H D).size=D.size:=by rw[<-Pq,(l8 w a H D).length_eq,Pq]
 cases q:w.params.followText "set-order"
 .simp only[Pb,Qe]
  rw[OR (λz=>by
   have n:(!t.plain&&decide (D.size>1))=OK:=z;rw[r]at n;cases n)]
  refine My ?_;show O6 _ _ (if(!t.led&&!D.isEmpty)=OK then _ else _) _ _ _;rw[OR<|by rw[u,q];exact OY];refine OG<|OG ?_;rw[h q,R6<|OX _];exact G
 .have j:eW w a H D=WF (w.params.setOrder a H) D:=by unfold eW;rw[q];rfl
  simp only[P8,Sk,Pb,Qe];refine My ?_;unfold setWalk;refine My<|Q1 c d f<|My<|nV ?_;rw[l,q];simp only[P8];refine My<|SZ<|OG ?_;refine OG ?_;rw[show((Po prog w).w.params.setOrder a H)=w.params.setOrder a H from rfl,<-j,R6<|by rw[i];exact OX _];exact G
theorem X_.at{h h':PZ}(x:X_ w h I a es ep t i)(k:∀b,b=I\/b=a->∀o,h.get? b=on o->h'.get? b=on o):X_ w h' I a es ep t i:=by
 obtain⟨⟨e,c,d⟩,o,f,g,r⟩:=x;exact⟨⟨e,k a (.inr rfl) e c,d⟩,o,f,k I (.inl rfl) o g,r⟩
theorem FA(q:A.handled=OD){D:a0y}{t:Qb}(T:Tb t x)(l:t.fits D.size=OK)(m:t.plain=OK)(n:t.led=!(w.params.followText "set-order"))(f:I≠a):
  Walks prog w A I [I,a] [I] D.size (λi v=>∃e,(eW w a ep D)[i]?=on e/\v=e.2) (λi h=>X_ w h I a D ep t i) where
 sub:=λb c=>by simp at c;simp[c]
 frame:=λ_ _ _ G r=>G.at λb c o e=>r b (by simpa using c) o e
 item:=λi s Q E L G d=>by
  have u:(eW w a ep D).size=D.size:=by rw[<-Pq,(l8 w a ep D).length_eq,Pq]
  have p:(eW w a ep D)[i]?=on (eW w a ep D)[i]:=getElem?_pos _ i (by lia);exact DQ T l m n G f p λK g y=>d _ K s.toks ⟨_,p,rfl⟩ g λb o c e=>y.extBut b o (λh=>c<|by simp[h]) e
 done:=λs Q E G d=>Gn q T l m n G λK j=>d K s.toks λb o c e=>j b o (λh=>c<|by simp[h]) e
 self:=λi s Q E G d=>by
  obtain⟨⟨N,B,C⟩,o,O,F,H,M,J⟩:=G;have k:s.TypeIs (.ref I) "set_iterator":=⟨o,F,H⟩;refine UR k F2.si_iter<|P5 F2.si_iter k F2.ent_iter ?_<|F2.args_iter _;show O6 _ _ (ret<|.ref I) _ _ s;exact OG ⟨_,rfl,"set_iterator",_,k,F2.si_next.lookup,d⟩
end
end L2.Hs
namespace L2.Hs
open PySem.SetTable
section
variable{prog:Py}{w:PD}{A:Qc}{E:a0f}{s:OT}
theorem GM{o:Qk}{D:a0y}{t:Qb}(b:s.heap.get? a=on o)(f:o.cls= .type "set")(G:o.data= .set D ep t)(c:t.fits D.size=OK)(g:t.plain=OK)
  (h:Q (.ref s.heap.objs.size) {s with heap:=s.heap.push {cls:= .type "set_iterator",data:= .fields #[.int (0:Nat) 0,.int (0:Nat) 0,.ref a,.int D.size 0,.int ep 0]}}):O6 (Po prog w) A (Va<|.ref a) Q E s:=by
 have d:s.TypeIs (.ref a) "set":=⟨o,b,f⟩;refine UR d F.slot_set_iter<|P5 F.slot_set_iter d F2.ent_set_iter ?_<|F.args_set_iter_1 _;unfold Builtin.«frozenset.__iter__»;refine My<|Ss (a:=a) rfl ?_;refine My<|My<|VM b G c<|OG ?_;refine My ?_;unfold setDrawn;refine My<|Q1 b G c<|My<|nV<|OG ?_;rw[OR (λz=>by
  have e:(!((Po prog w).w.params.followText "set-order")&&(!t.plain&&decide (D.size>1)))=OK:=z;rw[g]at e;simp at e)]
 refine My<|OG ?_;refine My<|wpAny_setEpoch_of b G c ?_;unfold newFields;refine My<|Qy<|OG ⟨_,rfl,"set_iterator",_,⟨_,O5 _ rfl,rfl⟩,F2.si_next.lookup,?_⟩;exact h
theorem xq{o:Qk}{G:a0y}{t:Qb}(hh:A.handled=OD)(U:s.heap.get? a=on o)(B:o.cls= .type "set")(S:o.data= .set G ep t)(T:Tb t hs)(X:t.fits G.size=OK)(Y:t.plain=OK)(hl:t.led=!(w.params.followText "set-order"))
  (aa:G.size<=1000)
  (hQ:∀P Z V,(∀b o,s.heap.get? b=on o->P.get? b=on o)->s.heap.objs.size<=P.objs.size->s.toks<=Z->V.Perm (G.toList.map (·.2))->Q V {s with heap:=P,toks:=Z}):O6 (Po prog w) A (collect<|.ref a) Q E s:=by
 unfold collect;refine My<|Xr<|Sx F.entry_proto_collect ?_;rw[Sv F.plain_proto_collect _];show O6 _ A.in1 (newList []>>=λl=>We<|.builtin "list.__iadd__" ⟨[l,.ref a],[]⟩) _ _ s;refine My<|Qy ?_;refine OG ⟨VR F.plain_list_iadd _,Sx F.entry_list_iadd ?_⟩;rw[Sv F.plain_list_iadd _];have x:=Ph U;have g:(s.heap.push {cls:= .type "list",data:= .seq ([]:a0g).toArray}).get? a=on o:=OH _ U;have C:(s.heap.push {cls:= .type "list",data:= .seq ([]:a0g).toArray}).get? s.heap.objs.size=on {cls:= .type "list",data:= .seq ([]:a0g).toArray}:=O5 _ rfl;have r:s.heap.objs.size≠a:=RT x;have y:VD (.ref s.heap.objs.size) (.ref a)=OO:=by simp[VD,r]
 have H:(⟨s.heap.push {cls:= .type "list",data:= .seq ([]:a0g).toArray},s.gens,s.drawn,s.toks,s.os⟩:OT).TypeIs (.ref a) "set":=⟨o,g,B⟩;show O6 _ A.in1 (Vk (.ref s.heap.objs.size) (.ref a)<|.ref s.heap.objs.size) _ _ _;unfold Vk;refine My<|wpAny_typeOf H ?_;rw[OR<|by rw[y];decide];refine My<|GM g B S X Y ?_;refine My<|QA ?_;unfold Builtin.List.listLengthHint;have n:(⟨(s.heap.push {cls:= .type "list",data:= .seq ([]:a0g).toArray}).push {cls:= .type "set_iterator",data:= .fields #[.int (0:Nat) 0,.int (0:Nat) 0,.ref a,.int G.size 0,.int ep 0]},s.gens,s.drawn,s.toks,s.os⟩:OT).TypeIs (.ref a) "set":=⟨o,OH _ g,B⟩;refine My (RW n F.slot_set_len.lookup ?_)
 (generalize u:("set.__len__":String)=id0;wp_delta;rw[show splitId id0=on ("set","__len__")from by subst u;decide +kernel];subst u)
 refine My<|RF (b:=OK) n (by rw[UE];kernel_rfl) ?_;rw[OR<|by decide];show O6 _ _ (if _ then _ else _) _ _ _;rw[OS<|by decide];refine My<|wpAny_typeOf n ?_;refine OG ?_;rw[OS<|by decide];refine My<|SS ?_;have eI:(s.heap.push {cls:= .type "list",data:= .seq ([]:a0g).toArray}).objs.size=s.heap.objs.size+1:=by rw[size_push']
 generalize h:(s.heap.push {cls:= .type "list",data:= .seq ([]:a0g).toArray}).push {cls:= .type "set_iterator",data:= .fields #[.int (0:Nat) 0,.int (0:Nat) 0,.ref a,.int G.size 0,.int ep 0]}=d;have gS:d.get? s.heap.objs.size=on (SD "list" #[] 0):=by rw[<-h];exact OH _ C
 have gI:d.get? (s.heap.objs.size+1)=on {cls:= .type "set_iterator",data:= .fields #[.int (0:Nat) 0,.int (0:Nat) 0,.ref a,.int G.size 0,.int ep 0]}:=by rw[<-h,<-eI];exact O5 _ rfl
 have ga:d.get? a=on o:=by rw[<-h];exact OH _ g
 have p:∀b f,s.heap.get? b=on f->d.get? b=on f:=λb f e=>by rw[<-h];exact OH _<|OH _ e
 unfold Builtin.List.listTouch;refine My<|My<|UX gS rfl ?_ (by show 0<=_;lia) (by show 1<=_;lia);obtain⟨e1,g1⟩:∃e1,(d.update s.heap.objs.size<|QW λD=>D.push P7).get? s.heap.objs.size=on (SD "list" #[P7] e1):=⟨_,get?_update_seq gS λD=>D.push P7⟩;refine UX g1 rfl ?_ (by show 1<=Pe;decide) (by show 0<=_;lia);obtain⟨J,g2⟩:∃J,((d.update s.heap.objs.size<|QW λD=>D.push P7).update s.heap.objs.size<|QW λD=>D.pop).get? s.heap.objs.size=on (SD "list" #[] J):=⟨_,get?_update_seq g1 λD=>D.pop⟩;have c:∀b f,b≠s.heap.objs.size->d.get? b=on f->((d.update s.heap.objs.size<|QW λD=>D.push P7).update s.heap.objs.size<|QW λD=>D.pop).get? b=on f:=λb f q e=>by
  rw[RX _ _ _ _ q,RX _ _ _ _ q];exact e
 generalize (d.update s.heap.objs.size<|QW λD=>D.push P7).update s.heap.objs.size (QW λD=>D.pop)=h4 at g2 c;have L:s.heap.objs.size+1≠a:=RT<|Rp x;have st:X_ w h4 (s.heap.objs.size+1) a G ep t 0:=⟨⟨o,c a o (Ne.symm r) ga,S⟩,_,0,c _ _ (by lia) gI,rfl,rfl,λ_=>by
  have:=ki (j:=0) T.rs;rcases Nat.eq_zero_or_pos (below t.place 0)with z|z
  .exact z
  .have e:=getElem?_pos t.place 0 (by lia)
   have:=this.2.1 0 _ z e;lia⟩
 have W:=FA (prog:=prog) (w:=w) (A:=A.in1) (I:=s.heap.objs.size+1) (a:=a) (ep:=ep) hh T X Y hl L;show O6 _ _ (We _) _ _ _;rw[eI];refine OG ⟨VR F.plain_extend_loop _,codeAny_extend_loopS W.toS (by rw[Ri];lia) s.heap.objs.size (by simp;lia) _ G.size 0 _ #[] J rfl (Qf _) st g2 (ItemsOf.nil _) λK k c' M v m=>?_⟩;show O6 _ A (load s.heap.objs.size>>=_) _ _ K;refine My<|wpAny_load v ?_;refine OG ?_;have N:K={s with heap:=K.heap,toks:=K.toks}:=by
  have y:=M.gens;have d:=M.drawn;have h3:=M.os;obtain⟨a1,a2,a3,a4,a5⟩:=K;simp only at y d h3;subst y d h3;rfl
 rw[N];refine hQ _ _ _ (λb f e=>?_) (UT<|Ph v) M.toks ?_
 .have q:=Ph e
  exact M.heap b f (by simp only[OQ,PV,RB,V0];exact⟨PQ q,PQ<|Rp q⟩)<|c b f (PQ q)<|p b f e
 .refine List.Perm.trans (Vt ?_) ((l8 w a ep G).map (·.2))
  have O:(eW w a ep G).size=G.size:=by rw[<-Pq,(l8 w a ep G).length_eq,Pq]
  refine QE (by rw[Pq,OC,Pq,O,m.1]) λi q1 q2=>?_;have R:i<k.size:=by simpa using q1
  obtain⟨e,he,hv⟩:=m.2 i _<|getElem?_pos k i R;rw[Tq,hv,R1,Tq];have:=Qn.mp he;obtain⟨z1,z2⟩:=this;rw[z2]
end
end L2.Hs
namespace L2.Hs
open PySem.W
section
variable{d β:Type}{lt:Nat->Nat->Bool}{n:Nat}
def Rn(lt:Nat->Nat->Bool)(n:Nat):KasT d->(d->Prop)->Prop
 | .ret a,Φ=>Φ a
 | .ask i j k,Φ=>i<n/\j<n/\Rn lt n (k<|lt i j) Φ
theorem Rn.bind{Φ:β->Prop}:∀{t:KasT d},Rn lt n t (λa=>Rn lt n (f a) Φ)->Rn lt n (t.bind f) Φ
 | .ret a,h=>h
 | .ask i j k,⟨h1,h2,h3⟩=>⟨h1,h2,Rn.bind h3⟩
theorem Rn.mono{Φ Ψ:d->Prop}(b:∀a,Φ a->Ψ a):∀{t:KasT d},Rn lt n t Φ->Rn lt n t Ψ
 | .ret a,h=>b a h
 | .ask i j k,⟨h1,h2,h3⟩=>⟨h1,h2,Rn.mono b h3⟩
theorem Rn.wp{Φ:d->Prop}(b:∀i j,i<n->j<n->∀C:Bool->OT->Prop,C (lt i j) s->cmp i j C s)(c:∀a,Φ a->Q a s):∀{t:KasT d},Rn lt n t Φ->t.kasWp cmp Q s
 | .ret a,h=>c a h
 | .ask i j k,⟨h1,h2,h3⟩=>b i j h1 h2 _<|Rn.wp b c h3
end
section
variable{B:a0U}{n:Nat}
noncomputable abbrev qk(B:a0U)(i j:Nat):Bool:=decide (B i<B j)
noncomputable abbrev ky(B:a0U)(p:a0z)(i:Nat):Nat:=B<|p.getD i 0
structure Pm (B:a0U) (n:Nat) (p:a0z):Prop where
 perm:p.toList.Perm (OV n)
 inj:∀i j,i<n->j<n->B i=B j->i=j
theorem Pm.sz{p:a0z}(h:Pm B n p):p.size=n:=by have:=h.perm.length_eq;simpa using this
theorem Pm.lt{p:a0z}(h:Pm B n p)(a:i<n):p.getD i 0<n:=by
 have w:=h.sz;have e:p.getD i 0=p[i]:=by simp[RP,show i<p.size by lia]
 rw[e];exact O9.mp (h.perm.mem_iff.mp<|by simp)
theorem Pm.ne(h:Pm B n p)(a:i<j)(b:j<n):ky B p i≠ky B p j:=λz=>by
 have D:=h.sz;have:=h.inj _ _ (h.lt (show i<n by lia)) (h.lt b) z;have w:p.toList.Nodup:=h.perm.nodup_iff.mpr UK;have c:p.getD i 0=p.toList[i]'(by simp;lia):=by simp[RP,show i<p.size by lia]
 have d:p.getD j 0=p.toList[j]'(by simp;lia):=by simp[RP,show j<p.size by lia]
 rw[c,d]at this;exact Pf this<|RI.mp w i j (by simp;lia) (by simp;lia) a
theorem Pm.of{p q:a0z}(h:Pm B n p)(a:q.Perm p):Pm B n q:=⟨(Array.perm_iff_toList_perm.mp a).trans h.perm,h.inj⟩
def So(B:a0U)(p:a0z)(k:Nat):Prop:=∀i j,i<j->j<k->ky B p i<ky B p j
def De(B:a0U)(p:a0z)(k:Nat):Prop:=∀i j,i<j->j<k->ky B p j<ky B p i
theorem So.succ(h:So B p k)(c:1<=k)(b:ky B p (k-1)<ky B p k):So B p (k+1):=λi j a d=>by
 by_cases q:j=k
 .subst q
  by_cases z:i=j-1
  .subst z;exact b
  .exact T8 (h i (j-1) (by lia)<|by lia) b
 .exact h i j a (by lia)
theorem De.succ(h:De B p k)(c:1<=k)(b:ky B p k<ky B p (k-1)):De B p (k+1):=λi j a d=>by
 by_cases q:j=k
 .subst q
  by_cases z:i=j-1
  .subst z;exact b
  .exact T8 b (h i (j-1) (by lia)<|by lia)
 .exact h i j a (by lia)
theorem xb(P:Pm B n p):∀(f k:Nat),1<=k->k+f<=n->So B p k->Rn (qk B) n (kas_asc p f k) λm=>k<=m/\m<=k+f/\So B p m/\(m=k+f\/ky B p m<ky B p (m-1))
 |0,k,_,_,h=>⟨OX k,OX _,h,.inl rfl⟩
 |f+1,k,h1,h2,h=>by
  refine⟨P.lt (by lia),P.lt (by lia),?_⟩;by_cases q:ky B p k<ky B p (k-1)
  .rw[show qk B (p.getD k 0) (p.getD (k-1) 0)=OK from O3 q];dsimp only;rw[OS rfl]
   exact⟨OX k,by lia,h,.inr q⟩
  .rw[show qk B (p.getD k 0) (p.getD (k-1) 0)=OO from Pt q];dsimp only;rw[OR OY]
   have:=P.ne (show k-1<k by lia) (show k<n by lia);refine Rn.mono (λm w=>?_) (xb P f (k+1) (by lia) (by lia)<|h.succ h1<|by lia);exact⟨by lia,by lia,w.2.2.1,by rcases w.2.2.2 with z|z;exact .inl (by lia);exact .inr z⟩
theorem yv(P:Pm B n p):∀(f k:Nat),1<=k->k+f<=n->De B p k->Rn (qk B) n (kas_desc f p k 0) λr=>r.1=p/\r.2.2=0/\k<=r.2.1/\r.2.1<=k+f/\De B p r.2.1
 |0,k,_,_,h=>⟨rfl,rfl,OX k,OX _,h⟩
 |f+1,k,h1,h2,h=>by
  refine⟨P.lt (by lia),P.lt (by lia),?_⟩;by_cases q:ky B p k<ky B p (k-1)
  .rw[show qk B (p.getD k 0) (p.getD (k-1) 0)=OK from O3 q];dsimp only;rw[OS rfl,OR<|P6 0]
   refine Rn.mono (λm w=>?_)<|yv P f (k+1) (by lia) (by lia)<|h.succ h1 q;exact⟨w.1,w.2.1,by have:=w.2.2.1;lia,by have:=w.2.2.2.1;lia,w.2.2.2.2⟩
  .rw[show qk B (p.getD k 0) (p.getD (k-1) 0)=OO from Pt q];dsimp only;rw[OR OY]
   have:=P.ne (show k-1<k by lia) (show k<n by lia);refine⟨P.lt (by lia),P.lt (by lia),?_⟩;rw[show qk B (p.getD (k-1) 0) (p.getD k 0)=OK from O3 (show ky B p (k-1)<ky B p k by lia)];dsimp only;rw[OS rfl];exact⟨rfl,rfl,OX k,by show k<=_;lia,h⟩
theorem yn{p q:a0z}(h:p[i]?=q[j]?):p.getD i 0=q.getD j 0:=by
 have a:∀(r:a0z) (x:Nat),r.getD x 0=(r[x]?).getD 0:=λr x=>by
  by_cases b:x<r.size
  .simp[RP,b]
  .simp[RP,b]
 rw[a,a,h]
theorem KK{p:a0z}(a:k<=p.size)(h:De B p k):So B (kas_rev p 0 k) k:=λi j b c=>by
 have g:∀x,x<k->(kas_rev p 0 k).getD x 0=p.getD (k-1-x) 0:=λx d=>by
  refine yn ?_;unfold kas_rev;rw[getElem?_mirror_all a,OS<|by lia];congr 1;lia
 show B _<B _;rw[g i (by lia),g j c];exact h (k-1-j) (k-1-i) (by lia) (by lia)
theorem FO(P:Pm B n p)(b:1<=k)(c:k<=n)(h:De B p k):Rn (qk B) n (kas_tail3 k n p) λr=>Pm B n r.2/\1<=r.1/\r.1<=n/\So B r.2 r.1:=by
 have a:Pm B n (kas_rev p 0 k):=P.of<|mirror_perm _ _ _ _;unfold kas_tail3;refine Rn.bind<|Rn.mono (λm w=>?_)<|xb a (n-k) k b (by lia)<|KK (by rw[P.sz];exact c) h;exact⟨a,by lia,by lia,w.2.2.1⟩
theorem G8(P:Pm B n p)(e:1<=n):Rn (qk B) n (kas_count n p) λr=>Pm B n r.2/\1<=r.1/\r.1<=n/\So B r.2 r.1:=by
 unfold kas_count;refine Rn.bind (Rn.mono (λm E=>?_)<|xb P (n-1) 1 (OX 1) (by lia) λi j a b=>by lia);obtain⟨M,S,w,G⟩:=E;by_cases q:m=n
 .rw[OS<|by rw[SO];exact q]
  exact⟨P,by lia,by lia,w⟩
 .rw[OR<|by rw[SO];exact q]
  have K:ky B p m<ky B p (m-1):=by
   rcases G with z|z
   .lia
   .exact z
  by_cases D:m>1
  .rw[OS D]
   refine⟨P.lt (by lia),P.lt (by lia),?_⟩;rw[show qk B (p.getD 0 0) (p.getD (m-1) 0)=OK from O3 (w 0 (m-1) (by lia)<|by lia)];dsimp only;rw[OS rfl];exact⟨P,by lia,by lia,w⟩
  .rw[OR D]
   obtain rfl:m=1:=by lia
   unfold kas_descPart;refine Rn.bind<|Rn.mono (λr c=>?_) (yv P (n-(1+1)) (1+1) (by lia) (by lia) λi j a b=>by
    obtain rfl:j=1:=by lia
    obtain rfl:i=0:=by lia
    exact K)
   obtain⟨rfl,f,b3,g,d⟩:=c;rw[OR<|by lia];exact FO P (by lia) (by lia) d
theorem pU(P:Pm B n p)(a:k<n):∀(f l r:Nat),l<=r->r<=k->r-l<=f->(∀i,i<l->ky B p i<ky B p k)->(∀i,r<=i->i<k->ky B p k<ky B p i)->So B p k->
  Rn (qk B) n (kas_place p k f l r) λm=>m<=k/\(∀i,i<m->ky B p i<ky B p k)/\∀i,m<=i->i<k->ky B p k<ky B p i
 |0,l,r,h1,h2,h3,ha,hb,_=>by
  obtain rfl:l=r:=by lia
  exact⟨h2,ha,hb⟩
 |f+1,l,r,h1,h2,h3,ha,hb,so=>by
  unfold kas_place;by_cases q:l≥r
  .rw[OS q]
   obtain rfl:l=r:=by lia
   exact⟨h2,ha,hb⟩
  .rw[OR q]
   refine⟨P.lt (by lia),P.lt (by lia),?_⟩;by_cases z:ky B p k<ky B p ((l+r)/2)
   .rw[show qk B (p.getD k 0) (p.getD ((l+r)/2) 0)=OK from O3 z];dsimp only;rw[OS rfl]
    refine pU P a f l ((l+r)/2) (by lia) (by lia) (by lia) ha (λi c b=>?_) so;by_cases w:i=(l+r)/2
    .subst w;exact z
    .exact T8 z (so _ i (by lia) b)
   .rw[show qk B (p.getD k 0) (p.getD ((l+r)/2) 0)=OO from Pt z];dsimp only;rw[OR OY]
    have d:=P.ne (show(l+r)/2<k by lia) a;refine pU P a f ((l+r)/2+1) r (by lia) h2 (by lia) (λi c=>?_) hb so;by_cases w:i=(l+r)/2
    .subst w;lia
    .exact T8 (so i ((l+r)/2) (by lia)<|by lia) (by lia)
theorem Fi:∀(f:Nat) {p:a0z} {k:Nat},Pm B n p->k+f=n->So B p k->Rn (qk B) n (kas_bin f p k) λb=>Pm B n b/\So B b n
 |0,p,k,P,hk,so=>⟨P,by rw[<-hk];exact so⟩
 |f+1,p,k,P,hk,so=>by
  unfold kas_bin;refine Rn.bind<|Rn.mono (λm E=>?_)<|pU P (by lia) k 0 k (Qf _) (OX _) (by lia) (λi h=>Pf h<|QS i) (λi l c=>by lia) so;obtain⟨l,c,o⟩:=E;have r:Pm B n (bubble p k<|k-m):=P.of<|bubble_perm _ _ _;refine Fi f r (by lia) λi j a t=>?_;have G:k<p.size:=by rw[P.sz];lia
  have g:∀x:Nat,(bubble p k<|k-m).getD x 0=p.getD (if x=m then k else if m<x/\x<=k then x-1 else x) 0:=λx=>by
   refine yn ?_;rw[getElem?_bubble G (k-m)<|by lia];by_cases q:x=m
   .rw[OS (by lia),OS q]
   .rw[OR (by lia),OR q]
    by_cases w:m<x/\x<=k
    .rw[OS (by lia),OS w]
    .rw[OR (by lia),OR w]
  show B _<B _;rw[g i,g j];by_cases D:i=m
  .rw[OS D,OR (by lia),OS<|by lia]
   exact o (j-1) (by lia) (by lia)
  .rw[OR D]
   by_cases w:j=m
   .rw[OS w,OR<|by lia]
    exact c i (by lia)
   .rw[OR w]
    by_cases d:m<i/\i<=k
    .rw[OS d,OS<|by lia]
     exact so (i-1) (j-1) (by lia) (by lia)
    .rw[OR d]
     by_cases e:m<j/\j<=k
     .rw[OS e]
      exact so i (j-1) (by lia) (by lia)
     .rw[OR e]
      exact so i j a (by lia)
theorem IN(a:1<=n)(w:∀i j,i<n->j<n->B i=B j->i=j):Rn (qk B) n (kas_sort n) λp=>Pm B n p/\So B p n:=by
 unfold kas_sort;have P:Pm B n (List.toArray<|OV n):=⟨.refl _,w⟩;refine Rn.bind<|Rn.mono (λr b=>?_)<|G8 P a;obtain⟨D,G,K,E⟩:=b;by_cases q:r.1<n
 .rw[OS q,Nat.max_eq_left G]
  exact Fi _ D (by lia) E
 .rw[OR q]
  obtain rfl:r.1=n:=by lia
  exact⟨D,E⟩
noncomputable def da:a0c->a0c->Bool
 |[],[]=>OO
 |[],_::_=>OK
 |_::_,[]=>OO
 |a::as,b::bs=>if a=b then da as bs else decide (a<b)
theorem jI:∀x,da x x=OO
 |[]=>rfl
 |a::as=>by unfold da;rw[OS rfl];exact jI as
theorem qZ:∀{x y z},da x y=OK->da y z=OK->da x z=OK
 |[],[],_,h,_=>by cases h
 |[],_::_,[],_,h=>by cases h
 |[],_::_,_::_,_,_=>rfl
 |_::_,[],_,h,_=>by cases h
 |_::_,_::_,[],_,h=>by cases h
 |a::as,b::bs,c::cs,h1,h2=>by
  unfold da at h1 h2⊢;by_cases w:a=b
  .rw[OS w]at h1
   by_cases n:b=c
   .rw[OS n]at h2
    rw[OS<|w.trans n];exact qZ h1 h2
   .rw[OR n]at h2
    rw[OR (by rw[w];exact n),w];exact h2
  .rw[OR w]at h1
   have d:=QG h1;by_cases n:b=c
   .rw[OR (by rw[<-n];exact w),<-n];exact h1
   .rw[OR n]at h2
    have e:=QG h2;rw[OR<|by lia];exact O3 (by lia)
theorem oF:∀{x y},da x y=OO->da y x=OO->x=y
 |[],[],_,_=>rfl
 |[],_::_,h,_=>by cases h
 |_::_,[],_,h=>by cases h
 |a::as,b::bs,h1,h2=>by
  unfold da at h1 h2;by_cases q:a=b
  .rw[OS q]at h1
   rw[OS q.symm]at h2;rw[q,oF h1 h2]
  .rw[OR q]at h1
   rw[OR<|Ne.symm q]at h2;have:=of_decide_eq_false h1;have:=of_decide_eq_false h2;lia
theorem count_lt:∀{L:a0a},(∀l∈L,p l=OK->q l=OK)->∀{i},i∈L->p i=OO->q i=OK->L.countP p<L.countP q
 |[],_,i,h,_,_=>by cases h
 |a::L,hpq,i,hi,h1,h2=>by
  have n:L.countP p<=L.countP q:=W6 λl b=>hpq l<|OF a b;rcases OQ.mp hi with rfl|hi
  .rw[List.countP_cons_of_neg (by rw[h1];exact OY),List.countP_cons_of_pos h2]
   lia
  .have ih:=count_lt (λl b=>hpq l<|OF a b) hi h1 h2
   rw[List.countP_cons,List.countP_cons];have:(if p a=OK then 1 else 0)<=(if q a=OK then 1 else 0):=by
    by_cases z:p a=OK
    .rw[OS z,OS<|hpq a OL z];exact OX 1
    .rw[OR z];exact Qf _
   lia
def jl(ks:LI)(i:Nat):Nat:=(OV ks.length).countP λj=>da (ks.getD j [])<|ks.getD i []
theorem uD{n:LI}(a:i<n.length)(h:da (n.getD i []) (n.getD j [])=OK):jl n i<jl n j:=
 count_lt (λl _ b=>qZ b h) (O9.mpr a) (jI _) h
theorem CQ{ks:LI}(b:i<ks.length)(c:j<ks.length):decide (jl ks i<jl ks j)=da (ks.getD i []) (ks.getD j []):=by
 cases h:da (ks.getD i []) (ks.getD j [])with
 |true=>exact O3<|uD b h
 |false=>
  refine Pt λz=>?_;cases a:da (ks.getD j []) (ks.getD i [])with
  |true=>have:=uD c a;lia
  |false=>
   have e:=oF h a;unfold jl at z;rw[e]at z;exact P6 _ z
theorem KI{ks:LI}(n:ks.Nodup)(a:i<ks.length)(b:j<ks.length)(h:jl ks i=jl ks j):i=j:=by
 have e:ks.getD i []=ks.getD j []:=by
  refine oF ?_ ?_
  .cases z:da (ks.getD i []) (ks.getD j [])with
   |false=>rfl
   |true=>have:=uD a z;lia
  .cases z:da (ks.getD j []) (ks.getD i [])with
   |false=>rfl
   |true=>have:=uD b z;lia
 rw[OJ,OJ,OE a,OE b]at e;have c:ks[i]=ks[j]:=e;rcases Sw i j with z|z|z
 .exact Pf c (RI.mp n i j a b z)
 .exact z
 .exact Pf c.symm (RI.mp n j i b a z)
abbrev Up(l:LI):Prop:=l.Pairwise λa b=>da a b=OK
theorem yR:∀{l m:LI},Up l->Up m->(∀x,x∈l↔x∈m)->l=m
 |[],[],_,_,_=>rfl
 |[],b::m,_,_,h=>by have:=(h b).mpr OL;cases this
 |a::l,[],_,_,h=>by have:=(h a).mp OL;cases this
 |a::l,b::m,h1,h2,h=>by
  obtain⟨d,f⟩:=S3.mp h1;obtain⟨n,B⟩:=S3.mp h2;have e:a=b:=by
   rcases OQ.mp ((h a).mp OL)with z|z
   .exact z
   .rcases OQ.mp ((h b).mpr OL)with w|w
    .exact w.symm
    .have:=qZ (n a z)<|d b w
     rw[jI]at this;cases this
  subst e;congr 1;refine yR f B λx=>⟨λc=>?_,λc=>?_⟩
  .rcases OQ.mp ((h x).mp<|OF a c)with rfl|z
   .have:=d x c;rw[jI]at this;cases this
   .exact z
  .rcases OQ.mp ((h x).mpr<|OF a c)with rfl|z
   .have:=n x c;rw[jI]at this;cases this
   .exact z
variable{aa:Py}{w:PD}{A:Qc}{E:a0f}{s:OT}
theorem ye{b:Bool}:∀{G E:a0c} {B D:a0g} (i:Nat),ItemsAre (U9 aa w) G B->ItemsAre (U9 aa w) E D->∀n m:Nat,(decide (n+B.length<m+D.length)=decide (G.length<E.length))->Q (da G E) s->KatLex aa w A OK (decide (n+B.length<m+D.length)) Q (B.zip D) i s
 |[],E,B,D,i,hx,hy,n,m,e,q=>by
  cases hx;cases hy with
  |nil=>rw[VF];exact kat_nil (by rw[e];exact q)
  |cons c d=>rw[VF];exact kat_nil (by rw[e];exact q)
 |x::G,E,B,D,i,hx,hy,n,m,e,q=>by
  cases hx with
  |@cons _ u _ us' c d=>
   cases hy with
   |nil=>rw[List.zip_nil_right];exact kat_nil (by rw[e];exact q)
   |@cons y v ys' vs' h3 h4=>
    obtain⟨g,rfl⟩:=Vx c;obtain⟨h,rfl⟩:=Vx h3;rw[Rg];refine kat_cons<|wpAny_eqBool_int ?_;unfold da at q;by_cases z:x=y
    .rw[OS z]at q
     rw[show(x==y)=OK by rw[SO];exact z];refine kat_yes ?_;have f:∀k l:Nat,decide (k+(us'.length+1)<l+(vs'.length+1))=decide (k+1+us'.length<l+1+vs'.length):=λk l=>decide_eq_decide.mpr (by lia);rw[O4,O4,f];refine ye (b:=b) (i+1) d h4 (n+1) (m+1) ?_ q;rw[<-f,<-O4 (a:=SC x g),<-O4 (a:=SC y h),e,O4,O4];exact decide_eq_decide.mpr (by lia)
    .rw[OR z]at q
     rw[show(x==y)=OO by rw[WU];exact z];refine kat_no ?_;cases j:(OK&&i==0)with
     |true=>exact oneLt_int q
     |false=>exact kat_one _ _<|lt_int (show PySem.W.BoolBack Q (.bool _) s from q)
theorem Ly(i:(gr aa w).is s.heap t x)(j:(gr aa w).is s.heap u y)(h:Q (da t u) s):O6 (Po aa w) A (keyLt' (tuples' OK) (.ref x)<|.ref y) Q E s:=by
 obtain⟨m,o,p,d,k,e,a⟩:=i;obtain⟨o2,q,r,f,l,g,c⟩:=j;refine kat_lt d e f g ?_;have:=ye (A:=A) (b:=OK) (Q:=Q) (s:=s) 0 a c 0 0 (by rw[Qi,Qi,a.length,c.length]) h;rw[Qi,Qi,Pq,Pq]at this;exact this
structure Srb (aa:Py) (w:PD) (A:Qc) (is:PZ->a0c->ON->Prop):Prop where
 fr:∀{h h':PZ} {k:a0c} {x:ON},is h k x->(∀b o,o.cls= .type "tuple"->h.get? b=on o->h'.get? b=on o)->is h' k x
 tup:∀{h:PZ} {k:a0c} {x:ON},is h k x->∃o its n i t,h.get? x=on o/\o.cls= .type "tuple"/\o.data= .seq its n/\its[0]?=on (.int i t)
 lt:∀{E:a0f} {s:OT} {Q:Bool->OT->Prop} {x y:ON} {xs ys:a0c},is s.heap xs x->is s.heap ys y->Q (da xs ys) s->O6 (Po aa w) A (keyLt' (tuples' OK) (.ref x)<|.ref y) Q E s
theorem xz(S:Srb aa w A is):∀{ks:a0l},(∀k∈ks,is s.heap k.1 k.2)->∃B:a0g,KatTups s.heap (ks.map λk=>Pc k.2) B/\B.length=ks.length/\∀v∈B,∃n t,v=SC n t
 |[],_=>⟨[],trivial,rfl,λv hv=>by cases hv⟩
 |k::ks,h=>by
  obtain⟨B,a,b,c⟩:=xz S λd f=>h d<|OF k f;obtain⟨o,D,n,i,t,g,j,E,e⟩:=S.tup<|h k OL;refine⟨_::B,KatTups.cons g j E e a,by rw[O4,O4,b],λv hv=>?_⟩;rcases OQ.mp hv with rfl|hv
  .exact⟨i,t,rfl⟩
  .exact c v hv
abbrev isI(aa:Py)(w:PD)(h:PZ)(k:a0c)(x:ON):Prop:=(gr aa w).is h k x/\1<=k.length
theorem Nh:Srb aa w A (isI aa w) where
 fr:=λ⟨⟨o,s,n,d,b,f,c⟩,l⟩ k=>⟨⟨o,s,n,k _ _ b d,b,f,c⟩,l⟩
 tup:=λ⟨⟨o,s,n,d,b,f,c⟩,l⟩=>by
  have a:=c.length;have g:0<s.size:=by rw[<-Pq,<-a];lia
  obtain⟨i,t,e⟩:=items_int c s[0] (by rw[<-Tq];exact PF _);exact⟨o,s,n,i,t,d,b,f,by rw[getElem?_pos s 0 g,e]⟩
 lt:=λj m h=>Ly j.1 m.1 h
theorem CB(S:Srb aa w A is){ks:a0l}{n:Nat}{P:UD->OT->Prop}(L:s.heap.get? a=on (SD "list" (ks.map λk=>Pc k.2).toArray n))(hk:∀k∈ks,is s.heap k.1 k.2)(nd:(ks.map (·.1)).Nodup)(ae:ks.length<64)
  (h:∀(h':PZ) (l:a0l) (n':Nat),l.Perm ks->Up (l.map (·.1))->h'.get? a=on (SD "list" (l.map λk=>Pc k.2).toArray n')->(∀b o,b≠a->s.heap.get? b=on o->h'.get? b=on o)->P (.done<|.ret .none) {s with heap:=h'}):
  O6 (Po aa w) A (Builtin.«list.sort» ⟨[.ref a],[]⟩) P E s:=by
 have ha:a<s.heap.objs.size:=Ph L;rw[list_sort_plain];refine My<|listItems_at L rfl ?_;refine My (UX L rfl ?_ (by simp[Ri];lia)<|by simp);obtain⟨B,N⟩:∃B,(s.heap.update a<|QW λ_=>#[]).get? a=on (SD "list" #[] B):=⟨_,get?_update_seq L (λ_=>#[])⟩;refine My<|seqEpoch_at N rfl ?_;refine My (Xq ?_<|by simp[Ri];lia);refine My<|wpAny_newList ?_<|Qf _;refine QA ?_;generalize m:(ks.map λk=>Pc k.2)=vs at*;have q:vs.length=ks.length:=by rw[<-m,OC]
 have d:(((s.heap.update a<|QW λ_=>#[]).push<|SD "tuple" vs.toArray 0).push<|SD "list" #[] 0).get? a=on (SD "list" #[] B):=by
  rw[Yr _ _ _ (by rw[size_push',Heap.size_update];exact PQ<|Rp ha),Yr _ _ _<|by rw[Heap.size_update];exact PQ ha];exact N
 have D:∀b o,b≠a->s.heap.get? b=on o->(((s.heap.update a<|QW λ_=>#[]).push<|SD "tuple" vs.toArray 0).push<|SD "list" #[] 0).get? b=on o:=λb o F e=>by
  refine OH _<|OH _ ?_;rw[RX _ _ _ _ F];exact e
 show O6 (Po aa w) A _ P E {s with heap:=((s.heap.update a<|QW λ_=>#[]).push<|SD "tuple" vs.toArray 0).push (SD "list" #[] 0)};generalize af:((s.heap.update a<|QW λ_=>#[]).push<|SD "tuple" vs.toArray 0).push (SD "list" #[] 0)=h6 at d D
 dsimp only
 have M:∀(l:a0l) (u:a0M),l.Perm ks->Up (l.map (·.1))->u=(l.map λk=>Pc k.2).toArray->P (.done<|.ret .none) {s with heap:=h6.update a (QW λ_=>u)}:=λl u p1 p2 e=>by
  refine h _ l _ p1 p2 (by rw[<-e];exact get?_update_seq d λ_=>u) λb o F U=>?_;rw[RX _ _ _ _ F];exact D b o F U
 by_cases I:vs.toArray.size<2
 .rw[OS I,OS I]
  refine My<|OG ?_;rw[StateT.run_pure];refine My<|OG ?_
  dsimp only
  refine My<|seqEpoch_at d rfl ?_;have W:((arrOf<|SortSt.mk' general' (vs.toArray.zip vs.toArray) #[] 7 OD).map (·.2))=vs.toArray:=by
   show(vs.toArray.zip vs.toArray).map (·.2)=_;apply Array.toList_inj.mp;rw[Array.toList_map,Array.toList_zip];exact List.map_snd_zip<|OX _
  rw[W];refine My (UX d rfl ?_ (by simp)<|by simp[Ri];lia);simp only[Sk,Pb,Qe];refine OG (M ks _ (.refl _) ?_<|by rw[m]);have X:ks.length<2:=by rw[<-q];simpa using I
  match ks,X with
  |[],_=>exact US
  |[k],_=>exact S5 _ _
  |_::_::_,X=>simp at X;lia
 .rw[OR I,OR I]
  have ag:2<=ks.length:=by rw[<-q];simp at I;lia
  have H:∀k∈ks,is h6 k.1 k.2:=λk Y=>S.fr (hk k Y) λb o hc F=>D b o (λz=>by
   subst z;rw[L]at F;cases F;exact Pf (R7.inj hc)<|by decide) F
  obtain⟨fs,t1,t2,t3⟩:=xz S (s:={s with heap:=h6}) H;rw[m]at t1;refine My<|kat_kind (T:= .type "int") t1 (by lia) (λv hv=>?_) rfl ?_
  .obtain⟨x,t,rfl⟩:=t3 v hv
   exact Looks.of_pure rfl
  show O6 _ _ (StateT.run sortRuns' (SortSt.mk' (tuples' OK) (vs.toArray.zip vs.toArray) #[] 7 OD)>>=_) _ _ _;have J:(ks.map (·.1)).length=vs.length:=by rw[OC,q]
  have K:∀i,i<vs.length->∃k∈ks,vs.getD i P7= .ref k.2/\(ks.map (·.1)).getD i []=k.1/\ks[i]?=on k:=λi c=>by
   have f:i<ks.length:=by lia
   refine⟨ks[i],PF f,?_,?_,OE f⟩
   .rw[<-m,OJ,OI,OE f];rfl
   .rw[OJ,OI,OE f];rfl
  refine My<|Qa (kat_run (κ:=tuples' OK) (ks:=vs) (vs:=vs) (Q:=λg V=>V={s with heap:=h6}/\failedOf g=OD/\∃p:a0z,Pm (jl<|ks.map (·.1)) vs.length p/\So (jl<|ks.map (·.1)) p vs.length/\arrOf g=p.map (kas_item<|vs.toArray.zip vs.toArray))
   (G:=λp V=>V={s with heap:=h6}/\Pm (jl<|ks.map (·.1)) vs.length p/\So (jl<|ks.map (·.1)) p vs.length) rfl (by lia) (by lia) (λp g V a1 a2 a3 a4=>⟨a4.1,a3,p,a4.2.1,a4.2.2,a2⟩)
   (Rn.wp (lt:=qk<|jl<|ks.map (·.1)) (n:=vs.length) (λi j c y C hC=>?_) (λp hp=>⟨rfl,hp⟩)<|IN (by lia) λi j c y Z=>KI nd (by rw[J];exact c) (by rw[J];exact y) Z)) (λr V Z=>?_) λ_ _ e=>e
  .obtain⟨k1,m1,B,f1,_⟩:=K i c
   obtain⟨k2,m2,e2,f2,_⟩:=K j y;unfold kas_ask;rw[B,e2];refine S.lt (H k1 m1) (H k2 m2) ?_;have:=CQ (ks:=ks.map (·.1)) (i:=i) (j:=j) (by rw[J];exact c) (by rw[J];exact y);rw[f1,f2]at this;rw[<-this];exact hC
  .obtain⟨⟨⟩,g⟩:=r
   obtain⟨rfl,hf,p,P1,so,ab⟩:=Z
   dsimp only
   have W:(arrOf g).map (·.2)=(p.toList.map λi=>vs.getD i P7).toArray:=kat_snds rfl ab;have O:=P1.sz;rw[W];refine My<|seqEpoch_at d rfl ?_;refine My (UX d rfl ?_ (by simp)<|by simp[Ri];lia);rw[hf];simp only[Sk,Pb,Qe];have R:∀i∈p.toList,i<vs.length:=λi c=>O9.mp<|P1.perm.mem_iff.mp c;refine OG<|M (p.toList.map λi=>ks.getD i ([],0)) _ ?_ ?_ ?_
   .refine(P1.perm.map _).trans (Vt ?_)
    rw[q];refine QE (by simp) λi q1 q2=>?_;rw[R1,R8,OJ,OE q2];rfl
   .rw[OU]
    unfold Up;rw[Ur];refine RI.mpr λi j c y ac=>?_;have f:i<vs.length:=by simpa[O]using c
    have ad:j<vs.length:=by simpa[O]using y
    have gd:∀x (hx:x<p.toList.length),p.getD x 0=p.toList[x]:=λx hx=>by
     have:x<p.size:=by simpa using hx
     simp[RP,this]
    have z:=so i j ac ad;unfold ky at z;rw[gd i c,gd j y]at z;obtain⟨k1,m1,B,f1,g1⟩:=K p.toList[i]<|R _<|PF c;obtain⟨k2,m2,e2,f2,g2⟩:=K p.toList[j]<|R _<|PF y;have:=CQ (ks:=ks.map (·.1)) (i:=p.toList[i]) (j:=p.toList[j]) (by rw[J];exact R _<|PF c) (by rw[J];exact R _<|PF y);rw[O3 z,f1,f2]at this;simp only[Ua];rw[OJ,OJ,g1,g2];exact this.symm
   .rw[OU]
    congr 1;refine Pk λi c=>?_;obtain⟨k1,m1,B,f1,g1⟩:=K i<|R i c;rw[B];simp only[Ua];rw[OJ,g1];rfl
theorem Gc{w A:Type}{f:w->A}{B g:List A}(p:B.Perm g):∀{n:List w},g=n.map f->∃s:List w,s.Perm n/\B=s.map f:=by
 induction p with
 |nil=>
  intro n e;cases n with
  |nil=>exact⟨[],.refl _,rfl⟩
  |cons _ _=>cases e
 |cons x _ D=>
  intro n e;cases n with
  |nil=>cases e
  |cons a n=>
   cases e;obtain⟨s,c,d⟩:=D rfl;exact⟨a::s,c.cons a,by rw[d];rfl⟩
 |swap x y l=>
  intro n e
  match n,e with
  |[],e=>cases e
  |[_],e=>cases e
  |a::b::n,e=>
   cases e;exact⟨b::a::n,.swap _ _ _,rfl⟩
 |trans _ _ ih1 ih2=>
  intro n e;obtain⟨s,c,d⟩:=ih2 e;obtain⟨h,i,j⟩:=ih1 d;exact⟨h,i.trans c,j⟩
theorem y0{n:a0l}(H:A.handled=OD)(S:iJ aa w s.heap a n)(I:∀x∈n,1<=x.1.length)(J:n.length<64)
  (h:∀(l:ON) (D:PZ) (f v:Nat) (g:a0l),g.Perm n->Up (g.map (·.1))->D.get? l=on (SD "list" (g.map λk=>Pc k.2).toArray v)->s.heap.objs.size<=l->(∀b o,s.heap.get? b=on o->D.get? b=on o)->s.toks<=f->Q (.ref l) {s with heap:=D,toks:=f}):
  O6 (Po aa w) A (VL (.builtin "sorted") [.ref a]) Q E s:=by
 obtain⟨o,P,ep,t,L,y,V,i,B,N,T,O,j⟩:=S;have C:P.size=n.length:=by rw[<-Pq,i,OC]
 have R:t.fits P.size=OK:=T.fits (by rw[OC,C]);refine Calls.call_function_entry kind_sorted plain_sorted entry_sorted (args_sorted1 _) ?_;unfold Builtin.«sorted»;refine My (m:=checkCount "sorted" 1 1 _)<|OG ?_;refine My<|xq H L y.1 V T R O j (by lia) λp f vs G q M pv=>?_;rw[i,OU]at pv;obtain⟨K,r,rfl⟩:=Gc pv rfl;have U:K.length=n.length:=r.length_eq;refine My (wpAny_newList ?_<|by rw[OC,Ri];lia);have c:∀b d,s.heap.get? b=on d->(p.push<|SD "list" (K.map λk=>Pc k.2).toArray 0).get? b=on d:=λb d e=>OH _<|G b d e;have u:(p.push<|SD "list" (K.map λk=>Pc k.2).toArray 0).get? p.objs.size=on (SD "list" (K.map λk=>Pc k.2).toArray 0):=O5 _ rfl;show O6 _ _ _ _ _ {s with heap:=p.push<|SD "list" (K.map λk=>Pc k.2).toArray 0,toks:=f};refine My<|QA<|P5 slot_list_sort ⟨_,u,rfl⟩ entry_list_sort (CB Nh u (λk F=>⟨?_,I k<|r.mem_iff.mp F⟩) ((r.map (·.1)).nodup_iff.mpr B) (by lia) λD g v q1 q2 q3 q4=>⟨_,rfl,?_⟩)<|args_list_sort _
 .obtain⟨W,its,m,X,Y,Z,z4⟩:=N k<|r.mem_iff.mp F
  exact⟨W,its,m,c _ _ X,Y,Z,z4⟩
 .refine OG ⟨_,rfl,h p.objs.size D f v g (q1.trans r) q2 q3 q (λb d e=>q4 b d (λz=>?_)<|c b d e) M⟩
  have:=Ph e;exact Pf (z▸this)<|Nat.not_lt.mpr q
end
end L2.Hs
namespace L2.Hs
section
variable{j:Py}{w:PD}
def sR(j:Py)(w:PD)(a:ON)(D:a0l)(h:PZ):Prop:=
 ∃o E G t,h.get? a=on o/\o.ExactSet/\o.data= .set E G t/\(E.toList=D.map λx=>(hsh j w x.1,Pc x.2))/\(D.map (·.1)).Nodup/\(Tb t<|D.map λx=>hsh j w x.1)/\t.plain=OK/\t.led=!(w.params.followText "set-order")
noncomputable def ku(j:Py)(w:PD)(a:ON)(D:a0l):HO:= .ext<|sR j w a D
theorem sR.to(S:sR j w a xs h)(b:∀x∈xs,(gr j w).is h x.1 x.2):iJ j w h a xs:=by
 obtain⟨o,D,E,t,c,d,e,f,h5,g⟩:=S;exact⟨o,D,E,t,c,d,e,f,h5,b,g⟩
theorem rT(S:sR j w a d h):cq j w H h a (ku j w a d):=by
 refine⟨S,?_,λb c z k=>?_⟩
 .obtain⟨o,_,_,_,e,_⟩:=S
  exact⟨o,e⟩
 .obtain⟨o,es,ep,t,e,r⟩:=z
  exact⟨o,es,ep,t,k _ e,r⟩
theorem GN{k:a0c}:∀{D:a0g},aB (k.map V.int) D->ItemsAre (U9 j w) k D:=by
 induction k with
 |nil=>intro D h;cases h;exact .nil
 |cons i k E=>
  intro D h;cases h with
  |cons a b=>
   obtain⟨t,rfl⟩:=a;exact .cons (by simp[U9,Xf])<|E b
variable{X:Cx}
theorem mj{s:OT}{k:a0c}(I:b_ X d f H s)(h:g_ X.K H b<|k.map V.int):(gr X.prog X.w).is s.heap k b:=by
 obtain⟨j,a,⟨o,e,c,n,D⟩,_⟩:=I.tuple h;exact⟨o,j.toArray,n,e,c,D,GN a⟩
theorem tb0{b:Bool}:Tb (.fresh 0 0 b) []:=⟨.inl rfl,rfl,λi j a b h=>by simp[UO]at*,λi j h=>by simp[UO]at h,rfl,by show 0*5<7*3;decide,λi h j c=>by simp at c⟩
theorem sW:∀a:a0l,aB (a.map λz=>V.ref z.2)<|a.map λk=>Pc k.2
 |[]=> .nil
 |_::a=> .cons rfl<|sW a
theorem Jv:ZL X (newSet<|.type "set") λD=>ku X.prog X.w D []:=λa s c H E Q I h=>by
 unfold newSet setsByText;refine My<|My<|SZ<|OG ?_
 dsimp only
 simp only[newObj];refine My<|wpAny_alloc<|OG<|h _ (I.laid (t':=s.toks) (λ_ _ q=>OH _ q) (OX _)<|rT ?_) λb o e=>OH _ e;exact⟨_,#[],0,_,O5 _ rfl,⟨rfl,rfl,rfl⟩,rfl,rfl,.nil,tb0,rfl,rfl⟩
def Fg(P:Py)(w:PD)(K:Pa)(D:ON)(e:TE):TB:=λd H Q=>e d H λv c=>∃j k b,c D=on (ku P w D j)/\v= .ref b/\g_ K c b (k.map V.int)/\(∀x∈j,g_ K c x.2<|x.1.map V.int)/\j.length<63/\
 ∀a,(k∈j.map (·.1)->a=j)->(k∉j.map (·.1)->a.Perm ((k,b)::j))->Q d (upd c D<|ku P w D a)
theorem vU{D:ON}(p:X.A.units+1<TN)(L:z[d+1]?=OD)(N:PE X elt te)(j:X.xe=λ_ _=>False):PB X (.S elt) z scope pos d D (Fg X.prog X.w X.K D te):=by
 intro a s y H Q I h k Q' E' O;unfold jf;rw[L];show O6 _ _ ((do let v <-Qh elt X.env;SY elt.pos;let _ <-VL (.builtin "set.add") [.ref D,v])>>=λ_=>k) _ _ _
 have c:=N a s y H _ I h;rw[j]at c;refine My<|My<|Qa c (λu g l=>?_) λ_ _ f=>f.elim;obtain⟨v,H1,i,r,E,R,b,B,rfl,C,J,P,q⟩:=l;cases r;have S:sR X.prog X.w D E g.heap:=(i.hok D _ B).1;have T:iJ X.prog X.w g.heap D E:=S.to λx h=>mj i<|J x h;obtain⟨o,G,M,t,U,W,_⟩:=S;refine My<|RE<|My<|P5 F.slot_set_add ⟨o,U,W.1⟩ F.entry_set_add ?_<|F.args_set_add_2 _ _;unfold Builtin.«set.add» Builtin.Frozenset.oneOther;simp only[List.isEmpty_nil,bind_assoc];unfold Builtin.Frozenset.addrOf setAdd;refine My<|OG ?_
 try dsimp only
 refine My<|OG ?_
 try dsimp only
 refine My<|QA<|My<|(gr X.prog X.w).pyHash p (mj i C) ?_;refine Fp (s:={g with toks:=g.toks+(gr X.prog X.w).draws R}) p T (mj (s:=g) i C) P λh' m Y Z V c2=>?_;show O6 _ _ (ret P7) _ _ _;refine OG ⟨_,rfl,OG<|O _ y _ (i.write (by rw[B];trivial) (.inl rfl) (λb u n e=>(Y.2 b n).trans e) ?_<|rT ?_)<|q m V c2⟩
 all_goals obtain⟨o,G,M,t,c,l,h3,h4,h5,J,h6⟩:=Z
 .exact⟨o,c⟩
 .exact⟨o,G,M,t,c,l,h3,h4,h5,h6⟩
def mM(c:ON->HO)(j:a0h)(w:a0a)(d:TI)(e:ON->It->TB):TE:=λa H Q=>d a H λJ b=>∀D,b D=OD->e D J (lN j w a) (upd b D<|c D) λ_ f=>Q (.ref D) f
theorem Jf{d a b:Expr}{f:List Expr}{G:a0P}{E:Scope}{K:TF}{j V:a0h}{z:a0a}{g:TG}{tt:TT}{o:a0Y}{p:TI}(r:X.calm=OK)(S:cy X E j V z)(t:PI X a b p)
  (u:∀(M:a0m) (C:ON) (k:a0o) (s:OT) (H:Hp),PG (aP X j E M C k s H) a g/\eQ (aP X j E M C k s H) f tt/\∀D,PB (aP X j E M C k s H) (.S d) (⟨a,b,f,0⟩::G) E K 0 D<|o D)
  (hs:∀x,P3 b X.env x=Rm x:=by intro _;rfl):PE X (.SetComp d (⟨a,b,f,0⟩::G) E K) (mM (λD=>ku X.prog X.w D []) V z p λD J=>dF J g tt<|o D):=by
 intro i s y H Q I h;refine R5 (use:=OD) rfl hs (S.clo I.ok) S.kind S.loc<|Qa (t i s y H _ I h) (λv Y B=>Qa B (λF Z L=>?_) λ_ _ x=>x) λ_ _ x=>x;obtain⟨it,k,tn,J,H2,e,N,T,l,f2,q⟩:=L;subst e;refine je (c:= .S d) Jv (RR:=λP C=>Xi (Po X.prog X.w) X.A X.xe OD _ P C) r S u N T l f2 q λD C s' O m R ns U W=>?_;exact⟨m,ns,λh' n=>⟨.ref D,O,R.letgo U n,rfl,W⟩⟩
def xQ(P:Py)(w:PD)(K:Pa):a0i->Hp->VK->Prop:=λD H Q=>∃a j,D=[.ref a]/\H a=on (ku P w a j)/\(∀x∈j,g_ K H x.2 (x.1.map V.int)/\1<=x.1.length)/\j.length<64/\
 ∀(l:ON) (b:a0l),H l=OD->b.Perm j->Up (b.map (·.1))->Q (.ref l) (upd H l<|.lst<|b.map λz=>V.ref z.2)
theorem xt(e:X.calm=OK):cK X (.builtin "sorted") (xQ X.prog X.w X.K):=by
 intro c s m H t v Q I r h;obtain⟨a,G,rfl,M,d,P,q⟩:=h;obtain⟨u,rfl,rfl⟩:=hV r;have S:sR X.prog X.w a G s.heap:=(I.hok a _ M).1;refine y0 (I.ok.hd e) (S.to λx h=>mj I (d x h).1) (λx h=>(d x h).2) P λl y f g b p i j E D n=>?_;refine⟨.ref l,_,I.laid (t':=f) (o:= .lst<|b.map λz=>V.ref z.2) D E ⟨?_,b.map λk=>Pc k.2,g,?_,j⟩,rfl,q l b (I.hok.fresh E) p i⟩
 .rw[OC,p.length_eq,Ri];lia
 .exact sW b
end
end L2.Hs
namespace L2.Pu
open L2.Hs
def i8(D:Nat)(E:a0a)(G:FL)(K:lv)(M:a0p)(b:FL)(a:a0e->a0k):FD:=λw P=>match G w P with
 |none=>OD
 |some (.error C,β1)=>on (.error C,β1)
 |some (.ok ds,β1)=>match l9 K M b ds (ko D E w) β1 with
  |some (.ok os,β2)=>(a os).map λd=>(.ok d,β2)
  |_=>OD
section
variable{K:Pa}{E:a0s}
theorem s0{R:AR}{p:ON->HO}{c:a0e->a0k}{P:a0h}{S:a0a}{V:FL}{g:TG}{M:lv}{s:a0p}{T:a0Y}{b:FL}(hg:cW K g M)(sg:eP M)(hb:∀D,f6 K R D (T D) b)
  (r0:∀F H D,R.R F (upd H D<|p D) D []) (hp:∀os d,c os=on d->R.Z os) {U:St} {H:Hp} {Q W:VK} (h:tV K (i8 P.length S V M s b c) E U H W)
  (k:∀F B f D os d,Fr F B f->¬F.A D->R.R F B D os->c os=on d->(∀v j,To F B j f->b5 K F j d v->W v j)->Q (.ref D) B):
  mM p P S (iV K V E) (λD J=>dF J g (hO K s E0)<|T D) U H Q:=by
 obtain⟨F,δ,β,fr,X,r,f,e,h⟩:=h;unfold i8 at e;refine⟨F,δ,β,fr,X,?_⟩;split at e
 .cases e
 .rename_i C β1 q
  cases e;exact⟨.error C,_,q,h⟩
 .rename_i ds β1 q
  split at e
  .rename_i os β2 q2
   cases G:c os with
   |none=>rw[G]at e;cases e
   |some d=>
    rw[G]at e;cases e;refine⟨.ok ds,β1,q,λJ I t hJ D m=>?_⟩;have i:¬F.A D:=t.fr.fresh m;have nb:∀b l,F.bg=on (b,l)->D≠b/\D≠l:=λb l z=>⟨λw=>i<|w▸(fr.bgA b l z).1,λw=>i<|w▸(fr.bgA b l z).2.1⟩;have Y:=t.fr.upd (p D) m;have L:Fr ⟨λa=>F.A a\/a=D,F.bg⟩ (upd I D<|p D) β1:=by
     refine⟨λa ha z=>?_,λb l z=>let ⟨x,y,w⟩:=fr.bgA b l z;⟨.inl x,.inl y,w⟩,Y.fr.bag⟩
     rcases ha with ha|ha
     .exact Y.fr.occ a ha z
     .subst ha;rw[ax]at z;cases z
    have u:Tr F I ⟨λa=>F.A a\/a=D,F.bg⟩ (upd I D<|p D):=⟨λa ha hs z=>by
     rcases z with z|z
     .exact ha z
     .subst z;exact hs m,λa o ha z=>by rw[bb<|aI z m];exact z,rfl⟩
    refine oI (R:=R) (D:=D) (as:=[]) (os:=os) hg sg (hb D) L (.inr rfl) nb (rF<|X.tr<|(t.tr fr).trans u) (r0 _ _ _) (hJ.tr u) q2 (hp os d G) λaa j N ab O=>?_;have tf:To F I j f:=by
     refine⟨λa o z n=>N.kp a o (by rw[bb<|aI z m];exact z) (aI z m) n,λa ha z=>N.fr.occ a (QY ha) z,fr.bgA,N.fr.bag⟩
    exact k F j f D os d tf.fr i (R.tr (F:=⟨λa=>F.A a\/a=D,F.bg⟩) O (λ_ z=>z) ⟨λa ha _ z=>ha<|QY z,λa o _ z=>z,rfl⟩) G λv H3 t4 hv=>h v H3 ((t.trans tf).trans t4) hv
  .cases e
noncomputable abbrev ix(k:a0c):D:= .tup<|k.map .int
theorem o3{k:a0c}(h:b5 K F H (ix k) v):∃b,v= .ref b/\g_ K H b (k.map V.int):=by
 obtain⟨a,D,rfl,w,dl⟩:=b5.sqT h;cases ba.ints k dl;exact⟨a,rfl,w⟩
theorem iA(h:ix k=ix l):k=l:=by
 injection h with h
 exact Ub (λa b z=>by injection z)|>.mp h
theorem nd_len{w:Type} [BEq w] [LawfulBEq w]:∀{l m:List w},l.Nodup->(∀x∈l,x∈m)->l.length<=m.length
 |[],_,_,_=>Qf _
 |a::l,m,nd,h=>by
  obtain⟨c,d⟩:=Pz.mp nd;have:=nd_len (m:=m.erase a) d λx b=>(List.mem_erase_of_ne (λ(z:x=a)=>c<|z▸b)).mpr<|h x<|OF a b;rw[List.length_erase_of_mem<|h a OL]at this;have:=List.length_pos_of_mem<|h a OL;rw[O4];lia
noncomputable def RS(P:Py)(w:PD)(K:Pa):AR where
 R:=λF H D M=>∃E,H D=on (ku P w D E)/\(E.map (·.1)).Nodup/\(∀x∈E,b5 K F H (ix x.1) (.ref x.2)/\ix x.1∈M)/\∀d∈M,∃k∈E.map (·.1),d=ix k
 Z:=λl=>∃G:LI,G.length<63/\∀d∈l,∃k∈G,d=ix k
 tr:=λh k t=>by
  obtain⟨E,a,b,c,f⟩:=h;exact⟨E,k _ a,b,λx e=>⟨b5.tr t _ _ (c x e).1,(c x e).2⟩,f⟩
 zp:=λh=>by
  obtain⟨G,a,b⟩:=h;exact⟨G,a,λd S=>b d<|RO _ S⟩
theorem GF{P:Py}{w:PD}{D:ON}:f6 K (RS P w K) D (Fg P w K D<|tV K f E0) (js f):=λF H δ β u R as os Q fr T A J U e W k=>by
 obtain⟨E,X,V,j,s⟩:=U;obtain⟨d,aa,Y,Z⟩:=M.bind_inv e;cases Z;refine⟨F,δ,β,fr,J,E0.run Y λv B t L=>?_⟩;have C:=t.kp D _ X A;obtain⟨ks,z1,N⟩:=W;obtain⟨r,ab,rfl⟩:=N d<|PY _ OL;obtain⟨b,rfl,sq⟩:=o3 L;have c:∀x∈E,b5 K F B (ix x.1) (.ref x.2):=λx h=>b5.tr (t.tr fr) _ _ (j x h).1;have g:E.length<63:=by
  have:=nd_len (m:=ks) V λx I=>by
   obtain⟨y,hy,rfl⟩:=OZ.mp I;obtain⟨l,hl,e⟩:=N _<|RO _ (j y hy).2;rw[iA e];exact hl
  rw[OC]at this;lia
 refine⟨E,r,b,C,rfl,sq,λx h=>?_,g,λi c1 c2=>?_⟩
 .obtain⟨b',e,q⟩:=o3<|c x h
  cases e;exact q
 have O:lA F D B (upd B D<|ku P w D i) u:=by
  refine⟨λa o h n _=>by rw[bb n];exact h,λa h q=>?_,fr.bgA,λb l q=>?_⟩
  .by_cases z:a=D
   .subst z;rw[ax]at q;cases q
   .rw[bb z]at q;exact t.fr.occ a h q
  .rw[bb (A b l q).1.symm,bb (A b l q).2.symm]
   exact t.fr.bag b l q
 have G:=O.tr t.fr T;refine k R _ ((t.toD D).trans O) (J.tr<|(t.tr fr).trans G) ⟨i,ax,?_⟩;by_cases S:r∈E.map (·.1)
 .cases c1 S
  refine⟨V,λx h=>⟨b5.tr G _ _<|c x h,RO _ (j x h).2⟩,λd hd=>?_⟩;rcases P4.mp hd with hd|hd
  .exact s d hd
  .exact⟨r,S,PH.mp hd⟩
 .have p:=c2 S
  refine⟨(p.map (·.1)).nodup_iff.mpr<|Pz.mpr ⟨S,V⟩,λx h=>?_,λd hd=>?_⟩
  .rcases OQ.mp (p.mem_iff.mp h)with rfl|h
   .exact⟨b5.tr G _ _ L,PY _ OL⟩
   .exact⟨b5.tr G _ _<|c x h,RO _ (j x h).2⟩
  .rcases P4.mp hd with hd|hd
   .obtain⟨k2,h2,e⟩:=s d hd
    exact⟨k2,(p.map (·.1)).mem_iff.mpr<|OF _ h2,e⟩
   .exact⟨r,(p.map (·.1)).mem_iff.mpr OL,PH.mp hd⟩
def YR(w:LI)(D:a0e):Prop:=Up w/\w.length<63/\(∀k∈w,1<=k.length/\ix k∈D)/\∀d∈D,∃k∈w,d=ix k
theorem YR.eq{w:a0e}(a:YR d w)(b:YR ls w):d=ls:=yR a.1 b.1 λx=>⟨λh=>by
 obtain⟨l,c,e⟩:=b.2.2.2 _ (a.2.2.1 x h).2;rw[iA e];exact c,λh=>by
 obtain⟨l,c,e⟩:=a.2.2.2 _ (b.2.2.1 x h).2;rw[iA e];exact c⟩
open Classical in
def lV(w:a0e):a0k:=if h:∃D,YR D w then on (.lst<|h.choose.map ix)else OD
theorem FX{w:LI}{D:a0e}(h:YR w D):lV D=on (.lst<|w.map ix):=by
 have q:∃w,YR w D:=⟨w,h⟩;unfold lV;rw[dif_pos q,q.choose_spec.eq h]
theorem tw{w:a0e}(h:lV w=on d):∃D,YR D w/\d= .lst (D.map ix):=by
 unfold lV at h;split at h
 .rename_i q
  cases h;exact⟨_,q.choose_spec,rfl⟩
 .cases h
theorem ug:∀{a:a0l},(∀z∈a,b5 K F H (ix z.1)<|.ref z.2)->ba K F H ((a.map (·.1)).map ix) (a.map λz=>V.ref z.2)
 |[],_=>ba.nil
 |z::a,h=>ba.cons (h z OL)<|ug λx b=>h x<|OF z b
end
section
variable{X:Cx}{E:a0s}{af b4 aa:Expr}{ac:List Expr}{ab:a0P}{P:Scope}{ae p ad:TF}{Nc cp:a0h}{b0:a0a}{g:TG}{tb:a0Y}
theorem FH(i:Gl X "sorted")(V:X.mg "sorted"=OD)(o:X.calm=OK)(S:cy X P Nc cp b0)(r:PI X b4 aa<|iV X.K it E)
  (t:∀(G:a0m) (C:ON) (j:a0o) (s:OT) (H:Hp),PG (aP X Nc P G C j s H) b4 g/\eQ (aP X Nc P G C j s H) ac (hO X.K tt E0)/\∀D,PB (aP X Nc P G C j s H) (.S af) (⟨b4,aa,ac,0⟩::ab) P ae 0 D<|tb D)
  (u:cW X.K g tg) (sg:eP tg) (A:∀D,f6 X.K (RS X.prog X.w X.K) D (tb D) b) (hs:∀x,P3 aa X.env x=Rm x:=by intro _;rfl):
  PE X (.Call (.Name "sorted" p) [.SetComp af (⟨b4,aa,ac,0⟩::ab) P ae] [] ad) (tV X.K (i8 cp.length b0 it tg tt b lV) E):=
 (j3 (xt o) i V (by kernel_rfl)<|eF (Jf o S r t hs) ii).imp λY H Q h=>by
  refine s0 (Q:=λv B=>xQ X.prog X.w X.K [v] B Q) u sg A (λF H D=>⟨[],ax,.nil,λx a=>Pf a (by simp),λd hd=>Pf hd<|by simp⟩) (λos d e=>?_) h λF Z I D os d fr J L e q=>?_
  .obtain⟨ks,s,_⟩:=tw e
   exact⟨ks,s.2.1,s.2.2.2⟩
  .obtain⟨ks,s,rfl⟩:=tw e
   obtain⟨M,N,nd,a,ha⟩:=L;have k:∀x∈M,x.1∈ks:=λx h=>by
    obtain⟨l,f,e⟩:=s.2.2.2 _ (a x h).2;rw[iA e];exact f
   have hn:M.length<64:=by
    have:=nd_len (m:=ks) nd λy c=>by
     obtain⟨x,h,rfl⟩:=OZ.mp c;exact k x h
    rw[OC]at this;have:=s.2.1;lia
   refine⟨D,M,rfl,N,λx h=>?_,hn,λl O f n R=>?_⟩
   .obtain⟨b',e,q⟩:=o3 (a x h).1
    cases e;exact⟨q,(s.2.2.1 _<|k x h).1⟩
   .have T:ks=O.map (·.1):=yR s.1 R λy=>by
     refine⟨λc=>?_,λc=>?_⟩
     .obtain⟨k2,U,e⟩:=ha _ (s.2.2.1 y c).2
      rw[iA e];exact(n.map (·.1)).mem_iff.mpr U
     .obtain⟨x,h,rfl⟩:=OZ.mp<|(n.map (·.1)).mem_iff.mp c
      exact k x h
    rw[T]at q;exact q _ _ (fr.upd _ f)<|b5.newL fr f<|ug λz W=>(a z<|n.mem_iff.mp W).1
end
end L2.Pu
namespace L2.Hs
section
variable{J:Py}{w:PD}{A:Qc}{E:a0f}{s:OT}
def F3(J:Py)(w:PD)(h:PZ)(k:f0)(a:ON):Prop:=∃o n t b,h.get? a=on o/\o.cls= .type "tuple"/\o.data= .seq #[.int k.1 t,.ref b] n/\(gr J w).is h k.2 b
theorem F3.ty(x:F3 J w s.heap k a):s.TypeIs (.ref a) "tuple":=let ⟨o,_,_,_,ho,hc,_⟩:=x;⟨o,ho,hc⟩
theorem F3.inj(f:F3 J w h x a)(g:F3 J w h y a):x=y:=by
 obtain⟨o,n,t,b,i,_,s,j⟩:=f;obtain⟨k,p,A,q,d,_,c,e⟩:=g;obtain rfl:o=k:=Pn<|i.symm.trans d;rw[s]at c;simp only[Data.seq.injEq,Array.mk.injEq,R4,SC.injEq,Pc.injEq]at c;obtain⟨⟨⟨l,_⟩,m,_⟩,_⟩:=c;subst m;exact R3 l<|(gr J w).inj j e
theorem Mq(k:a0c):hsh J w k=hI k:=by unfold hsh hI;show tupleKeyHash _ _=_;unfold tupleKeyHash;rfl
theorem Mr{k:f0}(g:A.units+1<TN)(f:F3 J w s.heap k a)(h:Q (hB OK k) {s with toks:=s.toks+(k.2.length+3)}):O6 (Po J w) A (pyHash<|.ref a) Q E s:=by
 have c:=f.ty;obtain⟨o,n,t,b,i,_,G,j⟩:=f;unfold pyHash
 first|unfold pyHashByItsType|skip
 refine My<|wpAny_cRoomFor_or (.inr<|by lia) ?_;refine My<|RW c F.slot_tuple_hash.lookup ?_;show O6 _ _ (if(on (Value.builtin "tuple.__hash__")==on P7)=OK then _ else _) Q E s;rw[OR<|by rw[beq_builtin_none];exact OY];refine My<|RW c F.slot_tuple_hash.lookup ?_;show O6 _ _ (callSpecialIfBoundUnlessNone? (.ref a) "__hash__" _>>=_) Q E s;refine My<|wpAny_callSpecialIfBoundUnlessNone?_slot c F.slot_tuple_hash<|P5 F.slot_tuple_hash c F.entry_tuple_hash ?_<|F.args_tuple_hash_1 _;show O6 _ _ (Builtin.Tuple.tupleItemsOf (.ref a)>>=_) _ _ s;refine My<|V2 i G ?_;refine My ?_;rw[<-SV];simp only[Sh,Sz];refine My<|My<|wpAny_pyHash_int ?_;refine OG<|My<|My<|(gr J w).pyHash g j ?_;refine OG<|OG ?_;have D:Q (hB OK k) {s with toks:=s.toks+1+(k.2.length+1)+1}:=by
  have e:s.toks+1+(k.2.length+1)+1=s.toks+(k.2.length+3):=by lia
  rw[e];exact h
 refine wpAny_ret_mkInt ?_;generalize l:Tt _=z;have m:hB OK k=reduceHash z:=by rw[<-l,show(gr J w).hash k.2=hI k.2 from Mq k.2];rfl
 rw[m]at D;show O6 _ _ (if(decide (-(2:Int)^63<=z)&&decide (z<2^63))=OK then _ else _) Q E _;unfold reduceHash at D;by_cases d:(decide (-(2:Int)^63<=z)&&decide (z<2^63))=OK
 .rw[OS d]
  rw[OS d]at D;exact OG D
 .rw[OR d]
  rw[OR d]at D;exact My<|SS<|OG D
theorem eq_p(q:A.units+1<TN)(d:F3 J w s.heap x a)(f:F3 J w s.heap y b)(h:Q (decide (x=y)) s):O6 (Po J w) A (eqBool (.ref a)<|.ref b) Q E s:=by
 unfold eqBool
 try with_reducible refine QA ?_
 show O6 _ _ (if(Pc a==Pc b)=OK then _ else _) Q E s;by_cases c:(Pc a==Pc b)=OK
 .rw[OS c]
  have e:a=b:=by have:=eq_of_beq c;injection this
  subst e;obtain rfl:=d.inj f;exact My (SS<|OG<|by simpa using h)
 .rw[OR c]
  refine My (wpAny_richCompare_same_room (op:= .Eq) d.ty f.ty F.slot_tuple_eq
   (P5 F.slot_tuple_eq d.ty F.entry_tuple_eq ?_<|F.args_tuple_eq_2 _ _) (by lia))
  have j:=f.ty;obtain⟨r,t,u,v,k,_,l,m⟩:=d;obtain⟨B,C,H,I,n,_,o,p⟩:=f;show O6 _ _ (VZ (.ref b) (.type "tuple")>>=_) _ _ s;refine My<|RF j Vp ?_;simp only[Rr,Pb,Qe];refine My<|V2 k l ?_;refine My<|V2 n o ?_;refine My ?_;simp only[Rg,VF,Sh,Sz];refine My<|My<|(U9 J w).eqBool (a:=x.1) (b:=y.1) (by simp[U9,Xf]) (by simp[U9,Xf]) ?_;by_cases g:x.1=y.1
  .rw[O3 g]
   refine OG<|My<|My<|(gr J w).eqBool q m p ?_;by_cases i:x.2=y.2
   .rw[O3 i]
    rw[O3<|R3 g i]at h;exact OG<|OG<|OG ⟨_,rfl,(λe=>nomatch e),Qg h⟩
   .rw[Pt i]
    rw[Pt (λe=>i<|Qr _ e)]at h;exact My<|OG<|OG<|OG<|OG ⟨_,rfl,(λe=>nomatch e),Qg h⟩
  .rw[Pt g]
   rw[Pt (λe=>g<|Qr _ e)]at h;exact My<|OG<|OG<|OG<|OG ⟨_,rfl,(λe=>nomatch e),Qg h⟩
theorem IZ(f:(gr J w).is s.heap k a)(h:Q OK s):O6 (Po J w) A (Ym (m+1)<|.ref a) Q E s:=by
 have g:=WS f;obtain⟨o,c,n,i,_,K,j⟩:=f;unfold Ym;refine My<|RW g F.slot_tuple_eq.lookup ?_;show O6 _ _ (VZ (.ref a) (.type "tuple")>>=_) _ _ s;refine My<|RF g Vp ?_;simp only[Rr,Pb,Qe];refine My<|Q3 i K ?_;refine My ?_;show O6 _ _ (forIn c _ _) _ _ s;rw[<-SV];refine U1 _ (λD r G=>r.1=OD/\G=s/\∀v∈D,carriedByValue v=OK) _ ?_ ?_ _ _ ⟨rfl,rfl,j.byValue⟩
 .rintro v D r G ⟨d,rfl,b⟩
  rw[eqIsQuiet_byValue _<|b v OL];refine My<|OG ?_;simp only[Rr,Pb,Qe];exact OG ⟨rfl,rfl,λu e=>b u<|OF _ e⟩
 .rintro⟨r1,l⟩ G ⟨d,rfl,_⟩
  simp only at d;subst d;exact OG h
theorem I0(c:F3 J w s.heap k a)(h:Q OK s):O6 (Po J w) A (Ym 8<|.ref a) Q E s:=by
 have d:=c.ty;obtain⟨o,n,t,b,e,_,D,f⟩:=c;unfold Ym;refine My<|RW d F.slot_tuple_eq.lookup ?_;show O6 _ _ (VZ (.ref a) (.type "tuple")>>=_) _ _ s;refine My<|RF d Vp ?_;simp only[Rr,Pb,Qe];refine My<|Q3 e D ?_;refine My ?_;show O6 _ _ (forIn #[SC k.1 t,Pc b] _ _) _ _ s;rw[<-SV];simp only[Sh,Sz];rw[eqIsQuiet_byValue _ (v:= .int k.1 t) rfl];exact My<|My<|OG<|OG<|My<|My<|IZ (m:=6) f<|OG<|OG<|OG h
def PKd(J:Py)(w:PD):HeapKind J w f0 where
 is:=F3 J w
 hash:=hB OK
 draws:=λk=>k.2.length+3
 room:=λA=>A.units+1<TN
 inj:=λd e=>d.inj e
 keeps:=λx i s D=>by
  obtain⟨j,n,t,b,c,l,a,m⟩:=x;refine⟨j,n,t,b,(D.2 _ ?_).trans c,l,a,(gr J w).keeps m i s D⟩;rintro rfl;obtain rfl:=Pn<|c.symm.trans i;rw[s]at a;exact nomatch a
 pyHash:=λf g h=>Mr f g h
 eqBool:=λf d e h=>eq_p f d e h
 quiet:=λg h=>I0 g h
def FKd(J:Py)(w:PD):HeapKind J w f0 where
 is:=λh k a=>k.1=0/\(gr J w).is h k.2 a
 hash:=hB OO
 draws:=λk=>k.2.length+1
 room:=λA=>A.units+1<TN
 inj:=λc d=>R3 (c.1.trans d.1.symm) ((gr J w).inj c.2 d.2)
 keeps:=λx i D G=>⟨x.1,(gr J w).keeps x.2 i D G⟩
 pyHash:=λf g h=>(gr J w).pyHash (Nat.lt_of_succ_lt f) g.2 h
 eqBool:=λ{A E s x y a b Q} f c d h=>(gr J w).eqBool (Nat.lt_of_succ_lt f) c.2 d.2 (by
  have e:decide (x.2=y.2)=decide (x=y):=by
   by_cases q:x.2=y.2
   .rw[O3 q,O3<|R3 (c.1.trans d.1.symm) q]
   .rw[Pt q,Pt (λz=>q<|Qr _ z)]
  rw[e];exact h)
 quiet:=λg h=>(gr J w).quiet g.2 h
def KB(J:Py)(w:PD):Bool->HeapKind J w f0
 |true=>PKd J w
 |false=>FKd J w
theorem yh{b:Bool}:(KB J w b).hash=hB b:=by cases b<;>rfl
theorem oM{b:Bool}{A:Qc}(h:A.units+1<TN):(KB J w b).room A:=by cases b<;>exact h
def y4(K:Pa)(H:Hp):Bool->f0->ON->Prop
 |true,k,c=>∃e,g_ K H c [.int k.1,.ref e]/\g_ K H e (k.2.map V.int)
 |false,k,c=>k.1=0/\g_ K H c (k.2.map V.int)
abbrev XY(x:f0×ON×V)(y:f0×ON×OP):Prop:=x.1=y.1/\x.2.1=y.2.1/\aR x.2.2 y.2.2
theorem rM:∀{s:a0w} {w:a0J},VW XY s w->s.map (·.1)=w.map (·.1)
 |_,_,.nil=>rfl
 |_,_,.cons h t=>by rw[O0,O0,h.1,rM t]
theorem AW:∀{s:a0w} {w:a0J},VW XY s w->∀y∈w,∃x∈s,XY x y
 |_,_,.nil,y,h=>by cases h
 |_,_,.cons (a:=a) h t,y,hy=>by
  rcases OQ.mp hy with rfl|hy
  .exact⟨a,OL,h⟩
  .obtain⟨x,b,e⟩:=AW t y hy
   exact⟨x,OF _ b,e⟩
noncomputable def r8(s:a0w)(k:f0):Option V:=(s.find? λx=>decide (x.1=k)).map (·.2.2)
theorem n5:∀{s:a0w} {w:a0J},VW XY s w->ju (r8 s k) ((WO w k).map (·.2))
 |_,_,.nil=>by simp[r8,WO,ju]
 |_,_,.cons (a:=a) (b:=b) h t=>by
  have A:=n5 (k:=k) t;unfold r8 WO at A⊢;rw[Sf,Sf,<-h.1];by_cases q:a.1=k
  .rw[O3 q];exact h.2.2
  .rw[Pt q];exact A
theorem xw(h:XY x y):∀{s:a0w} {w:a0J},VW XY s w->VW XY (s++[x]) (w++[y])
 |_,_,.nil=> .cons h .nil
 |_,_,.cons h' t=> .cons h'<|xw h t
variable{X:Cx}{P:a0d}{z:St}{H:Hp}
theorem q8{b:Bool}(I:b_ X P z H s)(h:y4 X.K H b k c):(KB X.prog X.w b).is s.heap k c:=by
 cases b with
 |true=>
  obtain⟨e,a,d⟩:=h;obtain⟨A,f,⟨o,g,i,n,D⟩,_⟩:=I.tuple a;obtain⟨j,l,rfl,⟨t,rfl⟩,rfl⟩:=uA f;exact⟨o,n,t,e,g,i,D,mj I d⟩
 |false=>exact⟨h.1,mj I h.2⟩
theorem big{P:a0d}{z:St}{H:Hp}{s:OT}(I:b_ X P z H s):V1<s.heap.objs.size:=T8 (by decide) (show Rh<s.heap.objs.size from(I.mod.glob.keeps I.bk).lt)
theorem nJ{b:Bool}(I:b_ X P z H s)(d:H a=on (dX a b r q))(e:∀x∈q,y4 X.K H b x.1 x.2.1):∃A,s.heap.DictOfH (KB X.prog X.w b) a A/\VW XY q A/\A.length<=Pe/\(a==V1)=OO:=by
 obtain⟨o,D,A,f,g,h,i,h5,j,k,c⟩:AS a b r q s.heap:=(I.hok a _ d).1;refine⟨A,⟨o,D,r,f,g,h,?_,λy l=>?_,h5⟩,c,k,j⟩
 .rw[i];unfold entryOfKey;rw[yh]
 .obtain⟨x,m,n,p,_⟩:=AW c y l
  rw[<-n,<-p];exact q8 I<|e x m
def KQ(K:Pa):R2:=λx y H Q=>∃a b w s k c v,x= .ref a/\y= .ref c/\H a=on (dX a b w s)/\(∀x∈s,y4 K H b x.1 x.2.1)/\y4 K H b k c/\r8 s k=on v/\Q v H
theorem EJ(l:X.A.units+2<TN):F0 X (KQ X.K):=by
 intro g i P s z H x y v u Q I m n h w;obtain⟨a,b,G,M,k,c,o,rfl,rfl,t,B,C,J,q⟩:=h;cases m;cases n;obtain⟨D,d,p,_,_⟩:=nJ I t B;have f:=n5 (k:=k) p;rw[J]at f;cases e:WO D k with
 |none=>rw[e]at f;exact f.elim
 |some r=>
  rw[e]at f;exact Vb (x:=r.2) d.typeIs PySem.F.slot_dict_getitem.lookup (wpAny_getItem_heap (Q:=λj E=>j=r.2/\EP X P z Q j E) (oM l) (q8 I C) d e ⟨rfl,o,H,I.tok _,f,q⟩) w
theorem wa{b:Bool}:ZL X newDict λD=>dX D b 0 []:=λP s z H E Q I h=>Qy<|h _ (I.laid (t':=s.toks) (λ_ _ q=>OH _ q) (OX _)<|yy ⟨_,#[],[],O5 _ rfl,⟨rfl,rfl,rfl⟩,rfl,rfl,.nil,beq_eq_false_iff_ne.mpr<|Ne.symm<|PQ<|big I,Qf _,.nil⟩) λb o e=>OH _ e
def Fh(K:Pa)(b:Bool)(D:ON)(e f:TE):TB:=λz H Q=>e z H λx g=>f z g λy a=>∃w s k c,x= .ref c/\a D=on (dX D b w s)/\(∀x∈s,y4 K a b x.1 x.2.1)/\y4 K a b k c/\k∉s.map (·.1)/\s.length<Pe/\∀d,Q z<|upd a D<|dX D b d<|s++[(k,c,y)]
theorem l6{D:ON}{b:Bool}(L:X.A.units+1<TN)(N:gens[d+1]?=OD)(O:PE X ke tk)(R:PE X ve tv)(a:X.xe=λ_ _=>False):PB X (.D ke ve) gens scope pos d D (Fh X.K b D tk tv):=by
 intro P s z H Q I h k Q' E' T;unfold jf;rw[N];show O6 _ _ (ZF (.D ke ve) (.ref D) X.env>>=λ_=>k) _ _ _;unfold ZF;have t:=O P s z H _ I h;rw[a]at t;refine My<|My<|Qa t (λu U W=>?_) λ_ _ f=>f.elim;obtain⟨v,Y,Z,r,G⟩:=W;have B:=R P U z Y _ Z G;rw[a]at B;refine My<|QA<|Qa B (λu2 s2 M=>?_) λ_ _ f=>f.elim;obtain⟨v2,H2,i,S,V,xs,j,c,rfl,C,hx,hc,hn,hl,q⟩:=M;cases r;obtain⟨w,dd,p,hz,l⟩:=nJ i C hx;have F:=rM p;have e0:WO w j=OD:=by
  cases e:WO w j with
  |none=>rfl
  |some r=>
   exfalso
   unfold WO at e;cases m:w.find? (λx=>decide (x.1=j))with
   |none=>rw[m]at e;cases e
   |some y=>
    have:=List.find?_some m;exact hn (by rw[F];exact OZ.mpr ⟨y,List.mem_of_find?_eq_some m,QG this⟩)
 refine My<|RE<|QA<|wpAny_dictSet_heap (oM L) (q8 i hc) dd (λh' E sb=>?_) hz;rw[storedH_new e0]at E;obtain⟨o,es,ep,J,g2,g3,g4,g5,g6⟩:=E;have g:w.length=xs.length:=by rw[<-OC (f:=(·.1)),<-F,OC]
 refine T _ z _ (i.write (by rw[C];trivial) (.inl rfl) (λb u n e=>(sb.2 b n).trans e) ⟨o,J⟩<|yy ⟨o,es,_,J,g2,g3,?_,g6,l,?_,xw ⟨rfl,rfl,S⟩ p⟩)<|q ep
 .rw[g4];unfold entryOfKey;rw[yh]
 .rw[O8,g,PX];lia
theorem Gg{b:Bool}{k l a d:Expr}{f:List Expr}{G:a0P}{E:Scope}{K:TF}{i cp:a0h}{b0:a0a}{g:TG}{tt:TT}{p:a0Y}{r:TI}(t:X.calm=OK)(S:cy X E i cp b0)(u:PI X a d r)
  (y:∀(M:a0m) (C:ON) (j:a0o) (s:OT) (H:Hp),PG (aP X i E M C j s H) a g/\eQ (aP X i E M C j s H) f tt/\∀D,PB (aP X i E M C j s H) (.D k l) (⟨a,d,f,0⟩::G) E K 0 D<|p D)
  (hs:∀x,P3 d X.env x=Rm x:=by intro _;rfl):PE X (.DictComp k l (⟨a,d,f,0⟩::G) E K) (mM (λD=>dX D b 0 []) cp b0 r λD J=>dF J g tt<|p D):=by
 intro P s z H Q I h;refine R5 (use:=OD) rfl hs (S.clo I.ok) S.kind S.loc<|Qa (u P s z H _ I h) (λv Y B=>Qa B (λF Z L=>?_) λ_ _ x=>x) λ_ _ x=>x;obtain⟨it,j,tn,J,H2,e,N,T,n,f2,q⟩:=L;subst e;refine je (c:= .D k l) wa (RR:=λV C=>Xi (Po X.prog X.w) X.A X.xe OD _ V C) t S y N T n f2 q λD C s' O m R ns U W=>?_;exact⟨m,ns,λh' o=>⟨.ref D,O,R.letgo U o,rfl,W⟩⟩
end
end L2.Hs
namespace L2.Pu
open L2.Hs
def dK:Bool->f0->D
 |true,k=> .tup [.int k.1,ix k.2]
 |false,k=>ix k.2
def x_(b:Bool)(k:f0):Prop:=b=OO->k.1=0
theorem MJ{b:Bool}(a:x_ b k)(c:x_ b l)(h:dK b k=dK b l):k=l:=by
 cases b with
 |true=>
  simp only[dK,D.tup.injEq,R4,D.int.injEq,and_true]at h;exact R3 h.1<|iA<|Qr D.tup h.2
 |false=>exact R3 ((a rfl).trans (c rfl).symm)<|iA h
section
variable{K:Pa}{F:Fx}{H:Hp}{E:a0s}
theorem wU(h:b5 K F H (.tup b) v):∃a w,v= .ref a/\TQ K F H a w/\ba K F H b w:=by
 unfold b5 at h;exact h
theorem qp(h:TQ K F H a b)(w:ba K F H c b):b5 K F H (.tup c) (.ref a):=by
 unfold b5;exact⟨a,b,rfl,h,w⟩
theorem TQ.sq(h:TQ K F H c a):g_ K H c a:=h.imp (·.2) id
theorem iK.s{b:Bool}(h:iK K F H b k c):y4 K H b k c:=by
 cases b with
 |true=>
  obtain⟨e,a,d⟩:=h;exact⟨e,a.sq,d.sq⟩
 |false=>exact⟨h.1,h.2.sq⟩
theorem iK.z{b:Bool}(h:iK K F H b k c):x_ b k:=λe=>by subst e;exact h.1
theorem uL{b:Bool}(f:x_ b k)(h:b5 K F H (dK b k) v):∃c,v= .ref c/\iK K F H b k c:=by
 cases b with
 |true=>
  obtain⟨a,w,rfl,q,dl⟩:=wU h;obtain⟨g,i,rfl,D,E⟩:=ba.two dl;cases D.int;obtain⟨e,M,rfl,G,d⟩:=wU E;cases ba.ints k.2 d;exact⟨a,rfl,e,q,G⟩
 |false=>
  obtain⟨a,w,rfl,q,dl⟩:=wU h;cases ba.ints k.2 dl;exact⟨a,rfl,f rfl,q⟩
theorem Nw{b:Bool}(h:iK K F H b k c):b5 K F H (dK b k) (.ref c):=by
 cases b with
 |true=>
  obtain⟨e,a,d⟩:=h;exact qp a<|ba.cons rfl<|ba.cons (qp d<|ba.ofInts k.2) ba.nil
 |false=>exact qp h.2<|ba.ofInts k.2
abbrev w_(b:Bool)(p:f0×D):D:= .tup [dK b p.1,p.2]
def Dk(b:Bool)(w:List<|f0×D)(E:a0e):Prop:=E=w.map (w_ b)/\(w.map (·.1)).Nodup/\w.length<=Pe/\∀p∈w,x_ b p.1
theorem Jk{b:Bool}{p q:f0×D}(a:x_ b p.1)(c:x_ b q.1)(h:w_ b p=w_ b q):p=q:=by
 simp only[w_,D.tup.injEq,R4,and_true]at h;exact R3 (MJ a c h.1) h.2
theorem l7{b:Bool}:∀{l m:List (f0×D)},(∀p∈l,x_ b p.1)->(∀p∈m,x_ b p.1)->l.map (w_ b)=m.map (w_ b)->l=m
 |[],[],_,_,_=>rfl
 |[],_::_,_,_,h=>by cases h
 |_::_,[],_,_,h=>by cases h
 |p::l,q::m,hl,hm,h=>by
  rw[O0,O0,R4]at h;rw[Jk (hl p OL) (hm q OL) h.1,l7 (λx a=>hl x<|OF _ a) (λx a=>hm x<|OF _ a) h.2]
theorem Dk.eq{b:Bool}{w:a0e}(x:Dk b l w)(y:Dk b m w):l=m:=l7 x.2.2.2 y.2.2.2<|x.1.symm.trans y.1
open Classical in
def mx(b:Bool)(D:a0e):a0k:=if h:∃w,Dk b w D then on (.dct b (h.choose.map (·.1))<|h.choose.map (·.2))else OD
theorem yz{b:Bool}{kvs:List (f0×D)}{w:a0e}(h:Dk b kvs w):mx b w=on (.dct b (kvs.map (·.1))<|kvs.map (·.2)):=by
 have q:∃kvs,Dk b kvs w:=⟨kvs,h⟩;unfold mx;rw[dif_pos q,q.choose_spec.eq h]
theorem wW{b:Bool}{D:a0e}(h:mx b D=on d):∃w,Dk b w D/\d= .dct b (w.map (·.1)) (w.map (·.2)):=by
 unfold mx at h;split at h
 .rename_i q
  cases h;exact⟨_,q.choose_spec,rfl⟩
 .cases h
noncomputable def RD(K:Pa)(b:Bool):AR where
 R:=λF H D M=>∃G,∃a:List<|(f0×Pu.D)×ON×V,M=a.map (λz=>w_ b z.1)/\H D=on (dX D b G<|a.map λz=>(z.1.1,z.2))/\∀z∈a,iK K F H b z.1.1 z.2.1/\b5 K F H z.1.2 z.2.2
 Z:=λl=>∃E w,Dk b E (l++w)
 tr:=λh k t=>by
  obtain⟨G,a,e,f,c⟩:=h;exact⟨G,a,e,k _ f,λz d=>⟨(c z d).1.tr t,b5.tr t _ _ (c z d).2⟩⟩
 zp:=λh=>by
  obtain⟨E,w,h⟩:=h;exact⟨E,_,by rw[<-Ql];exact h⟩
def Hb(f g:FD):FL:=λw=>M.bind (f w) λk=>M.bind (g w) λv=>M.ret [.tup [k,v]]
theorem pZ{b:Bool}{D:ON}:f6 K (RD K b) D (Fh K b D (tV K f E0)<|tV K g E0) (Hb f g):=λF H P β I σ as os Q fr hA B J hR e hz k=>by
 obtain⟨ep,d,rfl,hD,C⟩:=hR;obtain⟨W,G,e1,e2⟩:=M.bind_inv e;obtain⟨X,aa,e3,e4⟩:=M.bind_inv e2;cases e4;obtain⟨w,S,L,Y,z3,Z⟩:=hz;have N:∀p∈d.map (·.1),x_ b p.1:=λp r=>by
  obtain⟨z,h,rfl⟩:=OZ.mp r;exact(C z h).1.z
 have O:d.length<w.length:=by
  have:=Qr U4 L;simp at this;lia
 have ez:(d.map (·.1)).map (w_ b)=(w.take d.length).map (w_ b):=by
  rw[Vl,<-L,Ql,List.take_append_of_le_length (by simp),Sa (by simp),OU];rfl
 have ek:=l7 N (λp r=>Z p<|XB r) ez;have R:w_ b w[d.length]= .tup [W,X]:=by
  have V:(w.map<|w_ b)[d.length]?=on (.tup [W,X]):=by
   rw[<-L,Ql,QR<|by simp];simp
  rw[OI,OE O]at V;exact Pn V
 have u:=Z _<|PF O;generalize r:w[d.length]=p at R u;obtain⟨j,vv⟩:=p;simp only[w_,Pu.D.tup.injEq,R4,and_true]at R;obtain⟨rfl,rfl⟩:=R;have y:j∉d.map (·.1.1):=λhm=>by
  have h2:w.take d.length++(j,vv)::w.drop (d.length+1)=w:=by
   rw[<-r,<-PU O,Sn]
  rw[<-h2,<-ek,Pw,O0,Uq]at Y;refine Y.2.2 j ?_ j OL rfl;rw[OU];exact hm
 refine⟨F,P,β,fr,J,E0.run e1 λv H1 t hv=>⟨F,P,G,t.fr,J.tr<|t.tr fr,E0.run e3 λv2 H2 m T=>?_⟩⟩;have U:=b5.tr (m.tr t.fr) _ _ hv;obtain⟨c,rfl,kc⟩:=uL u U;have i:=(t.tr fr).trans<|m.tr t.fr;refine⟨ep,_,j,c,rfl,m.kp D _ (t.kp D _ hD B) B,λx h=>?_,kc.s,?_,?_,λA=>?_⟩
 .obtain⟨z,h',rfl⟩:=OZ.mp h
  exact((C z h').1.tr i).s
 .rw[OU];exact y
 .rw[OC];lia
 have tD:lA F D H2 (upd H2 D<|dX D b A<|(d.map λz=>(z.1.1,z.2))++[(j,c,v2)]) I:=by
  refine⟨λa o h n _=>by rw[bb n];exact h,λa h q=>?_,fr.bgA,λb l q=>?_⟩
  .by_cases z:a=D
   .subst z;rw[ax]at q;cases q
   .rw[bb z]at q;exact m.fr.occ a h q
  .rw[bb (B b l q).1.symm,bb (B b l q).2.symm]
   exact m.fr.bag b l q
 have E:=tD.tr m.fr hA;refine k σ _ (((t.trans m).toD D).trans tD) (J.tr<|i.trans E) ⟨A,d++[((j,vv),c,v2)],by rw[Pw];rfl,by rw[Pw];exact ax,λz h=>?_⟩;rcases P4.mp h with h|h
 .exact⟨(C z h).1.tr<|i.trans E,b5.tr (i.trans E) _ _ (C z h).2⟩
 .cases PH.mp h
  exact⟨kc.tr E,b5.tr E _ _ T⟩
theorem wV{F:Fx}{H:Hp}{w:Type}{f:w->D}{g:w->V}:∀{a:List w},(∀z∈a,b5 K F H (f z)<|g z)->ba K F H (a.map f) (a.map g)
 |[],_=>ba.nil
 |z::a,h=>ba.cons (h z OL)<|wV λx b=>h x<|OF z b
end
theorem wT{K:Pa}{E:a0s}{kb:Bool}{G:a0h}{M:a0a}{g:TG}{f:a0Y}{P:FL}{w:lv}{S:a0p}{b:FL}(j:cW K g w)(V:eP w)(k:∀D,f6 K (RD K kb) D (f D) b){i:St}{H:Hp}{Q:VK}(h:tV K (i8 G.length M P w S b<|mx kb) E i H Q):
  mM (λD=>dX D kb 0 []) G M (iV K P E) (λD J=>dF J g (hO K S E0)<|f D) i H Q:=by
 refine s0 j V k (λF H D=>⟨0,[],rfl,ax,λx a=>Pf a<|by simp⟩) (λv d e=>?_) h λF u l D v d fr c m e q=>?_
 .obtain⟨kvs,s,_⟩:=wW e
  exact⟨kvs,[],by rw[P9];exact s⟩
 .obtain⟨kvs,s,rfl⟩:=wW e
  obtain⟨y,n,rfl,o,a⟩:=m;have r:kvs=n.map (·.1):=l7 s.2.2.2 (λp t=>by
   obtain⟨z,h,rfl⟩:=OZ.mp t;exact(a z h).1.z) (by rw[<-s.1,OU];rfl)
  refine q _ _ (To.refl fr) ?_;unfold b5;subst r;refine⟨D,y,_,rfl,⟨c,o⟩,by simp,λx h=>?_,?_⟩
  .obtain⟨z,h',rfl⟩:=OZ.mp h
   exact(a z h').1
  .rw[OU,OU]
   exact wV λz h=>(a z h).2
section
variable{X:Cx}{E:a0s}{J B t m:Expr}{p:List Expr}{n:a0P}{l:Scope}{q:TF}{u L:a0h}{N:a0a}{g:TG}{I:a0Y}
theorem IE{kb:Bool}(c:X.calm=OK)(S:cy X l u L N)(d:PI X t m<|iV X.K o E)
  (e:∀(w:a0m) (C:ON) (a:a0o) (s:OT) (H:Hp),PG (aP X u l w C a s H) t g/\eQ (aP X u l w C a s H) p (hO X.K r E0)/\∀D,PB (aP X u l w C a s H) (.D J B) (⟨t,m,p,0⟩::n) l q 0 D<|I D)
  (f:cW X.K g k) (G:eP k) (i:∀D,f6 X.K (RD X.K kb) D (I D) b) (M:∀x,P3 m X.env x=Rm x:=by intro _;rfl):
  PE X (.DictComp J B (⟨t,m,p,0⟩::n) l q) (tV X.K (i8 L.length N o k r b<|mx kb) E):=
 (Gg (b:=kb) c S d e M).imp λj H Q h=>wT f G i h
noncomputable def jj:a0e->Option a0c
 |[]=>on []
 | .int i::r=>(jj r).map (i::·)
 |_=>OD
def jr:Bool->D->Option f0
 |false,.tup ds=>(jj ds).map λl=>(0,l)
 |true,.tup [.int i,.tup ds]=>(jj ds).map λl=>(i,l)
 |_,_=>OD
theorem rR:∀(l:a0c),jj (l.map .int)=on l
 |[]=>rfl
 |i::l=>by show(jj<|l.map .int).map _=_;rw[rR l];rfl
theorem ll:∀{n:a0e} {l:a0c},jj n=on l->n=l.map .int
 |[],l,h=>by cases h;rfl
 | .int i::r,l,h=>by
  have g:(jj r).map (i::·)=on l:=h;cases q:jj r with
  |none=>rw[q]at g;cases g
  |some m=>rw[q]at g;cases g;rw[ll q];rfl
 | .non::_,_,h=>by cases h
 | .bl _::_,_,h=>by cases h
 | .str _::_,_,h=>by cases h
 | .ty _::_,_,h=>by cases h
 | .txt::_,_,h=>by cases h
 | .lst _::_,_,h=>by cases h
 | .tup _::_,_,h=>by cases h
 | .scr _::_,_,h=>by cases h
 | .obj _ _ _::_,_,h=>by cases h
 | .bag::_,_,h=>by cases h
 | .adr _::_,_,h=>by cases h
 | .dct _ _ _::_,_,h=>by cases h
theorem sy{b:Bool}(h:x_ b k):jr b (dK b k)=on k:=by
 cases b with
 |true=>show(jj _).map _=_;rw[rR];rfl
 |false=>show(jj _).map _=_;rw[rR];exact Qr on<|R3 (h rfl).symm rfl
theorem p7{b:Bool}(h:jr b d=on k):x_ b k/\d=dK b k:=by
 unfold jr at h;split at h
 .rename_i ds
  cases q:jj ds with
  |none=>rw[q]at h;cases h
  |some l=>rw[q]at h;cases h;exact⟨λ_=>rfl,by rw[ll q];rfl⟩
 .rename_i i ds
  cases q:jj ds with
  |none=>rw[q]at h;cases h
  |some l=>rw[q]at h;cases h;exact⟨λz=>(by cases z),by rw[ll q];rfl⟩
 .cases h
noncomputable def ln(g:List f0)(l:a0e)(k:f0):a0k:=((g.zip l).find? λp=>decide (p.1=k)).map (·.2)
variable{K:Pa}{F:Fx}{H:Hp}
def RelD(K:Pa)(F:Fx)(H:Hp):a0k->Option V->Prop
 |none,v=>v=OD
 |some d,v=>∃u,v=on u/\b5 K F H d u
theorem qY:∀{l:a0w} {g:a0e},ba K F H g (l.map (·.2.2))->RelD K F H (ln (l.map (·.1)) g k) (r8 l k)
 |[],g,_=>by unfold ln r8;rfl
 |x::l,g,h=>by
  cases g with
  |nil=>cases h
  |cons d g=>
   obtain⟨u,r,e,a,b⟩:=h;rw[O0,R4]at e;obtain⟨rfl,rfl⟩:=e;have m:=qY (k:=k) b;unfold ln r8 at m⊢;rw[O0,Rg,Sf,Sf];by_cases q:x.1=k
   .rw[O3 q];exact⟨_,rfl,a⟩
   .rw[Pt q];exact m
def G7:D->D->a0k
 | .dct b ks vs,y=>(jr b y).bind<|ln ks vs
 |_,_=>OD
theorem NJ:bv K (KQ K) G7:=λF H E Q G w d t v fr f h e k=>by
 unfold G7 at e;split at e
 .rename_i b ks vs
  cases q:jr b w with
  |none=>rw[q]at e;cases e
  |some g=>
   rw[q]at e;have i:ln ks vs g=on d:=e;obtain⟨j,rfl⟩:=p7 q;obtain⟨c,rfl,l⟩:=uL j h;unfold b5 at f;obtain⟨a,B,D,rfl,m,rfl,n,dl⟩:=f;have:=qY (k:=g) dl;rw[i]at this;obtain⟨u,o,p⟩:=this;exact⟨a,b,B,D,g,c,u,rfl,rfl,m.2,λx r=>(n x r).s,l.s,o,k u H (To.refl fr) p⟩
 .cases e
def Nn(K:Pa):V->a0i->Hp->VK->Prop:=λx l H Q=>∃a b m g k c z,x= .ref a/\l=[.ref c,z]/\H a=on (dX a b m g)/\(∀x∈g,y4 K H b x.1 x.2.1)/\y4 K H b k c/\Q ((r8 g k).getD z) H
variable{o e:Expr}{es:List Expr}{P w:TF}
theorem Ju(n:X.A.units+2<TN):MtR X "dict.get" (Nn X.K):=by
 intro l s N H x D v E Q I r t h;obtain⟨a,b,G,e,k,c,z,rfl,rfl,u,B,C,q⟩:=h;cases r;obtain⟨O,J,rfl,g,L⟩:=uA t;cases g;obtain⟨j,d,p,_,o⟩:=nJ I u B;have f:=n5 (k:=k) p;refine call_meetsIn WM d.typeIs PySem.F.entry_dict_get (PySem.F.args_dict_get_3 _ _ _) (meetsH_dict_get_default (KB X.prog X.w b) a c o J) ⟨oM n,k,j,q8 I C,d,_,H,I.tok _,?_,q⟩;cases m:r8 e k with
 |none=>
  rw[m]at f;cases i:(WO j k).map (·.2)with
  |none=>exact L
  |some w=>rw[i]at f;exact f.elim
 |some y=>
  rw[m]at f;cases i:(WO j k).map (·.2)with
  |none=>rw[i]at f;exact f.elim
  |some w=>rw[i]at f;exact f
def G4(f:FD)(g:FL):FD:=λe=>M.bind (f e) λd=>match d with
 | .dct b ks vs=>M.bind (g e) λl=>M.ofO (match l with
  |[k,z]=>(jr b k).map λk=>(ln ks vs k).getD z
  |_=>OD)
 |_=>M.fail
theorem M7{g:FL}(hu:X.A.units+2<TN)(ho:PE X o<|tV X.K f E)(ha:PA X (e::es)<|hX X.K g E)
  (m:SB o "get" X.env (Qh o X.env)=Qh o X.env:=by rfl)
  (y:((Q5 w<|O1 (e::es) X.env).all (λx=>!x.1)&&(Sc w<|Q6 [] X.env).all (λx=>x.1.isSome)
   &&decide ((e::es).length+([]:a0Z).length+(if([]:a0Z).isEmpty then 0 else 1)<30))=OK:=by rfl)
  (n:(P.endLine==w.line)=OK:=by rfl) (hs:b0a X e es:=by rfl) (j:b0b X w es:=by rfl):
  PE X (.Call (.Attribute o "get" P) (e::es) [] w) (tV X.K (G4 f g) E):=by
 intro i s C H Q I h;obtain⟨F,δ,β,fr,vk,h⟩:=h;refine YB m y n rfl<|dt (ho i s C H _ I ⟨F,δ,β,fr,vk,(run.bind (R:=b5 X.K F) h)⟩) λv s1 h1=>?_;obtain⟨x,H1,I1,r1,d,V,t,hd,q1⟩:=h1;have aa:∀{L:M D},L=M.fail->run (b5 X.K F) F E C L H1 Q V->False:=λ{L} e r=>by
  obtain⟨r,ae,e',_⟩:=r;rw[e]at e';cases e'
 cases d<;>first|exact(aa rfl q1).elim|skip
 rename_i b ks vs;have B:=hd;unfold b5 at B;obtain⟨a,ep,S,rfl,N,rfl,hk,dl⟩:=B;cases r1;obtain⟨ys,dd,_,_,_⟩:=nJ I1 N.2 λx O=>(hk x O).s;refine⟨"dict","dict.get",Ws,WM,PySem.F.type_dict_get,dd.typeIs,λb e=>?_,?_⟩
 .cases e
  obtain⟨ob,_,_,g1,g2,_⟩:=dd;exact⟨ob,g1,g2.2.1⟩
 have hA:=ha w i s1 C H1 _ I1 ⟨F,δ,V,t.fr,vk.tr<|t.tr fr,run.bind (R:=ba X.K F) q1⟩;rw[hs]at hA⊢;refine UL (by show(OO||(Q5 w (O1 es X.env)).any (·.1))=OO;rw[j]<;>rfl) (W5 (dt hA λus s2 h2=>?_))
 obtain⟨ws,J,I2,r2,as,af,t2,T,q2⟩:=h2;obtain⟨z,p,kf⟩:=run.ofO q2;have tt:=t2.tr t.fr;split at p
 .rename_i k zz
  cases U:jr b k with
  |none=>rw[U]at p;cases p
  |some G=>
   rw[U]at p;cases p;obtain⟨hz,rfl⟩:=p7 U;obtain⟨w1,W,rfl,Y,Z⟩:=ba.two T;obtain⟨c,rfl,kc⟩:=uL hz Y;have ab:=ba.tr tt _ _ dl;have ac:∀x∈S,y4 X.K J b x.1 x.2.1:=λx O=>((hk x O).tr tt).s;refine Ju hu i s2 C J (.ref a) [.ref c,W] (.ref a) us Q I2 rfl r2 ⟨a,b,ep,S,G,c,W,rfl,rfl,tt.kp a _ N.1 N.2,ac,kc.s,?_⟩;refine kf _ J (To.refl t2.fr) ?_;show b5 X.K F J ((ln (S.map (·.1)) vs G).getD zz) ((r8 S G).getD W);have l:=qY (k:=G) ab;cases q:ln (S.map (·.1)) vs G with
   |none=>
    rw[q]at l;have l':r8 S G=OD:=l;rw[l'];exact Z
   |some d=>
    rw[q]at l;obtain⟨u,l',ad⟩:=l;rw[l'];exact ad
 .cases p
end
end L2.Pu
namespace L2.Hs
section
variable{P:Py}{w:PD}{A:Qc}{E:a0f}{s:OT}{d z v:ON}{od:Qk}{es:Array Ti}{ep i:Nat}{ok ov:OP}
theorem AM(a:s.TypeIs (.ref d) "dict")(i:(d==V1)=OO)(h:Q (.ref s.heap.objs.size) {s with heap:=s.heap.push {cls:= .type "dict_items",data:= .fields #[.ref d]}}):O6 (Po P w) A (VL (.builtin "dict.items") [.ref d]) Q E s:=by
 refine P5 F.slot_dict_items a F.entry_dict_items ?_<|F.args_dict_items_1 _;unfold Builtin.«dict.items»;refine My ?_;unfold Builtin.Dict.noArgs;refine My<|wpAny_notOrdered_dict a ?_;show O6 _ _ (Rm d) _ _ s;refine OG ?_;show O6 _ _ (VT d>>=_) _ _ s;unfold VT;rw[OR<|by rw[i];exact OY];exact My<|OG<|My<|Qy<|OG ⟨_,rfl,h⟩
theorem zX(a:s.heap.IsItemsView v d)(e:s.heap.get? d=on od)(i:od.data= .dict es ep)
  (h:Q (.ref s.heap.objs.size) {s with heap:=s.heap.push {cls:= .type "dict_itemiterator",data:= .fields #[.none,.bool OO,.ref d,.int 0 0,.int es.size 0,.int ep 0,.none,.none]}}):O6 (Po P w) A (Va<|.ref v) Q E s:=by
 obtain⟨o,b,f,c⟩:=id a;refine UR a.typeIs XJ<|P5 XJ a.typeIs F.entry_dict_items_iter ?_<|F.args_dict_items_iter_1 _;unfold Builtin.«dict_items.__iter__»;refine My<|OG<|My ?_;unfold Builtin.Dict_items.dictOf;refine My<|QK b c (x:= .ref d) rfl<|OG<|My ?_;unfold Builtin.Dict_items.newIterator;refine My<|Wn e i<|My<|WW e i ?_;simp only[show SU "dict_itemiterator"=OK from by decide,P8];refine Qy (OG ⟨_,rfl,"dict_itemiterator",_,⟨_,O5 _ rfl,rfl⟩,Q0.lookup,?_⟩)
  (by simp only[sizeOk,Ue,O7,O8,O4,V6,Ri];lia)
 simpa[Tw,Ue]using h
theorem zV(a:UB s.heap z d i es.size ep ok ov)(h:Q (.ref z) s):O6 (Po P w) A (Va<|.ref z) Q E s:=by
 have c:s.TypeIs (.ref z) "dict_itemiterator":=⟨_,a,rfl⟩;refine UR c Wq<|P5 Wq c (b:=Builtin.«dict_keyiterator.__iter__») (Xk (id':="dict_keyiterator.__iter__") (by kernel_rfl) rfl (by decide +kernel)<|by kernel_rfl) ?_<|F.args_dict_itemiterator_iter_1 _;show O6 _ _ (ret<|.ref z) _ _ s;exact OG ⟨_,rfl,"dict_itemiterator",_,c,Q0.lookup,h⟩
theorem zW{e:Ti}(m:UB s.heap z d i es.size ep ok ov)(K:s.heap.get? d=on od)(M:od.data= .dict es ep)(Y:es[i]?=on e)
  (S:∀v,IsItemIterOut v z d (i+1) es.size ep e.key e.val s.heap.objs.size->v.get? s.heap.objs.size=on {cls:= .type "tuple",data:= .seq #[e.key,e.val]}->v.objs.size=s.heap.objs.size+1->
   (∀b o,b≠z->s.heap.get? b=on o->v.get? b=on o)->Q (on<|.ref s.heap.objs.size) {s with heap:=v}):O6 (Po P w) A (S7<|.ref z) Q E s:=by
 obtain⟨n,g,T,U,D⟩:=s;have u:Wv ⟨n,g,T,U,D⟩ (.ref z) "dict_itemiterator":=⟨_,m,rfl⟩;have W:i<es.size:=by
  rcases T7 i es.size with h|h
  .exact h
  .simp[R6 h]at Y
 obtain rfl:es[i]=e:=by rw[Ud W]at Y;exact Pn Y
 unfold S7;refine My<|T6 (wpAny_callSpecial?_slot (name:=RU "__next__") u Q0
  (P5 Q0 u Wa ?_<|V4 _))
 refine My<|OG<|My<|My ?_
 first|refine My (Sd u (OG ?_))|refine My (S4 u (OG ?_))
 refine My<|VA m rfl ?_;simp only[show SU "dict_itemiterator"=OK from by decide,P8];show O6 _ _ (if(Pc d==P7)=OK then _ else _) _ _ _;rw[OR (show ¬((Pc d==P7)=OK)from OY)];refine My<|OG<|My<|Wn K M ?_;rw[OR<|by simp];refine My<|OG<|My<|WW K M ?_;rw[OR<|by simp];refine OG ?_;simp only[show ¬((i:Int)<0)from by lia,Qe,Qu,Ud W];refine My ?_
 first|refine My (Sd u (OG ?_))|refine My (S4 u (OG ?_))
 refine My<|Vc u ?_;show O6 _ _ (Xn (.ref z) 3 (Tw<|(i:Int)+1)>>=_) _ _ ⟨n,g,T,U,D⟩;refine My<|QL m (by simp) λa c f=>?_
 replace f:PL z n a:=f
 replace c:UB a z d (i+1) es.size ep ok ov:=by
  have e:((i+1:Nat):Int)=(i:Int)+1:=by lia
  unfold UB;rw[e];simpa[Tw]using c
 have l:Wv ⟨a,g,T,U,D⟩ (.ref z) "dict_itemiterator":=⟨_,c,rfl⟩;refine My<|QA<|My<|Vc l<|My<|Vc l ?_;show O6 _ _ (Uv (.ref z) 6 es[i].key es[i].val) _ _ ⟨a,g,T,U,D⟩;unfold Uv;refine My<|Xq ?_;have j:UB (a.push {cls:= .type "tuple",data:= .seq #[es[i].key,es[i].val]}) z d (i+1) es.size ep ok ov:=OH _ c;have k:a.objs.size=n.objs.size:=f.1;have Z:z≠n.objs.size:=PQ<|Ph m;have y:(a.push {cls:= .type "tuple",data:= .seq #[es[i].key,es[i].val]}).get? n.objs.size=on {cls:= .type "tuple",data:= .seq #[es[i].key,es[i].val]}:=by rw[<-k];exact O5 _ rfl
 have B:(a.push {cls:= .type "tuple",data:= .seq #[es[i].key,es[i].val]}).objs.size=n.objs.size+1:=by rw[QD,k]
 have C:∀b o,b≠z->n.get? b=on o->(a.push {cls:= .type "tuple",data:= .seq #[es[i].key,es[i].val]}).get? b=on o:=λb o X e=>OH _<|f.extBut b o X e;generalize a.push {cls:= .type "tuple",data:= .seq #[es[i].key,es[i].val]}=h₂ at*;show O6 _ _ (Uf (.ref z)>>=_) _ _ ⟨h₂,g,T,U,D⟩;rw[k];refine My ?_;unfold Uf;refine My<|QK j rfl (x:= .none) rfl<|OG ?_;simp only[P8];refine My<|QK j rfl (x:=ok) rfl<|My<|QK j rfl (x:=ov) rfl ?_;refine My<|QL j (by simp) λp F H=>?_;refine My<|QL F (by simp) λq I J=>?_;refine My<|QL I (by simp) λr L N=>?_;refine My<|QL L (by simp) λt O R=>?_;have G:=((show PL z h₂ p from H).trans (show PL z p q from J)).trans<|(show PL z q r from N).trans (show PL z r t from R);exact My<|WQ<|OG<|OG ⟨_,rfl,OG<|S t O (G.extBut _ _ Z.symm y) (by rw[G.1,B]) λb o X e=>G.extBut b o X<|C b o X e⟩
theorem EK(g:A.handled=OD)(c:UB s.heap z d i es.size ep ok ov)(f:s.heap.get? d=on od)(v:od.data= .dict es ep)(h:es.size<=i)
  (j:∀D,VU z s.heap D->Q OD {s with heap:=D}):O6 (Po P w) A (S7<|.ref z) Q E s:=by
 have e:s.TypeIs (.ref z) "dict_itemiterator":=⟨_,c,rfl⟩;unfold S7;refine My<|T6 (wpAny_callSpecial?_slot (name:=RU "__next__") e Q0
  (P5 Q0 e Wa ?_<|V4 _))
 refine My<|OG<|My<|My ?_
 first|refine My (Sd e (OG ?_))|refine My (S4 e (OG ?_))
 refine My<|VA c rfl ?_;simp only[show SU "dict_itemiterator"=OK from by decide,P8];show O6 _ _ (if(Pc d==P7)=OK then _ else _) _ _ s;rw[OR (show ¬((Pc d==P7)=OK)from OY)];refine My<|OG<|My<|Wn f v ?_;rw[OR<|by simp];refine My<|OG<|My<|WW f v ?_;rw[OR<|by simp];refine OG ?_;simp only[show ¬((i:Int)<0)from by lia,Qe,Qu,R6 h];refine My ?_
 first|refine My (Sd e (OG ?_))|refine My (S4 e (OG ?_))
 show O6 _ _ (Xn (.ref z) 2 .none>>=_) _ _ s;refine My<|Tz c rfl (by simp) ?_;show O6 _ _ (YA (.type "StopIteration") []>>=_) _ _ _;refine My ?_;simp only[YA,newTuple];refine My (Qy ?_<|by size_fits);refine My (m:=Tv _ _)<|Ss (a:=P7) (by first|rfl|(simp only[Tv];rfl)) ?_
 refine Qy ?_ (by size_fits);simp only[raiseNew];refine My<|X2 ?_;rw[show A.in1.handled=OD from g];refine My<|OG<|wpAny_throw ?_;refine My<|RF (T:="StopIteration") (b:=OK) ⟨_,O5 _ rfl,rfl⟩ Xl ?_;exact OG<|j _<|((QP ..).extBut.push _).push _
end
end L2.Hs
namespace L2.Pu
open L2.Hs
noncomputable def Iti(a:ON)(D n:Nat):It:=
 ⟨λi H=>∃b w,H a=on (dX a b D w)/\w.length=n/\i<n,
  λi H v c=>∃p x,H p=OD/\v= .ref p/\c=upd H p (.tup [.ref x.1,x.2])/\∀b w,H a=on (dX a b D w)->(w[i]?).map (·.2)=on x,
  λi H=>∃b w,H a=on (dX a b D w)/\w.length=n/\i=n⟩
theorem Hn:∀{w:a0w} {D:a0J} {i:Nat} {y:f0×ON×OP},VW XY w D->D[i]?=on y->∃x,w[i]?=on x/\XY x y
 |_,_,0,_,.cons h t,e=>by cases e;exact⟨_,rfl,h⟩
 |_,_,i+1,_,.cons h t,e=>Hn (i:=i) t e
 |_,_,0,_,.nil,e=>by cases e
 |_,_,_+1,_,.nil,e=>by cases e
section
variable{X:Cx}{a_:a0d}{σ:St}{H:Hp}{s:OT}{a:ON}{b:Bool}{ep i:Nat}{xs:a0w}
theorem rC(I:b_ X a_ σ H s)(h:H a=on (dX a b ep xs)):∃(o:Qk) (es:Array Ti),s.heap.get? a=on o/\o.data= .dict es ep/\es.size=xs.length/\o.ExactDict/\(a==V1)=OO/\∀(i:Nat) (e:Ti),es[i]?=on e->∃x,xs[i]?=on x/\e.key= .ref x.2.1/\aR x.2.2 e.val:=by
 obtain⟨o,es,w,j,k,l,d,h5,m,u,g⟩:AS a b ep xs s.heap:=(I.hok a _ h).1;have n:w.length=xs.length:=by rw[<-OC (f:=(·.1)),<-rM g,OC]
 refine⟨o,es,j,l,by rw[<-Pq,d,OC,n],k,m,λi e c=>?_⟩;rw[<-Si,d,OI]at c;cases q:w[i]? with
 |none=>rw[q]at c;cases c
 |some y=>
  rw[q]at c;cases c;obtain⟨x,p,_,r,t⟩:=Hn g q;exact⟨x,p,by rw[r],t⟩
theorem yU{P:Py}{w:PD}{K:Pa}{x1}(a M:ON)(n ep:Nat):
  ml P w K (.Tuple elts x1 pos) (Iti a ep n) [M] M (λi h=>∃G d,UB h M a i n ep G d) where
 mem:=by simp
 obj:=λi h D b c=>by
  obtain⟨G,d,e⟩:=D;cases PH.mp c;exact⟨_,e,λv q=>by cases q⟩
 keep:=λi h S D k=>by
  obtain⟨G,d,e⟩:=D;exact⟨G,d,k M (by simp) _ e⟩
 item:=by
  intro X l m p F i a_ s σ H E I f D r;subst l m p;obtain⟨G,d,e⟩:=D;obtain⟨b,xs,t,T,J⟩:=r;obtain⟨o,es,g,j,U,h4,h5,W⟩:=rC I t;have V:n=es.size:=by lia
  subst V;have A:es[i]?=on es[i]:=Ud J;refine zW e g j A λS Y Z sz kp=>⟨_,rfl,wpAny_letOwnedTupleGo_items (s:={s with heap:=S}) Y λB ei L=>?_⟩;obtain⟨x,ex,N,ev⟩:=W i _ A;have O:s.heap.objs.size≠M:=RT<|Ph e;have I2:b_ X a_ σ (upd H s.heap.objs.size<|.tup [.ref x.2.1,x.2.2]) {s with heap:=B,toks:=s.toks}:=
   b_.turnNew I f (λb u c q=>L.extBut b u (λz=>c<|by rw[z];simp)<|kp b u (λz=>c<|by rw[z];simp) q) (OX _) ⟨by show 2<=Pe;decide,[es[i].key,es[i].val],.cons N<|.cons ev .nil,_,L.extBut _ _ O Z,rfl,_,rfl⟩
  refine⟨.ref s.heap.objs.size,_,I2,rfl,⟨s.heap.objs.size,x.2,I.hok.fresh<|OX _,rfl,rfl,λb' aa C=>?_⟩,⟨_,_,ei⟩,λb c=>?_⟩
  .obtain⟨o',es',Q,R,_,_,_,g6⟩:=rC I C
   rw[g]at Q;cases Q;rw[j]at R;cases R;obtain⟨y,ey,fk,fv⟩:=g6 i _ A;rw[ey];rw[N]at fk
   injection fk with fk
   exact Qr on<|R3 fk.symm<|aR.inj fv ev
  .cases PH.mp c
   rw[bb O.symm];exact(f _ c).1
 done:=by
  intro X l m p F i a_ s σ H E I f D r;subst l m p;obtain⟨G,d,e⟩:=D;obtain⟨b,xs,t,T,J⟩:=r;obtain⟨o,es,g,j,U,_⟩:=rC I t;have V:n=es.size:=by lia
  subst V;refine EK (I.ok.hd F) e g j (by lia) λS kp=>⟨rfl,b_.turnL (t':=s.toks) I f λb o c q=>kp b o (λz=>c<|by rw[z];simp) q⟩
 self:=λ_ _ _ _ _ D h=>by
  obtain⟨G,d,e⟩:=D;exact zV (es:=(Pg n (⟨0,.none,.none⟩:Ti)).toArray) (by rw[O7,QZ];exact e) h
variable{E:a0s}{K:Pa}{o:Expr}{w i z:TF}{B:List Expr}{C:Nat}
def iItm(i:TE):TI:=λσ H R=>i σ H λx c=>∃a b ep xs,x= .ref a/\c a=on (dX a b ep xs)/\R (Iti a ep xs.length) c
theorem Gb(p:PE X o to)(c:SB o "items" X.env (Qh o X.env)=Qh o X.env:=by rfl)(d:(w.endLine==i.line)=OK:=by rfl):PI X (.Tuple B C z) (.Call (.Attribute o "items" w) [] [] i) (iItm to):=by
 intro a_ s σ H R I h;refine wpAny_Call_method0_late c d<|dt (p a_ s σ H _ I h) λv f g=>?_;obtain⟨x,m,n,D,a,b,ep,xs,rfl,r,q⟩:=g;cases D;obtain⟨j,E,g,t,u,k,h5,_⟩:=rC n r;refine⟨"dict","dict.items",Ws,PySem.F.slot_dict_items,PySem.F.type_dict_items,⟨j,g,k.1⟩,λb e=>?_,?_⟩
 .cases e;exact⟨j,g,k.2.1⟩
 refine UL rfl<|PySem.evalArgs_none<|AM ⟨j,g,k.1⟩ h5 ?_;have l:b_ X a_ σ m {f with heap:=f.heap.push {cls:= .type "dict_items",data:= .fields #[.ref a]},toks:=f.toks}:=n.kept λb o e=>OH _ e;refine zX (s:={f with heap:=f.heap.push {cls:= .type "dict_items",data:= .fields #[.ref a]}}) ⟨_,O5 _ rfl,rfl,rfl⟩ (OH _ g) t ?_;rw[u];exact⟨_,[_],_,_,m,rfl,l.kept (t':=f.toks) λb o e=>OH _ e,yU a _ _ ep,⟨_,_,O5 _ rfl⟩,λb y=>by
  cases PH.mp y;exact l.fpOk (OX _)<|l.hok.fresh<|OX _,q⟩
def itmD:D->a0B
 | .dct b ks vs=>on<|T0 (λk v=> .tup [dK b k,v]) ks vs
 |_=>OD
theorem EL{F:Fx}{H:Hp}{b:Bool}{a:ON}{ep:Nat}{xs:a0w}(B:¬F.A a)(C:H a=on (dX a b ep xs))(g:U=xs.map (·.1))(I:∀x∈xs,iK K F H b x.1 x.2.1)(dl:ba K F H W<|xs.map (·.2.2)):t_ K (Iti a ep xs.length) F H (T0 (λk v=> .tup [dK b k,v]) U W):=λR h s t fr i=>by
 have J:W.length=xs.length:=by rw[dl.length,OC]
 have L:U.length=xs.length:=by rw[g,OC]
 have c:=t.kp a _ B C;refine⟨λd o=>?_,λe=>⟨b,xs,c,rfl,by rw[e,Vf,L,J,UU]⟩⟩;have e:i<xs.length:=by
  have:=(OM.mp o).1;rw[Vf]at this;lia
 refine⟨⟨b,xs,c,rfl,e⟩,λy T N=>?_⟩;obtain⟨p,x,j,rfl,rfl,O⟩:=N;have l:=O b xs c;rw[OE e]at l;have f:xs[i].2=x:=Pn l;subst f;have m:bY h (upd h p<|.tup [.ref xs[i].2.1,xs[i].2.2]):=bY.upd j;obtain⟨v,n⟩:∃v,W[i]?=on v:=⟨_,OE<|by lia⟩;have Q:U[i]?=on xs[i].1:=by rw[g,OI,OE e];rfl
 rw[W7,Q,n]at o;cases o;have w:=ba.tr t _ _ dl;obtain⟨u,q,z⟩:=w.get n;rw[OI,OE e]at q;cases q;have r:=(fr.same m).tr fr;exact⟨m,qp (.inl ⟨fr.fresh j,.inl ax⟩)<|ba.cons (b5.tr r _ _<|Nw<|(I _<|PF e).tr t)<|ba.cons (b5.tr r _ _ z) ba.nil⟩
def nItm(f:FD):FL:=λa=>M.bind (f a) λd=>M.ofO<|itmD d
theorem JM(m:PE X o<|tV X.K f E)(c:SB o "items" X.env (Qh o X.env)=Qh o X.env:=by rfl)(g:(w.endLine==i.line)=OK:=by rfl):PI X (.Tuple B C z) (.Call (.Attribute o "items" w) [] [] i) (iV X.K (nItm f) E):=
 (Gb m c g).imp λσ H R j=>j2 j λF s D fr n h=>⟨F,s,D,fr,n,(run.bind (R:=b5 X.K F) h).mono λv p j=>by
  obtain⟨d,G,t,b,M⟩:=j;obtain⟨P,e,k⟩:=run.ofO M;cases d<;>first|(cases e;done)|skip
  cases e;unfold b5 at b;obtain⟨a,ep,xs,rfl,l,q,r,dl⟩:=b;exact⟨a,_,ep,xs,rfl,l.2,k _ p (To.refl t.fr)<|EL l.1 l.2 q r dl⟩⟩
end
end L2.Pu
namespace L2.Hs
theorem yc:mroOf (.type "reversed")=Rm [.type "reversed",.type "object"]:=by rw[mroOf_type];kernel_rfl
theorem GB:typeLookup (.type "reversed") "__new__"=Rm (on<|.builtin "reversed.__new__"):=by rw[WV,Vo];kernel_rfl
theorem Gv:Bind.madeBy (.type "reversed")=Rm (on "reversed.__new__"):=madeBy_type yc GB (by decide +kernel)
theorem IL:isSubtype (.type "reversed") (.type "reversed")=Rm OK:=by rw[UE];kernel_rfl
theorem FV:isSubtype (.type "range_iterator") (.type "reversed")=Rm OO:=by rw[UE];kernel_rfl
theorem JZ:Xj table "reversed.__new__"=on Builtin.«reversed.__new__»:=WD (by kernel_rfl)
section
variable{l:Py}{w:PD}{A:Qc}{E:a0f}{s:OT}
theorem Ha(a:IsRange s.heap r 0 n 1 t u v)(j:0<=n)(g:n<2^62)
  (h:Q (.ref s.heap.objs.size) {s with heap:=s.heap.push {cls:= .type "range_iterator",data:= .fields #[Tw<|n-1,Tw n,Tw<|-1]}}):O6 (Po l w) A (VL (.type "reversed") [.ref r]) Q E s:=by
 refine Xp<|Vh ?_;show O6 _ _ (callAny (.type "reversed") _) _ _ _;refine OG ⟨X5 _ (by decide +kernel),Sx F.entry_type_call ?_⟩;rw[Xs (weight_type_call_type "reversed" [.ref r] [])<|units_type_call_type "reversed" [.ref r] []];have g:(R7 "reversed"==R7 "type")=OO:=by decide +kernel
 have k:((Yb "reversed").bind (·.mro.findSome? λt=>(Yb t).bind λb=>if b.noNew then on OK else if b.attrs.any (·.1=="__new__")then on OO else OD)).getD OO=OO:=by decide +kernel
 have e:=yc;have c:=Gv;have i:checkTypeCall "reversed" ⟨[.ref r],[]⟩=Rm ():=by kernel_rfl
 repeat (any_goals (first|assumption|wp_step))
 refine Vy (by decide +kernel) JZ<|Ss (show WC "reversed.__new__" ⟨[.type "reversed",.ref r],[]⟩=Rm () by kernel_rfl) ?_;have f:s.TypeIs (.ref r) "range":=⟨_,a,rfl⟩;unfold Builtin.«reversed.__new__»
 repeat (any_goals (first|assumption|wp_step))
 refine Ss IL<|OG ?_;refine My (m:=Uo _ _ _) ?_;refine Ss (show Uo "reversed" (R7 "reversed") ⟨[.type "reversed",.ref r],[]⟩=Rm ()from rfl) ?_;refine My (m:=checkCount "reversed" 1 1 _)<|OG ?_;show O6 _ _ (specialOf (.ref r) (RU "__reversed__")>>=_) _ _ s;refine My<|RW f F.slot_range_reversed.lookup ?_;show O6 _ _ (bindSpecial (.builtin "range.__reversed__") (.ref r)>>=_) _ _ s;refine My<|Ss (F.slot_range_reversed.bind _) ?_;show O6 _ _ (rule "reversed.__new__.own-method">>=_) _ _ s;refine My<|SS<|My<|Xr<|Vy F.slot_range_reversed.plain F.entry_range_reversed<|F.slot_range_reversed.check _ _ _ _ _ _ _ _ f (F.args_range_reversed_1 _) ?_;unfold Builtin.«range.__reversed__»;refine My (m:=selfOnly "range.__reversed__" _)<|OG<|My ?_;unfold Builtin.Range.rangeFields;refine My<|QK a rfl (x:= .int 0 t) rfl<|My (m:=asInt? _)<|OG ?_;refine My<|QK a rfl (x:= .int n u) rfl<|My (m:=asInt? _)<|OG ?_;refine My<|QK a rfl (x:= .int 1 v) rfl<|My (m:=asInt? _)<|OG<|OG ?_;have D:VE 0 n 1=n:=by rw[rangeSize_one];split<;>lia
 simp only[D];have d:(Qs 0&&Qs n&&Qs 1&&Qs (-1)&&Qs (0-1)&&Qs n)=OK:=by
  have:Qs n=OK:=by unfold Qs;simp;lia
  rw[this];decide
 simp only[d,P8,Rr,Pb,Qe];rw[show(0:Int)+(n-1)*1=n-1 by lia];refine My<|Qy<|OG<|OG ?_;exact My<|RF (T:="range_iterator") (b:=OO) ⟨_,O5 _ rfl,rfl⟩ FV<|My<|SS<|OG h
end
end L2.Hs
namespace L2.Pu
open L2.Hs
noncomputable def Itd(n:Nat):It:=⟨λi _=>i<n,λi H v a=>v= .int ((n:Int)-1-i)/\a=H,λi _=>n<=i⟩
theorem xl{P:Py}{w:PD}{K:Pa}(G:ON)(n:Nat):ml P w K x (Itd n) [G] G (λi h=>WI h G ((n:Int)-1+(i:Nat)*-1) ((n:Int)-(i:Nat))<|-1) where
 mem:=by simp
 obj:=λi h D b c=>by
  cases PH.mp c;exact⟨_,D,λv z=>by
   have C:Data.fields _=Data.cell v:=z;cases C⟩
 keep:=λi h M D k=>k G (by simp) _ D
 item:=by
  intro X g j l m i a s A H E I f D p;subst g j l;obtain⟨q,f1,f2,r,u,y⟩:=f G (by simp);refine(Walks.range (prog:=X.prog) (w:=X.w) (I.ok.hd m) G ((n:Int)-1) (-1) n).item i s _ _ p D λv M B F d J=>?_;obtain⟨t,rfl⟩:=F;have L:b_ X a A H {s with heap:=M,toks:=B}:=I.turned (λb o c e=>J b o (by simpa using c) e) q f1 r u y;exact⟨_,rfl,uP (s:={s with heap:=M,toks:=B}) (n:="range_iterator") d rfl rfl (by decide) ⟨.int<|(n:Int)-1-i,H,L,⟨t,by rw[show(n:Int)-1+(i:Int)*-1=(n:Int)-1-i by lia]⟩,⟨rfl,rfl⟩,d,λb c=>(f b c).1⟩⟩
 done:=by
  intro X g j l m i a s A H E I f D p;subst g j l;obtain⟨q,f1,f2,r,u,y⟩:=f G (by simp);exact YD (I.ok.hd m) D (by have:n<=i:=p;lia) λM N=>⟨rfl,I.turned (t':=s.toks) (λb o c e=>N b o c e) q f1 r u y⟩
 self:=λ_ _ _ _ _ D h=>Vd D h
section
variable{X:Cx}{E:a0s}{K:Pa}{B:Expr}
def On(a:TA):TI:=λb H R=>a b H λw c=>∃j:Int,w=[.int j]/\0<=j/\j<2^62/\R (Itd j.toNat) c
theorem DD(f:Gl X "reversed")(g:X.mg "reversed"=OD)(n:Gl X "range")(w:X.mg "range"=OD)(D:PA X [a] A)(E:O1 [a] X.env=[(OO,Qh a X.env)]:=by rfl)
  (i:O1 [.Call (.Name "range" p) [a] [] z] X.env=[(OO,Qh (.Call (.Name "range" p) [a] [] z) X.env)]:=by rfl):PI X B (.Call (.Name "reversed" p2) [.Call (.Name "range" p) [a] [] z] [] pos2) (On A):=by
 intro c s l H R I h;refine Call_<|ij I f g Boot.«reversed»<|QJ ?_ i rfl;refine XH<|Call_<|ij I n w boot_range<|QJ (dt (D z c s l H _ I h) λP d r=>?_) E rfl;obtain⟨S,m,v,G,j,rfl,K,M,q⟩:=r;obtain⟨u,rfl,t,rfl⟩:=hV G;refine call_range_1<|X4<|Ha (IsRange.new ..) K M<|Vd (x:=j-1) (left:=j) (step:=-1) (O5 _ rfl) ?_;have k:b_ X c l m {d with heap:=d.heap.push {cls:= .type "range",data:= .fields #[.int 0 d.toks,.int j t,.int 1<|d.toks+1]},toks:=d.toks+1+1}:=v.kept λb o e=>OH _ e;refine⟨_,[_],_,_,m,rfl,k.kept (t':=d.toks+1+1) λb o e=>OH _ e,xl _ j.toNat,?_,λb y=>?_,q⟩
 .show WI _ _ (((j.toNat:Nat):Int)-1+((0:Nat):Int)*-1) (((j.toNat:Nat):Int)-((0:Nat):Int)) (-1)
  rw[show((j.toNat:Nat):Int)-1+((0:Nat):Int)*-1=j-1 by lia,show((j.toNat:Nat):Int)-((0:Nat):Int)=j by lia];exact O5 _ rfl
 .cases PH.mp y
  exact k.fpOk (OX _)<|k.hok.fresh<|OX _
noncomputable def jB(n:Nat):a0e:=(OV n).map λ(i:Nat)=> .int<|(n:Int)-1-i
theorem zY:t_ K (Itd n) F H (jB n):=λe f B t fr i=>by
 refine⟨λd w=>?_,λa=>?_⟩
 .unfold jB at w
  have a:i<n:=by
   have:=(OM.mp w).1;simpa using this
  rw[OI,QB a]at w;cases w;exact⟨a,λx g ⟨b,c⟩=>by subst b c;exact⟨bY.refl _,rfl⟩⟩
 .show n<=i
  rw[a];simp[jB]
def uB:a0e->a0B
 |[.int j]=>if(decide (0<=j)&&decide (j<2^62))=OK then on (jB j.toNat)else OD
 |_=>OD
theorem GT(b:Gl X "reversed")(c:X.mg "reversed"=OD)(j:Gl X "range")(w:X.mg "range"=OD)(D:PA X [a]<|hX X.K g E)(G:O1 [a] X.env=[(OO,Qh a X.env)]:=by rfl)
  (d:O1 [.Call (.Name "range" p) [a] [] r] X.env=[(OO,Qh (.Call (.Name "range" p) [a] [] r) X.env)]:=by rfl):PI X B (.Call (.Name "reversed" p2) [.Call (.Name "range" p) [a] [] r] [] pos2) (iV X.K (cJ uB g) E):=
 (DD b c j w D G d).imp λq H R f=>j2 f λF M P fr m h=>⟨F,M,P,fr,m,(run.bind (R:=ba X.K F) h).mono λu n f=>by
  obtain⟨x,S,t,V,s⟩:=f;obtain⟨l,e,k⟩:=run.ofO s;unfold uB at e;split at e
  .split at e
   .rename_i i
    cases e;simp only[Pr,PR]at i;obtain⟨v,rfl,o⟩:=ba.one V;cases o.int;exact⟨_,rfl,i.1,i.2,k _ n (To.refl t.fr) zY⟩
   .cases e
  .cases e⟩
variable{e m:Expr}{z tm:TE}{L N:TF}
theorem Ga(a:a0g):Yp a.toArray OD OD (on<|-1)=a.reverse.toArray:=by
 have b:SR OD OD (on<|-1) a.toArray.size=((a.length:Int)-1,-1,-1):=by simp[SR]
 unfold Yp;rw[b];refine Qr _ ?_;have c:sliceRange ((a.length:Int)-1) (-1) (-1)=(OV a.length).map λk=>a.length-1-k:=by
  unfold sliceRange;have d:(if(-1:Int)>0 then(if(a.length:Int)-1< -1 then(-1-((a.length:Int)-1)+-1-1)/ -1 else 0)else(if(a.length:Int)-1>-1 then((a.length:Int)-1- -1- -1-1)/(- -1)else 0)).toNat=a.length:=by
   rw[OR<|by decide];split
   .rw[show(- -1:Int)=1 by decide,Int.ediv_one];lia
   .lia
  simp only[d];exact Pk λk _=>by lia
 show(sliceRange ((a.length:Int)-1) (-1)<|-1).filterMap _=_;rw[c,List.filterMap_map];rcases a with _|⟨x,r⟩
 .rfl
 generalize j:x::r=a;rw[wE (g:=λk=>a.getD (a.length-1-k) x) λk f=>by
  have:k<a.length:=O9.mp f;simp only[Ua,Tl];rw[OJ,OE<|by lia];rfl]
 refine QE (by simp) λi h l=>?_;have n:i<a.length:=by simpa using h
 rw[R1,R8,Xz,OJ,OE<|by lia];rfl
def ZU(K:Pa)(z tm:TE):TE:=λc H Q=>z c H λx d=>tm c d λy b=>∃a e,x= .ref a/\y= .int (-1)/\eg K b a e/\∀p,b p=OD->Q (.ref p) (upd b p<|.lst e.reverse)
theorem K3(l:PE X e z)(E:PE X m tm):PE X (.Subscript e (.Slice OD OD (on m) N) L) (ZU X.K z tm):=by
 intro c s f H Q I h;refine Subscript_<|dt (l c s f H _ I h) λv n o=>?_;obtain⟨x,p,r,G,M⟩:=o;refine wpAny_Slice ?_;rw[XX];refine OG<|OG ?_;rw[evalPart_some];refine dt (E c n f p _ r M) λu d B=>?_;obtain⟨y,C,g,F,a,P,rfl,rfl,S,q⟩:=B;cases G;obtain⟨t,rfl⟩:=F;obtain⟨its,i,D,j⟩:=g.list S;have k:b_ X c f C {d with heap:=d.heap.push {cls:= .type "slice",data:= .fields #[.none,.none,.int (-1) t]}}:=g.kept (t':=d.toks) λb J q=>OH _ q;show O6 (Po X.prog X.w) X.A (X0 e (.Slice OD OD (on m) N) (.ref a)<|.ref d.heap.objs.size) (EP X c f Q) X.xe {d with heap:=d.heap.push {cls:= .type "slice",data:= .fields #[.none,.none,.int (-1) t]}};refine tail_any (ops:=[.ref a,.ref d.heap.objs.size]) (D.isList.push _).typeIs slot_list_getitem.lookup (X1 (D.isList.push _) (V5 ..) .none .none (.int (-1) t) (by simp) ?_<|by rw[O7,<-i.length];exact j) (by with_unfolding_all rfl)
 rw[Ga];exact⟨.ref _,_,k.lnew (t':=d.toks) (its:=its.reverse) (ys:=P.reverse) i.reverse (by rw[XN];exact j),rfl,q _<|k.hok.fresh<|OX _⟩
noncomputable def KM:D->D->a0k
 | .lst ds,.int (-1)=>on<|.lst ds.reverse
 |_,_=>OD
theorem ba.reverse:∀{m:a0e} {e:a0i},ba K F H m e->ba K F H m.reverse e.reverse
 |[],e,h=>by have q:e=[]:=h;subst q;exact ba.nil
 |d::m,e,h=>by
  obtain⟨x,r,rfl,a,b⟩:=h;rw[Us,Us];exact ba.append (ba.reverse b)<|ba.cons a ba.nil
theorem M3(o:PE X e<|tV X.K f E)(D:PE X m<|tV X.K g E):PE X (.Subscript e (.Slice OD OD (on m) N) L) (tV X.K (f2 KM f g) E):=
 (K3 o D).imp λr H Q b=>j2 b λF B G fr l h=>⟨F,B,G,fr,l,(run.bind (R:=b5 X.K F) h).mono λv u b=>l0 b λd w t M P=>⟨F,B,w,t.fr,l.tr<|t.tr fr,(run.bind (R:=b5 X.K F) P).mono λy A b=>l0 b λx S i j q=>by
  obtain⟨z,c,k⟩:=run.ofO q;unfold KM at c;split at c
  .cases c
   obtain⟨a,V,rfl,s,dl⟩:=b5.sqL<|b5.tr (i.tr t.fr) _ _ M;cases j.int;exact⟨a,V,rfl,rfl,s,λp n=>k _ _ (i.fr.upd _ n)<|b5.newL i.fr n<|ba.reverse dl⟩
  .cases c⟩⟩
end
end L2.Pu
namespace L2.Pu
theorem hu2{A:Qc}(a:dv k A):A.units+2<TN:=Qp (Vm (by decide:2<=64) _) a.units
open L2.Hs
section
variable{X:Cx}{E:a0s}{ke ve b4 aa:Expr}{ad:List Expr}{ab:a0P}{P:Scope}{ac:TF}{Nc cp:a0h}{b0:a0a}{g:TG}{tb:a0Y}
theorem I9{kb:Bool}{b d:TF}(y:X.N.Nodup)(k:X.N[i]?=on x)(B:x5 X.env.scope x)(F:X.calm=OK)(S:cy X P Nc cp b0)(L:PI X b4 aa wi)
  (O:∀(E:a0m) (C:ON) (j:a0o) (s:OT) (H:Hp),PG (aP X Nc P E C j s H) b4 g/\eQ (aP X Nc P E C j s H) ad tt/\∀D,PB (aP X Nc P E C j s H) (.D ke ve) (⟨b4,aa,ad,0⟩::ab) P ac 0 D<|tb D)
  (l:TY (.DictComp ke ve (⟨b4,aa,ad,0⟩::ab) P ac) (on<|.Name x b) d.line X.env=Rm OK:=by rfl)
  (K:∀x,P3 aa X.env x=Rm x:=by intro _;rfl) (R:b0d X x:=by first|exact .inl rfl|exact .inr rfl|assumption):
  PS X (.Assign [.Name x b] (.DictComp ke ve (⟨b4,aa,ad,0⟩::ab) P ac) d) (kY (mM (λD=>dX D kb 0 []) cp b0 wi λD J=>dF J g tt<|tb D)<|gc i):=by
 intro f s U H D I h;rw[exec_Assign_Name_used _ _ _ _ l];refine My<|RE<|My ?_;show O6 _ X.A (do let _ <-comprehension (.DictComp ke ve (⟨b4,aa,ad,0⟩::ab) P ac) P X.env _ newDict OO (Qh aa X.env) (on<|Uj (.Name x b) X.env)) _ _ s
 refine My<|Qa (R5 (use:=on<|Uj (.Name x b) X.env) (Q:=λ_ s'=>SP X f D .next s') rfl K (S.clo I.ok) S.kind S.loc
  (Qa (L f s U H _ I h) (λv s1 W=>Qa W (λY Z n=>?_) λ_ _ e=>e) λ_ _ e=>e)) (λ_ s' M=>OG<|OG M) λ_ _ e=>e
 obtain⟨it,j,tn,J,H2,e,o,T,p,f2,q⟩:=n;subst e;refine je (c:= .D ke ve) wa (RR:=λG C=>Xi (Po X.prog X.w) X.A X.xe (on<|Uj (.Name x b) X.env) _ G C) F S O o T p f2 q λA C s' V m I' ns r q'=>?_;show O6 _ X.A (Uj (.Name x b) X.env<|.ref A) _ _ s';refine Wm<|mQ I' y k B (v:= .ref A) rfl (λZ o n=>?_) R;obtain⟨a,sb,ha⟩:=n;have t:C≠a:=by
  rcases ha with rfl|ha
  .exact r.2.1
  .exact λz=>r.2.2.2.1 x a ha z.symm
 exact⟨m,ns.sameBut sb t,λh' u=>⟨_,V,o.letgo r u,q'⟩⟩
theorem CK{kb:Bool}{a c:TF}(j:X.N.Nodup)(d:X.N[i]?=on x)(k:x5 X.env.scope x)(l:X.calm=OK)(S:cy X P Nc cp b0)(m:PI X b4 aa<|iV X.K u E)
  (n:∀(w:a0m) (C:ON) (f:a0o) (s:OT) (H:Hp),PG (aP X Nc P w C f s H) b4 g/\eQ (aP X Nc P w C f s H) ad (hO X.K v E0)/\∀D,PB (aP X Nc P w C f s H) (.D ke ve) (⟨b4,aa,ad,0⟩::ab) P ac 0 D<|tb D)
  (o:cW X.K g t) (G:eP t) (p:∀D,f6 X.K (RD X.K kb) D (tb D) b)
  (e:TY (.DictComp ke ve (⟨b4,aa,ad,0⟩::ab) P ac) (on<|.Name x a) c.line X.env=Rm OK:=by rfl)
  (M:∀x,P3 aa X.env x=Rm x:=by intro _;rfl) (q:b0d X x:=by first|exact .inl rfl|exact .inr rfl|assumption):
  PS X (.Assign [.Name x a] (.DictComp ke ve (⟨b4,aa,ad,0⟩::ab) P ac) c) (tG X.K X.H₀ (eY i<|i8 cp.length b0 u t v b<|mx kb) E):=
 aF ((I9 (kb:=kb) j d k l S m n e M q).imp λD r H h=>wT o G p h)
theorem M6{X:Cx}{E:a0s}{f g:FD}{ac:TF}(w:PE X e1<|tV X.K f E)(a:PE X e2<|tV X.K g E)(D:sU e2:=by exact λ_ _=>rfl):PE X (.Subscript e1 e2 ac) (tV X.K (f2 gt f g) E):=aS ay aT w a D
end
end L2.Pu
namespace L2.Hs
section
variable{X:Cx}
def KO(K:Pa):R2:=λx y H Q=>∃a b D w k c,x= .ref c/\y= .ref a/\H a=on (dX a b D w)/\(∀x∈w,y4 K H b x.1 x.2.1)/\y4 K H b k c/\Q (.bl (r8 w k).isNone) H
theorem x8(i:X.A.units+2<TN):fX X (Qq .NotIn) (KO X.K):=by
 intro c s t H x y v u Q I j l h;obtain⟨d,b,M,D,k,a,rfl,rfl,m,n,o,q⟩:=h;cases j;cases l;obtain⟨E,w,p,_,G⟩:=nJ I m n;have f:=n5 (k:=k) p;show O6 _ _ (do return Vn (!(<-contains (.ref d) (.ref a)))) _ _ s
 refine My ?_;unfold contains
 try with_reducible refine QA ?_
 refine My<|RW w.typeIs slot_dict_contains.lookup ?_;show O6 _ _ (if(on (Value.builtin "dict.__contains__")==on P7)=OK then _ else _) _ _ s;rw[OR<|by rw[beq_builtin_none];exact OY];refine My (wpAny_callSpecialUnlessNone?_slot (name:=RU "__contains__") w.typeIs slot_dict_contains
  (P5 slot_dict_contains w.typeIs entry_dict_contains ?_<|args_dict_contains _ _))
 show O6 _ _ (dictGet d (.ref a)>>=_) _ _ s;refine My<|wpAny_dictGet_heap (oM i) (q8 I o) w ?_;cases g:WO E k with
 |some r=>
  rw[g]at f;cases e:r8 D k with
  |none=>rw[e]at f;exact f.elim
  |some z=>
   rw[e]at q;show O6 _ _ (ret<|.bool OK) _ _ _;exact OG ⟨_,rfl,Qg<|OG ⟨.bl _,H,I.tok _,rfl,q⟩⟩
 |none=>
  rw[g]at f;cases e:r8 D k with
  |some z=>rw[e]at f;exact f.elim
  |none=>
   rw[e]at q;show O6 _ _ (Builtin.Dict.pendingKey? d (.ref a)>>=_) _ _ _;exact My<|wpAny_pendingKey_other G<|OG ⟨_,rfl,Qg<|OG ⟨.bl _,H,I.tok _,rfl,q⟩⟩
end
end L2.Hs
namespace L2.Pu
open L2.Hs
section
variable{K:Pa}
def Gm:D->D->a0k
 |y,.dct b ks vs=>(jr b y).map λk=> .bl (ln ks vs k).isNone
 |_,_=>OD
theorem NF:bv K (KO K) Gm:=λF H P Q G S d n o fr g f e k=>by
 unfold Gm at e;split at e
 .rename_i b ks vs
  cases q:jr b G with
  |none=>rw[q]at e;cases e
  |some w=>
   rw[q]at e;cases e;obtain⟨h,rfl⟩:=p7 q;obtain⟨c,rfl,i⟩:=uL h g;unfold b5 at f;obtain⟨a,M,D,rfl,j,rfl,l,dl⟩:=f;refine⟨a,b,M,D,w,c,rfl,rfl,j.2,λx m=>(l x m).s,i.s,?_⟩;have:=qY (k:=w) dl
   dsimp only at k
   cases E:ln (D.map (·.1)) vs w with
   |none=>
    rw[E]at this k;have t:r8 D w=OD:=this;rw[t];exact k _ H (To.refl fr) rfl
   |some z=>
    rw[E]at this k;obtain⟨u,t,_⟩:=this;rw[t];exact k _ H (To.refl fr) rfl
 .cases e
end
end L2.Pu
namespace L2.Pu
section
variable{X:Cx}{E:a0s}{K:Pa}{f:Qd}{a:Hp}{B:Ow}{g:a0q}{H h:Hp}{d:Ds}{e b:Bg}{c:St}
end
end L2.Pu
namespace L2.Pu
open PySem.SeqAt
open PySem.AutoSeq1 (wpAny_loadPart')
open PySem.MeetsSeq PySem.MeetsSeq2 PySem.MeetsSeq3
end L2.Pu
namespace L2.Hs
section
variable{X:Cx}
end
end L2.Hs
namespace L2.Pu
open L2.Hs
section
variable{K:Pa}{F:Fx}{H:Hp}
variable{X:Cx}{E:a0s}{a:Qd}
end
end L2.Pu
namespace L2.Hs
end L2.Hs
namespace L2.Pu
open L2.Hs
end L2.Pu
namespace L2.Hs
open PySem.W
theorem yu:Xj table "set.update.loop"=on Builtin.«set.update.loop»:=WD (by kernel_rfl)
theorem vR:plainId "set.update.loop"=OK:=by decide +kernel
theorem new1(a:OP):WC "set.__new__" ⟨[.type "set",a],[]⟩=Rm ():=by kernel_rfl
section
variable{prog:Py}{w:PD}{A:Qc}{E:a0f}{s:OT}
abbrev ldW(w:PD):Bool:=!(w.params.followText "set-order")
abbrev z_(w:PD):Qk:={cls:= .type "set",dict:=OD,data:= .set #[] 0 (.fresh 0 0<|ldW w)}
theorem Nj{h:PZ}(e:h.get? a=on (z_ w)):iJ prog w h a []:=
 ⟨_,#[],0,_,e,⟨rfl,rfl,rfl⟩,rfl,rfl,.nil,λ_ z=>(nomatch z),⟨.inl rfl,rfl,λi j a b h=>by simp[UO]at*,λi j h=>by simp[UO]at h,rfl,by show 0*5<7*3;decide,λi h j c=>by simp at c⟩,rfl,rfl⟩
theorem Lu(a:OP)(h:Q₁ (.ref s.heap.objs.size) {s with heap:=s.heap.push (z_ w)}):
  SI (Po prog w) A (.call (.builtin "set.__new__") ⟨[.type "set",a],[]⟩) (wants Q₁ E) s:=by
 refine Vh ?_;show O6 _ A.in1 (do WC "set.__new__" ⟨[.type "set",a],[]⟩;We (.builtin "set.__new__" ⟨[.type "set",a],[]⟩)) _ _ s
 refine My<|Ss (new1 a)<|OG ⟨VR WL _,Sx PySem.F.entry_set_new ?_⟩;rw[Sv WL _];unfold Builtin.«set.__new__» Builtin.Frozenset.newClass;have b:=sub_set_self;obtain⟨c,g,d,e,D⟩:=s
 dsimp only
 wp_walk
 refine SZ<|OG ?_;simp only[newObj];exact My<|wpAny_alloc<|OG<|OG h
structure F_ (ys zs:a0l):Prop where
 sub:∀y∈ys,y∈zs
 key:∀z∈zs,z.1∈ys.map (·.1)
theorem F_.step{s a ds:a0l}{z:a0c×ON}(c:F_ s ds)(d:z.1∈s.map (·.1)->a=s)(f:z.1∉s.map (·.1)->a.Perm ((z.1,z.2)::s)):F_ a (ds++[z]):=by
 by_cases q:z.1∈s.map (·.1)
 .rw[d q]
  refine⟨λy b=>P4.mpr<|.inl<|c.sub y b,λx hx=>?_⟩;rcases P4.mp hx with hx|hx
  .exact c.key x hx
  .obtain rfl:x=z:=by simpa using hx
   exact q
 .have p:=f q
  refine⟨λy b=>?_,λx hx=>?_⟩
  .rcases OQ.mp (p.mem_iff.mp b)with e|e
   .exact P4.mpr (.inr<|by rw[e];simp)
   .exact P4.mpr (.inl<|c.sub y e)
  .rw[(p.map (·.1)).mem_iff]
   rcases P4.mp hx with hx|hx
   .exact OF _ (c.key x hx)
   .obtain rfl:x=z:=by simpa using hx
    exact OL
theorem FJ{G:Array GenState->Array GenState->Prop}{St:Nat->OT->Prop}{a:a0l}(W:WalksS prog w A.in1 I fp wr G a.length (λi v=>(a.map λz=>Pc z.2)[i]?=on v) St)(S:ON)(hS:S∉fp)(hu:A.in1.units<TN)(J:a.length<63):
  ∀(k i:Nat) (s:OT) (E:a0l),i+k=a.length->St i s->iJ prog w s.heap S E->F_ E (a.take i)->E.length<=i->(∀z∈a,(gr prog w).is s.heap z.1 z.2/\z.2≠S/\z.2∉wr)->
   (∀D d,Moved (S::wr) G s D->iJ prog w D.heap S d->F_ d a->d.length<=a.length->R (.ok<|.ret .none) D)->SI (Po prog w) A (.builtin "set.update.loop" ⟨[.ref S,.ref I],[]⟩) R s:=by
 have O:S∉wr:=λh=>hS<|W.sub _ h;have j:∀b∈wr,b∈S::wr:=λb l=>OF _ l;have mv:∀{s D:OT} {E:a0l},Moved wr G s D->iJ prog w s.heap S E->(∀z∈a,(gr prog w).is s.heap z.1 z.2/\z.2≠S/\z.2∉wr)->F_ E (a.take a.length)\/(∀y∈E,y∈a)->iJ prog w D.heap S E/\∀z∈a,(gr prog w).is D.heap z.1 z.2/\z.2≠S/\z.2∉wr:=λ{s D E} K T n Q=>by
  have f:∀z∈a,(gr prog w).is D.heap z.1 z.2/\z.2≠S/\z.2∉wr:=λz J=>by
   obtain⟨⟨o,M,m,p,r⟩,L,N⟩:=n z J;exact⟨⟨o,M,m,K.heap _ _ N p,r⟩,L,N⟩
  have Q:∀y∈E,y∈a:=Q.elim (λc y u=>by have:=c.sub y u;rwa[Rx]at this) id;obtain⟨o,es,ep,t,p,r,e3,e4,e5,_,e7⟩:=T;exact⟨⟨o,es,ep,t,K.heap S _ O p,r,e3,e4,e5,λy u=>(f y<|Q y u).1,e7⟩,f⟩
 intro k
 induction k with
 |zero=>
  intro i s E hi P T C hl n U;obtain rfl:i=a.length:=by lia
  refine Sx yu ?_;rw[Sv vR _];show O6 _ A.in1 (S7 (.ref I)>>=_) _ _ s;refine My<|W.done s _ _ P λD K=>?_;show O6 _ A.in1 (ret P7) _ _ D;refine OG<|U D E (K.mono j) (mv K T n<|.inl C).1 (by rwa[Rx]at C) hl
 |succ k ih=>
  intro i s E hi P T C hl n U;have g:i<a.length:=by lia
  refine Sx yu ?_;rw[Sv vR _];show O6 _ A.in1 (S7 (.ref I)>>=_) _ _ s;refine My<|W.item i s _ _ g P λv D hv X K=>?_;have B:∀y∈E,y∈a:=λy u=>XB<|C.sub y u;obtain⟨T',f⟩:=mv K T n<|.inr B;rw[OI,OE g]at hv;cases hv;have F:=f a[i]<|PF g;show O6 _ A.in1 (SX [Pc a[i].2] (setAdd S<|.ref a[i].2)>>=_) _ _ D;refine My<|QA ?_;unfold setAdd;refine QA<|My<|(gr prog w).pyHash hu F.1 ?_;refine Fp (s:={D with toks:=D.toks+(gr prog w).draws a[i].1}) hu T' F.1 (by lia) λh' d Y T2 c1 c2=>?_;have Z:=W.frame _ D h' (D.toks+(gr prog w).draws a[i].1) X (Rj _ _) λb l o e=>(Y.2 b λz=>hS<|z▸l).trans e;have V:a.take (i+1)=a.take i++[a[i]]:=by rw[List.take_succ,OE g];rfl
  refine OG ⟨VR vR _,ih (i+1) _ d (by lia) Z T2 (by rw[V];exact C.step c1 c2) ?_ (λz J=>?_) λx H aa T3 C3 l3=>?_⟩
  .by_cases q:a[i].1∈E.map (·.1)
   .rw[c1 q];lia
   .rw[(c2 q).length_eq];simp;lia
  .obtain⟨⟨o,M,m,p,r⟩,L,N⟩:=f z J
   exact⟨⟨o,M,m,(Y.2 _ L).trans p,r⟩,L,N⟩
  .refine U x H (Moved.trans W.gtrans ((K.mono j).then_heap (Rj _ _) λb o l e=>?_) aa) T3 C3 l3
   exact(Y.2 b λz=>l<|z▸OL).trans e
theorem o1(h:wants Q E r s):(∃v,r= .ok (.ret v)/\Q v s)\/∃e,r= .error e/\E e s:=by
 unfold wants at h;split at h
 .exact .inl ⟨_,rfl,h⟩
 .exact h.elim
 .exact .inr ⟨_,rfl,h⟩
set_option maxHeartbeats 3200000 in
theorem Fb{d:a0l}(hh:A.handled=OD)(hu:A.units+8<TN)(y:s.heap.IsList l (d.map λz=>Pc z.2).toArray)(hk:∀z∈d,(gr prog w).is s.heap z.1 z.2)(H:d.length<63)
  (h:∀D k G,iJ prog w D s.heap.objs.size G->F_ G d->G.length<=d.length->(∀b o,s.heap.get? b=on o->D.get? b=on o)->Q (.ref s.heap.objs.size) {s with heap:=D,toks:=k}):O6 (Po prog w) A (VL (.type "set") [.ref l]) Q E s:=by
 have T:=PySem.F.called_set;obtain⟨c,tl,P⟩:=T.mro;have z1:=T.made;have z2:=T.sub;have z3:=T.notType;have z4:=T.canCreate;have z5:=PySem.F.typeCall_set_1<|.ref l;refine Xp<|Vh (show O6 _ _ (callAny (.type "set") _) _ _ _ from OG ⟨X5 _ (by decide +kernel),Sx PySem.F.entry_type_call ?_⟩);rw[Xs (weight_type_call_type "set" [.ref l] []) rfl]
 repeat (any_goals (first|assumption|wp_step))
 refine SW (Lu (.ref l) (E:=E) (Q₁:=λo f=>o= .ref s.heap.objs.size/\f={s with heap:=s.heap.push (z_ w)}) ⟨rfl,rfl⟩) λr f I=>?_;rcases o1 I with⟨_,rfl,rfl,rfl⟩|⟨e,rfl,I⟩
 case inr=>exact I
 have S:(s.heap.push<|z_ w).get? s.heap.objs.size=on (z_ w):=O5 _ rfl;have hT:Wv {s with heap:=s.heap.push (z_ w)} (.ref s.heap.objs.size) "set":=⟨_,S,rfl⟩;have z6:=T.init.lookup;have z7:=T.init.bind<|.ref s.heap.objs.size
 repeat (any_goals (first|assumption|wp_step))
 refine SW (Vy (R:=wants (λr g=>r= .none/\∃D k G,g={s with heap:=D,toks:=k}/\iJ prog w D s.heap.objs.size G/\F_ G d/\G.length<=d.length/\∀b o,s.heap.get? b=on o->D.get? b=on o) E) T.init.plain PySem.F.entry_set_init<|check_set_init_1 hT ?_) λV g a=>?_
 .obtain⟨J,n,i,nl,j⟩:=y
  have p:l<s.heap.objs.size:=Ph n;have t:(s.heap.push<|z_ w).get? l=on J:=OH _ n;have u:(s.heap.push<|z_ w).IsList l (d.map λz=>Pc z.2).toArray:=⟨J,t,i,nl,j⟩;obtain⟨x,L,N,v⟩:=J;simp only at i j;subst i;subst j;have y1:=PySem.F.sub_list_set;have y2:=PySem.F.sub_list_frozenset;have y3:(R7 "list"==R7 "dict")=OO:=by decide
  unfold Builtin.«set.__init__» noKeywords Builtin.Frozenset.updateFrom;generalize O:Va=PI
  wp_walk
  subst O;refine Tx u<|My<|Xr ?_;have K:(s.heap.push<|z_ w).objs.size=s.heap.objs.size+1:=QD ..;have n1:l≠(s.heap.push<|z_ w).objs.size:=by rw[K];exact PQ<|Rp p
  have n2:s.heap.objs.size∉[(s.heap.push<|z_ w).objs.size,l]:=by
   rw[K];simp only[OQ,PV,RB,V0];exact⟨PQ<|Rz _,RT p⟩
  have W:=(Walks.list (prog:=prog) (w:=w) (A:=A.in1.in1.in1) (by simp[hh]) _ l n1 (d.map λz=>Pc z.2).toArray).toS;simp only[O7,OC,Tl]at W;refine FJ W s.heap.objs.size n2 ?_ H d.length 0 _ [] (by lia) ⟨⟨_,O5 _ rfl,rfl,rfl⟩,u.push _⟩ (Nj<|OH _ S) ⟨λ_ z=>(nomatch z),λ_ z=>(nomatch z)⟩ (OX _) (λz H=>?_) λs' U M T C y=>?_
  .have e:∀B:Qc,B.in1.units<=B.units+1:=λB=>OX _
   have X:=e A;have e2:=e A.in1;have e3:=e A.in1.in1;have e4:=e A.in1.in1.in1;lia
  .obtain⟨o,its,m,X,e2⟩:=hk z H
   have:=Ph X;refine⟨⟨o,its,m,OH _<|OH _ X,e2⟩,PQ this,?_⟩;rw[K];simp only[OQ,PV,RB];exact PQ<|Rp this
  .obtain⟨D,g',d',Y,Z⟩:=s'
   obtain rfl:g'=s.gens:=M.gens;obtain rfl:d'=s.drawn:=M.drawn;obtain rfl:Z=s.os:=M.os;refine OG (show O6 _ _ (ret P7) _ _ _ from OG ⟨rfl,D,Y,U,rfl,T,C,y,λb o e=>?_⟩);have:=Ph e;exact M.heap b o (by rw[K];simp only[OQ,PV,RB,V0];exact⟨PQ this,PQ<|Rp this⟩)<|OH _<|OH _ e
 .rcases o1 a with⟨_,rfl,rfl,D,k,G,rfl,q⟩|⟨e,rfl,a⟩
  case inr=>exact a
  repeat (any_goals (first|assumption|wp_step))
  exact h D k G q.1 q.2.1 q.2.2.1 q.2.2.2
end
end L2.Hs
namespace L2.Hs
section
variable{X:Cx}
theorem vO:∀{c:a0l} {w:a0g},aB (c.map λz=>V.ref z.2) w->w=c.map λz=>Pc z.2
 |[],_,h=>by cases h;rfl
 |z::c,_,h=>by
  cases h with
  |cons a b=>rw[show _=_ from a,vO b];rfl
theorem F_.len{w a:a0l}(c:F_ w a)(D:(a.map (·.1)).Nodup)(h:w.length<=a.length):w.length=a.length:=by
 have:=Pu.nd_len (m:=w.map (·.1)) D λx b=>by
  obtain⟨z,d,rfl⟩:=OZ.mp b;exact c.key z d
 rw[OC,OC]at this;lia
def qK(P:Py)(w:PD)(K:Pa):a0i->Hp->VK->Prop:=λE H Q=>∃(a:ON) (b:a0l),E=[.ref a]/\eg K H a (b.map λz=>V.ref z.2)/\(∀z∈b,g_ K H z.2<|z.1.map V.int)/\(b.map (·.1)).Nodup/\b.length<63/\
 ∀l D,H l=OD->D.length=b.length->Q (.ref l) (upd H l<|ku P w l D)
theorem Fc(e:X.calm=OK)(f:X.A.units+8<TN):cK X (.type "set") (qK X.prog X.w X.K):=by
 intro b s C H J L Q I r h;obtain⟨a,F,rfl,M,g,P,S,q⟩:=h;obtain⟨u,rfl,rfl⟩:=hV r;obtain⟨N,i,p,_⟩:=I.list M;have d:=p.isList;rw[vO i]at d;refine Fb (I.ok.hd e) f d (λz j=>mj I<|g z j) S λO k E T c l D=>?_;have G:s.heap.objs.size<=s.heap.objs.size:=OX _;obtain⟨o,V,x,t,m,n,v,y,h5,_,B⟩:=T;exact⟨.ref s.heap.objs.size,_,I.laid (t':=k) (o:=ku X.prog X.w s.heap.objs.size E) D G<|rT ⟨o,V,x,t,m,n,v,y,h5,B⟩,rfl,q _ E (I.hok.fresh G)<|c.len P l⟩
def Nm(P:Py)(w:PD):a0i->Hp->VK->Prop:=λE H Q=>∃a D,E=[.ref a]/\H a=on (ku P w a D)/\D.length<63/\Q (.int D.length) H
theorem Fe:cK X (.builtin "len") (Nm X.prog X.w):=by
 intro c s j H K M Q I r h;obtain⟨a,D,rfl,E,P,q⟩:=h;obtain⟨u,rfl,rfl⟩:=hV r;obtain⟨o,G,S,t,d,e,f,g,h5,i,_⟩:=(I.hok a _ E).1;have b:G.size=D.length:=by rw[<-Pq,g,OC]
 refine call_len_set d e f (i.fits<|by rw[OC,b]) (by lia) ⟨.int D.length,H,I.tok _,⟨_,by rw[b]⟩,q⟩
end
end L2.Hs
namespace L2.Pu
open L2.Hs
open Classical in
def oG:D->a0k
 | .lst ds=>if ∃w:LI,ds=w.map ix/\w.Nodup/\w.length<63 then on (.int ds.length)else OD
 |_=>OD
theorem EC{w:LI}(D:w.Nodup)(h:w.length<63):oG (.lst<|w.map ix)=on (.int w.length):=by
 unfold oG
 dsimp only
 rw[OS ⟨w,rfl,D,h⟩,OC]
theorem xP{K:Pa}:∀{D:LI} {w:a0i},ba K F H (D.map ix) w->∃a:a0l,a.map (·.1)=D/\w=a.map (λz=>V.ref z.2)/\∀z∈a,g_ K H z.2<|z.1.map V.int
 |[],w,h=>⟨[],rfl,h,λ_ z=>(nomatch z)⟩
 |k::D,w,h=>by
  obtain⟨x,r,rfl,c,d⟩:=h;obtain⟨b,rfl,E⟩:=o3 c;obtain⟨a,rfl,rfl,q⟩:=xP d;refine⟨(k,b)::a,rfl,rfl,λz hz=>?_⟩;rcases OQ.mp hz with rfl|hz
  .exact E
  .exact q z hz
section
variable{X:Cx}{E:a0s}{e:Expr}{w p x s:TF}{f:FD}{k:Nat}
theorem FI(i:dv k X.A)(j:X.calm=OK)(m:X.mg "len"=OD)(n:X.mg "set"=OD)(o:PE X e<|tV X.K f E)(q:Gl X "len":=by rfl)(u:Gl X "set":=by rfl)
  (g:b0a X e []:=by rfl) (h:O1 [Expr.Call (.Name "set" x) [e] [] s] X.env=(OO,Qh (.Call (.Name "set" x) [e] [] s) X.env)::O1 [] X.env:=by rfl)
  (G:b0b X s []:=by rfl) (M:b0b X w []:=by rfl):
  PE X (.Call (.Name "len" p) [.Call (.Name "set" x) [e] [] s] [] w) (tV X.K (f1 oG f) E):=
 (j3 Fe q m Wd (eF (ng (Fc j<|Qp (Vm (by decide:8<=64) _) i.units) u n Boot.«set» (eF o ii g) (by decide) (by decide) g G) ii h) (by decide) (by decide) h M).imp λO H Q c=>by
  obtain⟨F,P,S,fr,y,r⟩:=c;refine⟨F,P,S,fr,y,(run.bind (R:=b5 X.K F) r).mono λv T c=>l0 c λd z t U W=>?_⟩;obtain⟨d3,b,B⟩:=run.ofO W;unfold oG at b;split at b
  case h_2=>cases b
  rename_i ds;split at b
  case isFalse=>cases b
  rename_i C;obtain⟨ks,rfl,Y,D⟩:=C;cases b;obtain⟨a,xs,rfl,Z,dl⟩:=b5.sqL U;obtain⟨I,rfl,rfl,J⟩:=xP dl;refine⟨a,I,rfl,Z,J,Y,by rwa[OC]at D,λl ys L N=>?_⟩;refine⟨l,ys,rfl,ax,by rw[OC]at D;lia,?_⟩;refine B _ _ (t.fr.upd _ L) ?_;show V.int _=V.int _;rw[OC,OC,N]
end
end L2.Pu
namespace Law
open L2 L2.Pu
open L2.Hs (vU EJ l6 x8)
noncomputable def c4(i:Nat):Qd:=PySem.Challenge.pw_edgetally_k47_whole_loops_lead_there.main.body.getD i<|.Pass ⟨0,0,0,0⟩
abbrev oq:Qd:=c4 77
set_option genSizeOf false in
set_option genInjectivity false in
structure Ad where
 Aa:ON
 Ab:ON
 Ac:Pd
 Ae:ON
 Af:ON
 Ag:Pd
 Ah:ON
 Ai:Pd
 Aj:ON
 Ak:Pd
 Am:ON
 An:Pd
 Ao:ON
 Aq:Pd
 Ar:ON
 As:Pd
 At:ON
 Au:Pd
 Av:ON
 Aw:Pd
 Ax:ON
 Ay:Pd
 Az:ON
 A0:Pd
 A1:ON
 A2:Pd
 A3:ON
 A4:Pd
 A5:ON
 A6:Pd
 A7:ON
 A8:Pd
 A9:ON
 Ba:Pd
 Bb:ON
 Bc:Pd
 Bd:ON
 Be:Pd
 Bf:ON
 Bh:Pd
 Bi:ON
 Bj:Pd
 Bl:ON
 Bm:Pd
 Bn:ON
 Bo:Pd
 Bp:ON
 Bq:Pd
 Br:ON
 Bs:Pd
 Bt:ON
 Bu:Pd
 Bv:ON
 Bw:Pd
 Bx:ON
 By:Pd
 Bz:ON
 B0:Pd
 B5:ON
 B7:Pd
 B8:ON
 Ca:Pd
 Cb:ON
 Cc:Pd
 Cd:ON
 Cf:Pd
 Cg:ON
 Ch:Pd
 Ci:ON
 Cj:Pd
 Ck:ON
 Cl:Pd
 Cm:ON
 Cn:Pd
 Co:ON
 Cp:Pd
 Cq:ON
 Cr:Pd
 Cs:ON
 Ct:Pd
 Cu:ON
 Cv:Pd
 Cw:ON
 Cy:Pd
 Cz:ON
 C0:Pd
 C2:ON
 C4:Pd
 C5:ON
 C6:Pd
 C7:ON
 C8:Pd
 C9:ON
 Da:Pd
 Db:ON
 Dc:Pd
 Dd:ON
 Df:Pd
 Dg:ON
 Dh:Pd
 Di:ON
 Dj:Pd
 Dl:ON
 Dm:Pd
 Do:ON
 Dp:Pd
 Dq:ON
 Dr:Pd
 Dt:ON
 Du:Pd
 Dv:ON
 Dw:Pd
 Dx:ON
 Dy:Pd
 Dz:ON
 D3:Pd
 D4:ON
 D5:Pd
 D6:ON
 D7:Pd
 D8:ON
 D9:Pd
 Ea:ON
 Eb:Pd
 Ec:ON
 Ed:Pd
def FnL(K:Pa)(mg:a0j)(a:Ad):List Prop:=[
 o7 K mg "MOST" (.int 40),
 o7 K mg "MOST_COLUMNS" (.int 6),
 o7 K mg "MOST_ROWS" (.int 4),
 o7 K mg "WIDE" (.int 500),
 hL K "free" "free" (c4 15) a.Af a.Ag,
 mg "free"=on (.ref a.Af),
 db K a.Ag ["rows","columns","pair"] [.tup [.int 0,.int 40]],
 fx K mg "check_rows" (c4 16) a.Ah a.Ai ["rows"],
 fx K mg "check_sums" (c4 17) a.Aj a.Ak ["rowsums","columnsums"],
 fx K mg "check_pair" (c4 18) a.Am a.An ["pair"],
 fx K mg "settled_bounds" (c4 19) a.Ao a.Aq ["bounds","rows","columns"],
 fx K mg "rows_turned" (c4 20) a.Ar a.As ["rows"],
 fx K mg "sums_of" (c4 22) a.At a.Au ["rows"],
 fx K mg "gaps_between" (c4 23) a.Av a.Aw ["one","other"],
 fx K mg "first_giving" (c4 24) a.Ax a.Ay ["gaps"],
 fx K mg "giving_column" (c4 25) a.Az a.A0 ["gaps","row"],
 fx K mg "taking_row" (c4 26) a.A1 a.A2 ["gaps","column"],
 fx K mg "loop_cells" (c4 27) a.A3 a.A4 ["gaps","row"],
 fx K mg "walked" (c4 28) a.A5 a.A6 ["rows","loop"],
 fx K mg "loops" (c4 29) a.A7 a.A8 ["one","other"],
 fx K mg "factorial" (c4 31) a.A9 a.Ba ["number"],
 fx K mg "ways" (c4 32) a.Bb a.Bc ["parts"],
 fx K mg "fillings" (c4 33) a.Bd a.Be ["rests","many","pairs"],
 fx K mg "need_of" (c4 35) a.Bf a.Bh ["rowsums","over"],
 fx K mg "room_inside" (c4 36) a.Bi a.Bj ["columnsums","bounds","over","column"],
 fx K mg "room_beside" (c4 37) a.Bl a.Bm ["bounds","over","column"],
 fx K mg "room_of" (c4 38) a.Bn a.Bo ["columnsums","bounds","over","into"],
 fx K mg "narrowest" (c4 39) a.Bp a.Bq ["columnsums","bounds","over"],
 fx K mg "choices" (c4 40) a.Br a.Bs ["many"],
 fx K mg "check_fit" (c4 41) a.Bt a.Bu ["rowsums","columnsums","bounds"],
 fx K mg "check_wide" (c4 44) a.Bv a.Bw ["rowsums"],
 fx K mg "settled_for_net" (c4 45) a.Bx a.By ["rowsums","columnsums","bounds"],
 fx K mg "column_fillings" (c4 46) a.Bz a.B0 ["rests","columnsums","bounds","column"],
 fx K mg "rests_behind" (c4 47) a.B5 a.B7 ["rests","counts"],
 fx K mg "nodes_by_level" (c4 48) a.B8 a.Ca ["rowsums","columnsums","bounds"],
 fx K mg "node_counts" (c4 49) a.Cb a.Cc ["rests","filled","behind"],
 fx K mg "counted_nodes" (c4 50) a.Cd a.Cf ["rowsums","columnsums","bounds"],
 fx K mg "check_number" (c4 53) a.Cg a.Ch ["k","many"],
 fx K mg "steps_counted" (c4 54) a.Ci a.Cj ["net","level","rests"],
 fx K mg "falls_to" (c4 55) a.Ck a.Cl ["numbered","k"],
 fx K mg "kth_table" (c4 56) a.Cm a.Cn ["net","k"],
 fx K mg "columns_asked" (c4 57) a.Co a.Cp ["net","rows"],
 fx K mg "counted_ahead" (c4 58) a.Cq a.Cr ["net","level","rests","filling"],
 fx K mg "number_of" (c4 59) a.Cs a.Ct ["net","rows"],
 fx K mg "_law_bag" (c4 61) a.Cu a.Cv ["_law_script"],
 fx K mg "_law_pull" (c4 62) a.Cw a.Cy ["_law_bag_here","_law_lot"],
 fx K mg "_law_grid" (c4 63) a.Cz a.C0 ["_law_bag_here","_law_block","_law_columns","_law_things"],
 fx K mg "_law_wide" (c4 64) a.C2 a.C4 ["_law_bag_here"],
 fx K mg "_law_large" (c4 65) a.C5 a.C6 ["_law_bag_here"],
 fx K mg "_law_turned" (c4 66) a.C7 a.C8 ["_law_block"],
 fx K mg "_law_rowsums" (c4 67) a.C9 a.Da ["_law_grid_here"],
 fx K mg "_law_columnsums" (c4 68) a.Db a.Dc ["_law_grid_here"],
 fx K mg "_law_free" (c4 69) a.Dd a.Df ["_law_block","_law_columns"],
 fx K mg "_law_bounds" (c4 70) a.Dg a.Dh ["_law_bag_here","_law_grid_here"],
 fx K mg "_law_copied" (c4 71) a.Di a.Dj ["_law_block"],
 fx K mg "_law_net" (c4 72) a.Dl a.Dm ["_law_grid_here","_law_limits"],
 fx K mg "_law_good" (c4 73) a.Do a.Dp ["_law_block","_law_rowsums_here","_law_columnsums_here","_law_limits"],
 fx K mg "_law_whole" (c4 74) a.Dq a.Dr ["_law_found"],
 fx K mg "_law_form" (c4 75) a.Dt a.Du ["_law_loop","_law_block"],
 fx K mg "_law_toward" (c4 76) a.Dv a.Dw ["_law_loop","_law_one","_law_other"],
 hL K "__init__" "Net.__init__" (eL (c4 51) 0) a.Dx a.Dy,
 Mk K a.Ae a.Dx,
 B6 K a.Dy ["self","rowsums","columnsums","bounds"] ["bounds"] 3 [.kw 0],
 hL K "tables" "Net.tables" (eL (c4 51) 7) a.Dz a.D3,
 mn K a.Ae "tables" a.Dz,
 dH K a.D3 ["self"] [],
 hL K "counts_at" "Net.counts_at" (eL (c4 51) 6) a.D4 a.D5,
 mn K a.Ae "counts_at" a.D4,
 dH K a.D5 ["self","level","rests"] [],
 hL K "rowsums" "Net.rowsums" (eL (c4 51) 3) a.D6 a.D7,
 mn K a.Ae "rowsums" a.D6,
 dH K a.D7 ["self"] [],
 hL K "columnsums" "Net.columnsums" (eL (c4 51) 4) a.D8 a.D9,
 mn K a.Ae "columnsums" a.D8,
 dH K a.D9 ["self"] [],
 hL K "steps" "Net.steps" (eL (c4 51) 9) a.Ea a.Eb,
 mn K a.Ae "steps" a.Ea,
 dH K a.Eb ["self","level","rests"] [],
 ro K a.Ae,
 mg "Net"=on (.ref a.Ae),
 fq K a.Ae "column_list",
 fq K a.Ae "counted",
 fq K a.Ae "pairs",
 fq K a.Ae "row_list",
 hL K "__init__" "EdgeError.__init__" (eL (c4 2) 0) a.Ab a.Ac,
 dH K a.Ac ["self","word","why"] [],
 mg "EdgeError"=on (.ref a.Aa),
 Zi K a.Aa "__init__" a.Ab]
structure vu (K:Pa) (mg:a0j) (a:Ad):Prop where
 Ee:∀i,(FnL K mg a).getD i True
 Ef:mg "ValueError"=OD
 Eg:mg "abs"=OD
 Eh:mg "any"=OD
 Ei:mg "bool"=OD
 Ej:mg "enumerate"=OD
 Ek:mg "int"=OD
 El:mg "isinstance"=OD
 Em:mg "len"=OD
 En:mg "list"=OD
 Eo:mg "max"=OD
 Ep:mg "min"=OD
 Er:mg "range"=OD
 Es:mg "reversed"=OD
 Et:mg "set"=OD
 Eu:mg "sorted"=OD
 Ev:mg "sum"=OD
 Ew:mg "tuple"=OD
 Ex:mg "zip"=OD
section
variable{P:Py}{w:PD}{K:Pa}{mg:a0j}{aa:PZ}{a:Ad}
theorem kE:bt ["_law_bag_here","_law_lot","_law_cells","_law_at","_law_cell"] ["_law_bag_here","_law_lot"] (ag<|c4 62):=e_
theorem DK(N:vu K mg a):fw P w K mg aa (hE P w) 2 a.Cw a.Cy ["_law_bag_here","_law_lot"] (Ic K 2 cU):=by
 refine(N.1 45).F.ok (k:=1) kE (λvs H Q E h=>h.1) (λY A x s H vs Q E hr h=>?_);obtain⟨_,F,ds,D,fr,hd,r,Z,e,k⟩:=h;obtain⟨G,rfl,ok,I,h1,rfl,rfl⟩:=DU e;obtain⟨v,w',rfl,d1,d2⟩:=ba.two hd;unfold b5 at d1;obtain⟨b,l,d,rfl⟩:=d1;cases d2.int;obtain⟨t,J⟩:=fr.bag b l d;obtain⟨ab,al,m⟩:=fr.bgA b l d;obtain⟨W,L,ac,X⟩:=ok.at;obtain⟨_,_,ad,_⟩:=xS ok I;have M:((D.cells.map V.int).length:Int)=(D.cells.length:Int):=by rw[OC]
 have O:p0 (D.cells.map V.int) (D.pos:Int)=on (.int D.cell):=J8 (by rw[OI,L];rfl);refine⟨_,dB (qP (i:=2) kE.nd rfl (QY rfl)<|ig eK (pv 0) b9 (λ_ _=>rfl))
  (dB (qP (i:=3) kE.nd rfl (QY rfl)<|eU fY (ig eK (pv 0) b9 (λ_ _=>rfl))<|j3 nU (by rfl) N.Em Wd<|eF (pv 2) ii)
  (dB (qP (i:=4) kE.nd rfl (QY rfl)<|ig eK (pv 2) (pv 3) (λ_ _=>rfl))
  (dB (HN (xT uF (pv 4) (eU Lb b9 b9)<|v3 _)
   (dB (fW (eU x9 (pv 4)<|pv 1)<|lH (pv 2) (pv 3) gL)<|oy<|au<|eU fY (pv 4)<|pv 1) se)
  (dB (fW (eU qR (ig eK (pv 0) b9 (λ_ _=>rfl)) b9)<|lH (pv 0) b9 gL)
  (dB (fW (eU fY (eU Ld (eU qR (eU qR (ig eK (pv 0) b9 (λ_ _=>rfl))<|eU fY (pv 4) b9) b9) b9) b9)<|lH (pv 0) b9 gL)
  (oy<|au<|eU fY (eU x9 (ig eK (pv 0) b9 (λ_ _=>rfl)) b9)<|pv 1)))))),?_⟩
 refine⟨_,rfl,b,_,_,_,rfl,rfl,eg.of t,rfl,?_⟩;refine⟨_,rfl,b,_,_,_,rfl,rfl,eg.of t,rfl,_,rfl,l,_,rfl,.inl<|eg.of J,_,_,rfl,rfl,?_,?_⟩
 .have:=W
  rw[M];lia
 refine⟨_,rfl,_,rfl,l,_,_,_,rfl,rfl,eg.of J,by rw[M,X];exact O,?_⟩;refine⟨_,rfl,_,_,rfl,rfl,⟨by decide,by decide,by decide⟩,_,_,rfl,rfl,_,rfl,?_⟩;have S:∀{R:Hp} {p:ON} {o:HO},(∀c,F.A c->R c≠OD)->∀c,F.A c->upd R p o c≠OD:=λ{R p o} f c u z=>by
  by_cases q:c=p
  .subst q;rw[ax]at z;cases z
  .rw[bb q]at z;exact f c u z
 refine ite2 (λg=>?_) (λg=>?_)
 .have big:(10:Int)^18<=D.cell:=QG g
  refine⟨_,rfl,_,rfl,_,_,rfl,rfl,⟨I,h1⟩,_,rfl,_,rfl,l,_,_,D.pos,rfl,rfl,J,?_,?_⟩
  .rw[M,X,OC]
   exact JH W
  refine⟨_,rfl,_,rfl,_,_,rfl,rfl,I,?_⟩;have T:kQ D G=D.cell % G:=OS big;have U:l5 D G=⟨D.cells.set D.pos<|D.cell/G,D.i,D.j⟩:=OS big;rw[T,U]at k;refine k _ _ ⟨λc o u n=>by rw[bb (n b l d).2];exact u,S fr.occ,fr.bgA,λb' l' y=>?_⟩ rfl;rw[d]at y;cases y;exact⟨by rw[bb m];exact t,by rw[ax,SH]⟩
 .have big:¬(10:Int)^18<=D.cell:=λq=>g<|O3 q
  refine⟨_,rfl,b,_,_,_,rfl,rfl,eg.of t,rfl,_,_,rfl,rfl,_,rfl,b,_,_,1,rfl,rfl,t,rfl,?_⟩;have B:(upd H b<|.lst [.ref l,.int<|D.i+1,.int D.j]) b=on (.lst [.ref l,.int<|D.i+1,.int D.j]):=ax;refine⟨_,rfl,b,_,_,_,rfl,rfl,eg.of B,rfl,_,rfl,_,_,rfl,rfl,(by show(0:Int)<2147483629;decide),_,_,rfl,rfl,_,_,rfl,rfl,_,_,rfl,rfl,.inr ⟨by decide,by decide⟩,_,_,rfl,rfl,(by show(0:Int)<2147483629;decide),_,rfl,b,_,_,2,rfl,rfl,B,rfl,?_⟩;have C:(upd (upd H b<|.lst [.ref l,.int<|D.i+1,.int D.j]) b<|.lst [.ref l,.int<|D.i+1,.int D.nxt]) b=on (.lst [.ref l,.int<|D.i+1,.int D.nxt]):=ax;refine⟨_,rfl,b,_,_,_,rfl,rfl,eg.of C,rfl,_,_,rfl,rfl,⟨by decide,by decide⟩,_,rfl,_,_,rfl,rfl,I,?_⟩;have T:kQ D G=D.nxt/64 % G:=OR big;have U:l5 D G=⟨D.cells,D.i+1,D.nxt⟩:=OR big;rw[T,U]at k;refine k _ _ ⟨λc o u n=>by rw[bb (n b l d).1,bb (n b l d).1];exact u,S<|S fr.occ,fr.bgA,λb' l' y=>?_⟩ rfl;rw[d]at y;cases y;exact⟨C,by rw[bb m.symm,bb m.symm];exact J⟩
theorem F4:bt ["_law_script"] ["_law_script"] (ag<|c4 61):=e_
theorem nd1:(["_law_cell"]:a0h).Nodup:=by decide +kernel
theorem Gh(N:vu K mg a):fw P w K mg aa (hE P w) 1 a.Cu a.Cv ["_law_script"] (Ni K):=by
 refine(N.1 44).F.ok F4 (λS H Q E h=>?_) (λY A M s H S Q E hr h=>?_)
 .obtain⟨a,ns,rfl,_⟩:=h
  rfl
 .obtain⟨a,ns,rfl,Z,k⟩:=h
  refine⟨_,oy<|au<|fi<|eF (eU Lg (oz rfl (cp:=["_law_cell"]) (cy.plain rfl (by decide +kernel)<|by decide +kernel) (Jd<|vT xH (pv 0) xX<|xW b9)
   (λcl C fp s H=>⟨xZ (i:=0) nd1 rfl<|QY rfl,vS,λD=>aG rfl (j3 w4 (by rfl) N.Eg Boot.«abs»<|eF (pv 0) ii) rfl⟩))<|fi<|eF b9 ii)<|eF b9<|eF b9 ii,?_⟩
  obtain⟨q,J,ab⟩:=Oz ns;refine⟨_,rfl,63,rfl,a,_,rfl,Z,λp hp=>?_⟩;rw[J];have O:bY H (upd H p<|.lst<|q.map V.int):=bY.upd hp;refine⟨p,rfl,⟨_,eg.of ax⟩,λD B=>?_⟩;have r:D≠p:=λz=>by subst z;rw[ax]at B;cases B
  refine AK (xs:=q.map V.int) (λi I g=>∃G:a0c,(∃v,I=[v])/\G.length=i/\(∀c∈G,0<=c)/\g D=on (.lst<|G.map V.int)/\g p=on (.lst<|q.map V.int)/\bY H g) ⟨[],⟨_,rfl⟩,rfl,(λ_ h=>nomatch h),ax,by rw[bb r.symm,ax],O.trans<|bY.upd B⟩
   (λi I g _ ⟨_,_,_,_,_,e,_⟩=>eg.of e) ?_ ?_
  .rintro i x I g n ⟨G,⟨v,rfl⟩,l,m,d,t,u⟩
   have ac:i<q.length:=by have:=(OM.mp n).1;rwa[OC]at this
   obtain⟨z,rfl⟩:∃z,x=V.int z:=by
    rw[OI]at n;cases e:q[i]? with
    |none=>rw[e]at n;cases n
    |some z=>rw[e]at n;exact⟨z,(Pn n).symm⟩
   unfold gc Kr;refine iteT ?_;refine⟨_,rfl,_,rfl,G.map V.int,d,by rw[OC];exact tz (by lia),G++[if z<0 then -z else z],⟨_,rfl⟩,by rw[O8,l];rfl,λc hc=>?_,by rw[ax,Pw];rfl,by rw[bb r.symm];exact t,λb o e=>?_⟩
   .rcases P4.mp hc with hc|hc
    .exact m c hc
    .obtain rfl:c=_:=by simpa using hc
     split<;>lia
   .rw[bb<|aI e<|O.free B]
    exact u b o e
  .rintro I g ⟨G,⟨v,rfl⟩,l,m,d,t,u⟩
   rw[OC]at l;refine⟨by decide,λR j=>⟨D,R,_,_,rfl,rfl,by rw[bb<|aI d j];exact d,ax,by rw[OC];exact UT (tz<|by simp;lia),λT y=>⟨(by show 3<=Pe;decide),λU f=>?_⟩⟩⟩;have W:bY g (upd g R<|.lst [V.int 1]):=bY.upd j;have X:=W.trans<|bY.upd (o:= .lst<|G.map V.int++[V.int 1]) y;have L:T≠U:=λz=>by subst z;rw[ax]at f;cases f
   refine k U T _ ((u.trans X).free f) ((u.trans W).free y) ⟨G++[1],0,0,ax,by rw[bb L,ax,Pw];rfl,by simp,by rw[O8];simp;lia,λc hc=>?_,by decide⟩<|(u.trans X).trans<|bY.upd f;rcases P4.mp hc with hc|hc
   .exact m c hc
   .obtain rfl:c=1:=by simpa using hc
    decide
theorem bw(N:vu K mg a):FB P w K mg aa 2 "_law_pull" a.Cw a.Cy ["_law_bag_here","_law_lot"] 2 cU:=⟨DK N,(N.1 45).m,(N.1 45).F.kp,(N.1 45).b⟩
abbrev QF(K:Pa)(a:Ad)(k:Nat)(x:PP)(f:ON)(d:Pd)(E:a0h)(n:Nat):={m:a0e->M D//∀{P:Py} {w:PD} {mg:a0j} {aa:PZ} (N:vu K mg a),FB P w K mg aa k x f d E n m}
abbrev QM(K:Pa)(a:Ad)(k:Nat)(f:ON)(d:Pd)(E:a0h)(n:Nat):={m:a0e->M D//∀{P:Py} {w:PD} {mg:a0j} {aa:PZ} (N:vu K mg a),fw P w K mg aa (hE P w) k f d E (Ic K n m)}
theorem IU:bt ["rows","columns","pair"] ["rows","columns","pair"] (ag<|c4 15):=e_
def KR(K:Pa)(a:Ad):QM K a 2 a.Af a.Ag ["rows","columns","pair"] 3:=⟨_,λN=>by
 exact k6 (k:=1) 3 3 _ (N.1 4) IU rfl rfl λb A w s H E d=>ah<|aC<|au<|bf rfl (f_ ["row","pair","columns"] ["row"] [2,1]) (bZ (by rfl) N.Er<|cx<|vv 0) (λG C c s H=>⟨(dc 0 en),aN,λD=>aG rfl (bf rfl (f_ ["column","pair"] ["column"] [1]) (bZ (by rfl) N.Er<|cx<|vv 2) (λG C c s H=>⟨(dc 0 en),aN,λD=>aG rfl (vv 1) rfl⟩) aq aw (λD=>aJ)) rfl⟩) aq aw (λD=>aJ)⟩
theorem mC:bt ["rows","columns"] ["rows"] (ag<|c4 16):=e_
def ie(K:Pa)(a:Ad):QF K a 2 "check_rows" a.Ah a.Ai ["rows"] 1:=⟨_,λN=>by
 exact gl 2 (N.1 7) mC λc A w s H E d=>ad (bA (c9<|k8 gB gB jq jq (aj) (bF N.Em<|cx<|vv 0)<|iX<|N.1 2) (ah<|bV)<|aZ)
   (ad (aF<|d_ 1 mC.nd<|bF N.Em<|cx<|aS ay aT (vv 0)<|aj)
   (ad (bA (c9<|k8 gB gB jq jq (aj) (vv 1)<|iX<|N.1 1) (ah<|bV)<|aZ)
   (ad (bA (cT<|bU (g9 rfl) oK (by rfl) N.Eh Boot.«any»<|cx<|bf rfl (f_ ["counts","columns"] ["counts"] [1]) (aX<|vv 0) (λG C b s H=>⟨(dc 0 en),aN,λD=>aG rfl (iO (cP d) dR (bF N.Em<|cx<|vv 0)<|vv 1) rfl⟩) aq aw (λD=>aJ)) (ah<|bV)<|aZ)
   (ad (bA (cT<|bU (g9 rfl) oK (by rfl) N.Eh Boot.«any»<|cx<|bf rfl (f_ ["counts","count"] ["counts","count"] []) (aX<|vv 0) (λG C b s H=>⟨(dc 0 en),aN,λD=>oB rfl rfl rfl (aX<|vv 0) (dc 1 en) (aN)<|aG rfl (iO f9 iG (vv 1)<|aj) rfl⟩) aq aw (λD=>yf aq aw<|aJ)) (ah<|bV)<|aZ)
   (ah<|bA (aQ jD me (gJ N.Ev<|cx<|bf rfl (f_ ["counts"] ["counts"] []) (aX<|vv 0) (λG C b s H=>⟨(dc 0 en),aN,λD=>aG rfl (gJ N.Ev<|cx<|vv 0) rfl⟩) aq aw (λD=>aJ))<|iX<|N.1 0) (ah<|bV)<|aZ)))))⟩
theorem uy:bt ["rowsums","columnsums"] ["rowsums","columnsums"] (ag<|c4 17):=e_
def jY(K:Pa)(a:Ad):QF K a 2 "check_sums" a.Aj a.Ak ["rowsums","columnsums"] 2:=⟨_,λN=>by
 exact gl 2 (N.1 8) uy λb A w s H E c=>ad (bA (c9<|k8 gB gB jq jq (aj) (bF N.Em<|cx<|vv 0)<|iX<|N.1 2) (ah<|bV)<|aZ)
   (ad (bA (c9<|k8 gB gB jq jq (aj) (bF N.Em<|cx<|vv 1)<|iX<|N.1 1) (ah<|bV)<|aZ)
   (ad (bA (cZ<|dm (cT<|bU (g9 rfl) oK (by rfl) N.Eh Boot.«any»<|cx<|bf rfl (f_ ["many"] ["many"] []) (aX<|vv 0) (λG C d s H=>⟨(dc 0 en),aN,λD=>aG rfl (iO f9 iG (vv 0)<|aj) rfl⟩) aq aw (λD=>aJ))<|dY<|cT<|bU (g9 rfl) oK (by rfl) N.Eh Boot.«any»<|cx<|bf rfl (f_ ["many"] ["many"] []) (aX<|vv 1) (λG C d s H=>⟨(dc 0 en),aN,λD=>aG rfl (iO f9 iG (vv 0)<|aj) rfl⟩) aq aw (λD=>aJ)) (ah<|bV)<|aZ)
   (ad (bA (aQ (cP c) dR (gJ N.Ev<|cx<|vv 0)<|gJ N.Ev<|cx<|vv 1) (ah<|bV)<|aZ)
   (ah<|bA (aQ jD me (gJ N.Ev<|cx<|vv 0)<|iX<|N.1 0) (ah<|bV)<|aZ))))⟩
theorem jk:bt ["pair","low","high"] ["pair"] (ag<|c4 18):=e_
def jZ(K:Pa)(a:Ad):QF K a 2 "check_pair" a.Am a.An ["pair"] 1:=⟨_,λN=>by
 exact gl 3 (N.1 9) jk λb A w s H E c=>ad (qG (cR (aM aA<|aM aA cb)<|aL<|aL bR)<|fW (vv 0)<|bB rfl<|ar (dc 1 jk.nd)<|ar (dc 2 jk.nd) bq)
   (ah<|bA (c9<|FP gB gB gB jq jq jq (aj) (vv 1) (vv 2)<|iX<|N.1 0) (ah<|bV)<|aZ)⟩
theorem ge:bt ["bounds","rows","columns","pairs","pair"] ["bounds","rows","columns"] (ag<|c4 19):=e_
def dA(K:Pa)(a:Ad):QF K a 3 "settled_bounds" a.Ao a.Aq ["bounds","rows","columns"] 3:=⟨_,λN=>by
 exact gl 5 (N.1 10) ge λd A w s H E b=>ad (bA (aQ Le NI (vv 0)<|yP) (ah<|aC<|au<|IF ((KR K a).2 N) (b.mono<|by decide) (by rfl) (N.1 5) (N.1 4).kp (N.1 6) eV (dk (vv 1)<|vv 2) (λG M r c h=>by rw[(bO<|bO L_) G M r c h];rfl))<|aZ)
   (ad (bA (cZ<|dm (aQ (cP b) dR (bF N.Em<|cx<|vv 0)<|vv 1)<|dY<|cT<|bU (g9 rfl) oK (by rfl) N.Eh Boot.«any»<|cx<|bf rfl (f_ ["pairs","columns"] ["pairs"] [2]) (aX<|vv 0) (λP C e s H=>⟨(dc 0 en),aN,λD=>aG rfl (iO (cP b) dR (bF N.Em<|cx<|vv 0)<|vv 1) rfl⟩) aq aw (λD=>aJ)) (ah<|bV)<|aZ)
   (ad (bJ aA<|bx bW rfl (aX<|vv 0) (dc 3 ge.nd)<|ah<|bJ aA<|bx bW rfl (aX<|vv 3) (dc 4 ge.nd)<|ah<|jU<|cw<|vc ((jZ K a).2 N) b<|cx<|vv 4)
   (ah<|aC<|au<|bf rfl (f_ ["pairs"] ["pairs"] []) (aX<|vv 0) (λP C e s H=>⟨(dc 0 en),aN,λD=>aG rfl (cX dD lJ (by rfl) N.En Boot.«list»<|cx<|vv 0) rfl⟩) aq aw (λD=>aJ))))⟩
theorem rV:bt ["rows"] ["rows"] (ag<|c4 20):=e_
def dL(K:Pa)(a:Ad):QF K a 2 "rows_turned" a.Ar a.As ["rows"] 1:=⟨_,λN=>by
 exact gl 1 (N.1 11) rV λb A w s H E d=>ah<|aC<|au<|bf rfl (f_ ["column","rows"] ["column"] [0]) (bZ (by rfl) N.Er<|cx<|bF N.Em<|cx<|aS ay aT (vv 0)<|aj) (λG C c s H=>⟨(dc 0 en),aN,λD=>aG rfl (bf rfl (f_ ["cells","column"] ["cells"] [0]) (aX<|vv 1) (λG C c s H=>⟨(dc 0 en),aN,λD=>aG rfl (aS ay aT (vv 0)<|vv 1) rfl⟩) aq aw (λD=>aJ)) rfl⟩) aq aw (λD=>aJ)⟩
theorem y9:bt ["rows"] ["rows"] (ag<|c4 22):=e_
def m6(K:Pa)(a:Ad):QF K a 3 "sums_of" a.At a.Au ["rows"] 1:=⟨_,λN=>by
 exact gl 1 (N.1 12) y9 λb A w s H E c=>ah<|aC<|au<|cA<|dk (bf rfl (f_ ["counts"] ["counts"] []) (aX<|vv 0) (λG C d s H=>⟨(dc 0 en),aN,λD=>aG rfl (gJ N.Ev<|cx<|vv 0) rfl⟩) aq aw (λD=>aJ))<|bf rfl (f_ ["counts"] ["counts"] []) (aX<|vc ((dL K a).2 N) c<|cx<|vv 0) (λG C d s H=>⟨(dc 0 en),aN,λD=>aG rfl (gJ N.Ev<|cx<|vv 0) rfl⟩) aq aw (λD=>aJ)⟩
theorem qy:bt ["one","other"] ["one","other"] (ag<|c4 23):=e_
def iC(K:Pa)(a:Ad):QF K a 2 "gaps_between" a.Av a.Aw ["one","other"] 2:=⟨_,λN=>by
 exact gl 2 (N.1 13) qy λb A w s H E d=>ah<|aC<|au<|bf rfl (f_ ["counts","others"] ["counts","others"] []) (mr (by rfl) N.Ex<|dk (vv 0)<|vv 1) (λG C c s H=>⟨(bB rfl<|ar (dc 0 en)<|ar (dc 1 en) bq),aN,λD=>aG rfl (bf rfl (f_ ["here","there"] ["here","there"] []) (mr (by rfl) N.Ex<|dk (vv 0)<|vv 1) (λG C c s H=>⟨(bB rfl<|ar (dc 0 en)<|ar (dc 1 en) bq),aN,λD=>aG rfl (br fj gD (vv 1)<|vv 0) rfl⟩) (eG (bj aq<|bj aq dj)<|bh<|bh cE) (eC<|bi aw<|bi aw dh) (λD=>aJ)) rfl⟩) (eG (bj aq<|bj aq dj)<|bh<|bh cE) (eC<|bi aw<|bi aw dh) (λD=>aJ)⟩
theorem ia:bt ["gaps","row","cells"] ["gaps"] (ag<|c4 24):=e_
def di(K:Pa)(a:Ad):QF K a 2 "first_giving" a.Ax a.Ay ["gaps"] 1:=⟨_,λN=>by
 exact gl 3 (N.1 14) ia λb A w s H E c=>ad (bJ (cR (aM aA<|aM aA cb)<|aL<|aL bR)<|bx bW rfl (il (by rfl) N.Ej<|cx<|vv 0) (bB rfl<|ar (dc 1 ia.nd)<|ar (dc 2 ia.nd) bq)<|ah<|bA (aQ jD me (bU (Fd rfl) LF (by rfl) N.Eo Boot.«max»<|cx<|vv 2)<|aj) (ah<|aC<|au<|vv 1)<|aZ)
   (ah<|aC<|au<|yP)⟩
theorem pL:bt ["gaps","row"] ["gaps","row"] (ag<|c4 25):=e_
def kP(K:Pa)(a:Ad):QF K a 2 "giving_column" a.Az a.A0 ["gaps","row"] 2:=⟨_,λN=>by
 exact gl 2 (N.1 15) pL λb A w s H E c=>ah<|aC<|au<|yQ (bf rfl (f_ ["gap"] ["gap"] []) (aX<|aS ay aT (vv 0)<|vv 1) (λG C d s H=>⟨(dc 0 en),aN,λD=>aG rfl (iO jD me (vv 0)<|aj) rfl⟩) aq aw (λD=>aJ))<|cx<|eA⟩
theorem ux:bt ["gaps","column"] ["gaps","column"] (ag<|c4 26):=e_
def m5(K:Pa)(a:Ad):QF K a 2 "taking_row" a.A1 a.A2 ["gaps","column"] 2:=⟨_,λN=>by
 exact gl 2 (N.1 16) ux λb A w s H E c=>ah<|aC<|au<|yQ (bf rfl (f_ ["cells","column"] ["cells"] [1]) (aX<|vv 0) (λG C d s H=>⟨(dc 0 en),aN,λD=>aG rfl (iO f9 iG (aS ay aT (vv 0)<|vv 1)<|aj) rfl⟩) aq aw (λD=>aJ))<|cx<|eA⟩
theorem e9:bt ["gaps","row","come_to","cells","column"] ["gaps","row"] (ag<|c4 27):=e_
def fU(K:Pa)(a:Ad):QF K a 3 "loop_cells" a.A3 a.A4 ["gaps","row"] 2:=⟨_,λN=>by
 exact gl 5 (N.1 17) e9 λc A w s H E b=>ad (kH<|d_ 2 e9.nd<|fi<|fM)
   (ad (kH<|d_ 3 e9.nd<|fi<|fM)
   (ad (rY bW (aQ nh (GK (neg:=OK)) (vv 1)<|vv 2) (ad (jA<|cw<|iU Qo Qv Qw dQ (pv 2)<|cx<|vv 1)
   (ad (aF<|d_ 4 e9.nd<|vc ((kP K a).2 N) b<|dk (vv 0)<|vv 1)
   (ad (jA<|cw<|iU Qo Qv Qw dQ (pv 3)<|cx<|cA<|dk (vv 1)<|vv 4)
   (ad (aF<|d_ 1 e9.nd<|vc ((m5 K a).2 N) b<|dk (vv 0)<|vv 4)
   (ah<|jA<|cw<|iU Qo Qv Qw dQ (pv 3)<|cx<|cA<|dk (vv 1)<|vv 4))))))
   (ah<|aC<|au<|rQ (vv 3) (vV<|br sj zO (aj)<|yQ (vv 2)<|cx<|vv 1)<|vW)))⟩
theorem fP:bt ["rows","loop","many","cells","told","at","row","column"] ["rows","loop"] (ag<|c4 28):=e_
def jW(K:Pa)(a:Ad):QF K a 2 "walked" a.A5 a.A6 ["rows","loop"] 2:=⟨_,λN=>by
 exact gl 8 (N.1 18) fP λb A w s H E c=>ad (qG (cR (aM aA<|aM aA cb)<|aL<|aL bR)<|fW (vv 1)<|bB rfl<|ar (dc 2 fP.nd)<|ar (dc 3 fP.nd) bq)
   (ad (CL (i:=4) fP.nd rfl (by first|exact QY rfl|exact RC rfl) rfl (f_ ["counts"] ["counts"] []) (aX (vv 0)) (λG C d s H=>⟨(dc 0 en),aN,λD=>aG rfl (Gi dD JB (by rfl) N.En Boot.«list»<|cx<|vv 0) rfl⟩) aq aw (λD=>su))
   (ad (bJ (cR (aM aA<|aM (cR (aM aA<|aM aA cb)<|aL<|aL bR) cb)<|aL<|aL bR)<|bx bW rfl (il (by rfl) N.Ej<|cx<|vv 3) (bB rfl<|ar (dc 5 fP.nd)<|ar (bB rfl<|ar (dc 6 fP.nd)<|ar (dc 7 fP.nd) bq) bq)<|ah<|KA iH<|Ja (ig eK (pv 4) (vv 6) (λ_ _=>rfl)) (vv 7) DG (Kd (aQ (c5 c) d7 (br fY oJ (vv 5)<|aj)<|aj) (vv 2)<|FF u8 zM<|vv 2) j9 gL)
   (ah<|aC<|au<|vv 4)))⟩
theorem fQ:bt ["one","other","told","gaps","row","cells","many"] ["one","other"] (ag<|c4 29):=e_
def ox(K:Pa)(a:Ad):QF K a 4 "loops" a.A7 a.A8 ["one","other"] 2:=⟨_,λN=>by
 exact gl 7 (N.1 19) fQ λc A w s H E b=>ad (jU<|cw<|vc ((ie K a).2 N) b<|cx<|vv 0)
   (ad (jU<|cw<|vc ((ie K a).2 N) b<|cx<|vv 1)
   (ad (bA (aQ (cP b) dR (vc ((m6 K a).2 N) b<|cx<|vv 0)<|vc ((m6 K a).2 N) b<|cx<|vv 1) (ah<|bV)<|aZ)
   (ad (kH<|d_ 2 fQ.nd<|fi<|fM)
   (ad (aF<|d_ 3 fQ.nd<|vc ((iC K a).2 N) b<|dk (vv 0)<|vv 1)
   (ad (aF<|d_ 4 fQ.nd<|vc ((di K a).2 N) b<|cx<|vv 3)
   (ad (rY bW (aQ Jl LE (vv 4)<|yP) (ad (aF<|d_ 5 fQ.nd<|vc ((fU K a).2 N) b<|dk (vv 3)<|vv 4)
   (ad (aF<|d_ 6 fQ.nd<|bU (ul rfl) EF (by rfl) N.Ep Boot.«min»<|cx<|bf rfl (f_ ["across","down","gaps"] ["across","down"] [3]) (aX<|vv 5) (λG C d s H=>⟨(bB rfl<|ar (dc 0 en)<|ar (dc 1 en) bq),aN,λD=>aG rfl (bU w4 NK (by rfl) N.Eg Boot.«abs»<|cx<|aS ay aT (aS ay aT (vv 2)<|vv 0)<|vv 1) rfl⟩) (eG (bj aq<|bj aq dj)<|bh<|bh cE) (eC<|bi aw<|bi aw dh) (λD=>aJ))
   (ad (jA<|cw<|iU Qo Qv Qw dQ (pv 2)<|cx<|cA<|dk (vv 6)<|vv 5)
   (ad (aF<|d_ 3 fQ.nd<|vc ((jW K a).2 N) b<|dk (vv 3)<|cA<|dk (FF u8 zM<|vv 6)<|vv 5)
   (ah<|aF<|d_ 4 fQ.nd<|vc ((di K a).2 N) b<|cx<|vv 3))))))
   (ah<|aC<|au<|vv 2)))))))⟩
theorem ib:bt ["number","product","factor"] ["number"] (ag<|c4 31):=e_
def iT(K:Pa)(a:Ad):QF K a 2 "factorial" a.A9 a.Ba ["number"] 1:=⟨_,λN=>by
 exact gl 3 (N.1 20) ib λb A w s H E c=>ad (aF<|d_ 1 ib.nd<|aj)
   (ad (bJ aA<|bx bW rfl (wz (by rfl) N.Er<|dk (aj)<|br bz cV (vv 0)<|aj) (dc 2 ib.nd)<|ah<|iR yg<|gu (i:=1) ib.nd rfl (by first|exact QY rfl|exact RC rfl) (vv 2) yj)
   (ah<|aC<|au<|vv 1))⟩
theorem ld:bt ["parts","part","told"] ["parts"] (ag<|c4 32):=e_
def qL(K:Pa)(a:Ad):QF K a 3 "ways" a.Bb a.Bc ["parts"] 1:=⟨_,λN=>by
 exact gl 3 (N.1 21) ld λc A w s H E b=>ad (bJ aA<|bx bW rfl (aX<|vv 0) (dc 1 ld.nd)<|ah<|bA (aQ f9 iG (vv 1)<|aj) (ah<|bV)<|aZ)
   (ad (aF<|d_ 2 ld.nd<|vc ((iT K a).2 N) b<|cx<|bU (E9 rfl) LC (by rfl) N.Ev Boot.«sum»<|cx<|vv 0)
   (ad (bJ aA<|bx bW rfl (aX<|vv 0) (dc 1 ld.nd)<|ah<|iR GJ<|gu (i:=2) ld.nd rfl (by first|exact QY rfl|exact RC rfl) (vc ((iT K a).2 N) b (cx (vv 1))) JK)
   (ah<|aC<|au<|vv 2)))⟩
theorem de:bt ["rests","many","pairs","lows","tops","begun","row","fewest_behind","most_behind"] ["rests","many","pairs"] (ag<|c4 33):=e_
def lZ(K:Pa)(a:Ad):QF K a 2 "fillings" a.Bd a.Be ["rests","many","pairs"] 3:=⟨_,λN=>by
 exact gl 9 (N.1 22) de λc A w s H E d=>ad (aF<|d_ 3 de.nd<|bf rfl (f_ ["low","high"] ["low","high"] []) (aX<|vv 2) (λG C b s H=>⟨(bB rfl<|ar (dc 0 en)<|ar (dc 1 en) bq),aN,λD=>aG rfl (vv 0) rfl⟩) (eG (bj aq<|bj aq dj)<|bh<|bh cE) (eC<|bi aw<|bi aw dh) (λD=>aJ))
   (ad (aF<|d_ 4 de.nd<|bf rfl (f_ ["rest","low","high"] ["rest","low","high"] []) (mr (by rfl) N.Ex<|dk (vv 0)<|vv 2) (λG C b s H=>⟨(bB rfl<|ar (dc 0 en)<|ar (bB rfl<|ar (dc 1 en)<|ar (dc 2 en) bq) bq),aN,λD=>aG rfl (bU (nR rfl) zP (by rfl) N.Ep Boot.«min»<|dk (vv 0)<|vv 2) rfl⟩) (eG (bj aq<|bj (eG (bj aq<|bj aq dj)<|bh<|bh cE) dj)<|bh<|bh cE) (eC<|bi aw<|bi (eC<|bi aw<|bi aw dh) dh) (λD=>aJ))
   (ad (aF<|d_ 5 de.nd<|dZ<|cx<|cA<|dk (cA<|fM)<|vv 1)
   (ad (bJ aA<|bx bW rfl (bZ (by rfl) N.Er<|cx<|bF N.Em<|cx<|vv 0) (dc 6 de.nd) (ad (aF<|d_ 7 de.nd<|gJ N.Ev<|cx<|rQ (vv 3) (vV<|br bz cV (vv 6)<|aj)<|vW)
   (ad (aF<|d_ 8 de.nd<|gJ N.Ev<|cx<|rQ (vv 4) (vV<|br bz cV (vv 6)<|aj)<|vW)
   (ah<|vC (i:=5) de.nd rfl (by first|exact QY rfl|exact RC rfl) rfl (f_ ["counts","left","count","lows","row","most_behind","tops","fewest_behind"] ["counts","left","count"] [3,6,8,4,7]) (aX (vv 5)) (λG C b s H=>⟨(bB rfl<|ar (dc 0 en)<|ar (dc 1 en) bq),aN,λD=>oB rfl rfl rfl (wz (by rfl) N.Er<|dk (bU (um rfl) HX (by rfl) N.Eo Boot.«max»<|dk (aS ay aT (vv 3)<|vv 4)<|br fj gD (vv 1)<|vv 5)<|br bz cV (bU (nR rfl) zP (by rfl) N.Ep Boot.«min»<|dk (aS ay aT (vv 6)<|vv 4)<|br fj gD (vv 1)<|vv 7)<|aj) (dc 2 en) (aN)<|aG rfl (cA<|dk (br bz cV (vv 0)<|cA<|cx<|vv 2)<|br fj gD (vv 1)<|vv 2) rfl⟩) (eG (bj aq<|bj aq dj)<|bh<|bh cE) (eC<|bi aw<|bi aw dh) (λD=>yf aq aw<|aJ)))))
   (ah<|aC<|au<|bf rfl (f_ ["counts","left"] ["counts","left"] []) (aX<|vv 5) (λG C b s H=>⟨(bB rfl<|ar (dc 0 en)<|ar (dc 1 en) bq),rA<|aQ (c5 d) d7 (vv 1)<|aj,λD=>aG rfl (vv 0) rfl⟩) (eG (bj aq<|bj aq dj)<|bh<|bh cE) (eC<|bi aw<|bi aw dh) (λD=>aJ)))))⟩
theorem zb:bt ["rowsums","over"] ["rowsums","over"] (ag<|c4 35):=e_
def m8(K:Pa)(a:Ad):QF K a 2 "need_of" a.Bf a.Bh ["rowsums","over"] 2:=⟨_,λN=>by
 exact gl 2 (N.1 23) zb λb A w s H E c=>ah<|aC<|au<|gJ N.Ev<|cx<|bf rfl (f_ ["row","rowsums"] ["row"] [0]) (aX<|vv 1) (λG C d s H=>⟨(dc 0 en),aN,λD=>aG rfl (aS ay aT (vv 1)<|vv 0) rfl⟩) aq aw (λD=>aJ)⟩
theorem lf:bt ["columnsums","bounds","over","column","lows"] ["columnsums","bounds","over","column"] (ag<|c4 36):=e_
def dM(K:Pa)(a:Ad):QF K a 2 "room_inside" a.Bi a.Bj ["columnsums","bounds","over","column"] 4:=⟨_,λN=>by
 exact gl 5 (N.1 24) lf λb A w s H E c=>ad (vC (i:=4) lf.nd rfl (by first|exact QY rfl|exact RC rfl) rfl (f_ ["row","pairs","over","column"] ["row","pairs"] [2,3]) (il (by rfl) N.Ej (cx (vv 1))) (λG C d s H=>⟨(bB rfl<|ar (dc 0 en)<|ar (dc 1 en) bq),rA<|aQ nh (GK (neg:=OK)) (vv 0)<|vv 2,λD=>aG rfl (aS ay aT (aS ay aT (vv 1)<|vv 3)<|aj) rfl⟩) (eG (bj aq<|bj aq dj)<|bh<|bh cE) (eC<|bi aw<|bi aw dh) (λD=>aJ))
   (ah<|aC<|au<|br fj gD (aS ay aT (vv 0)<|vv 3)<|gJ N.Ev<|cx<|vv 4)⟩
theorem rW:bt ["bounds","over","column"] ["bounds","over","column"] (ag<|c4 37):=e_
def dN(K:Pa)(a:Ad):QF K a 2 "room_beside" a.Bl a.Bm ["bounds","over","column"] 3:=⟨_,λN=>by
 exact gl 3 (N.1 25) rW λb A w s H E c=>ah<|aC<|au<|gJ N.Ev<|cx<|bf rfl (f_ ["row","bounds","column"] ["row"] [0,2]) (aX<|vv 1) (λG C d s H=>⟨(dc 0 en),aN,λD=>aG rfl (aS ay aT (aS ay aT (aS ay aT (vv 1)<|vv 0)<|vv 2)<|aj) rfl⟩) aq aw (λD=>aJ)⟩
theorem za:bt ["columnsums","bounds","over","into"] ["columnsums","bounds","over","into"] (ag<|c4 38):=e_
def m7(K:Pa)(a:Ad):QF K a 3 "room_of" a.Bn a.Bo ["columnsums","bounds","over","into"] 4:=⟨_,λN=>by
 exact gl 4 (N.1 26) za λc A w s H E b=>ah<|aC<|au<|gJ N.Ev<|cx<|bf rfl (f_ ["column","into","columnsums","bounds","over"] ["column"] [3,0,1,2]) (bZ (by rfl) N.Er<|cx<|bF N.Em<|cx<|vv 0) (λG C d s H=>⟨(dc 0 en),aN,λD=>aG rfl (Kd (aQ DI (GK (neg:=OO)) (vv 0)<|vv 1) (vc ((dM K a).2 N) b<|y_ (vv 2) (vv 3) (vv 4)<|vv 0)<|vc ((dN K a).2 N) b<|rx (vv 3) (vv 4)<|vv 0) rfl⟩) aq aw (λD=>aJ)⟩
theorem vt:bt ["columnsums","bounds","over"] ["columnsums","bounds","over"] (ag<|c4 39):=e_
def kZ(K:Pa)(a:Ad):QF K a 3 "narrowest" a.Bp a.Bq ["columnsums","bounds","over"] 3:=⟨_,λN=>by
 exact gl 3 (N.1 27) vt λc A w s H E b=>ah<|aC<|au<|bf rfl (f_ ["column","columnsums","bounds","over"] ["column"] [0,1,2]) (bZ (by rfl) N.Er<|cx<|bF N.Em<|cx<|vv 0) (λG C d s H=>⟨(dc 0 en),rA<|aQ f9 iG (vc ((dM K a).2 N) b<|y_ (vv 1) (vv 2) (vv 3)<|vv 0)<|vc ((dN K a).2 N) b<|rx (vv 2) (vv 3)<|vv 0,λD=>aG rfl (vv 0) rfl⟩) aq aw (λD=>aJ)⟩
theorem jz:bt ["many","told","number"] ["many"] (ag<|c4 40):=e_
def m9(K:Pa)(a:Ad):QF K a 2 "choices" a.Br a.Bs ["many"] 1:=⟨_,λN=>by
 exact gl 3 (N.1 28) jz λb A w s H E c=>ad (aF<|d_ 1 jz.nd<|dZ<|cx<|dZ<|fM)
   (ad (bJ aA<|bx bW rfl (bZ (by rfl) N.Er<|cx<|vv 0) (dc 2 jz.nd)<|ah<|aF<|d_ 1 jz.nd<|br bz cV (vv 1)<|bf rfl (f_ ["chosen","number"] ["chosen"] [2]) (aX<|vv 1) (λG C d s H=>⟨(dc 0 en),aN,λD=>aG rfl (br bz cV (vv 0)<|dZ<|cx<|vv 1) rfl⟩) aq aw (λD=>aJ))
   (ah<|aC<|au<|vv 1))⟩
theorem jR:bt ["rowsums","columnsums","bounds","over","into"] ["rowsums","columnsums","bounds"] (ag<|c4 41):=e_
def gq(K:Pa)(a:Ad):QF K a 4 "check_fit" a.Bt a.Bu ["rowsums","columnsums","bounds"] 3:=⟨_,λN=>by
 exact gl 5 (N.1 29) jR λc A w s H E b=>ah<|bJ aA<|bx bW rfl (aX<|vc ((m9 K a).2 N) b<|cx<|bF N.Em<|cx<|vv 0) (dc 3 jR.nd) (ad (aF<|d_ 4 jR.nd<|vc ((kZ K a).2 N) b<|rx (vv 1) (vv 2)<|vv 3)
   (ah<|bA (aQ jD me (vc ((m8 K a).2 N) b<|dk (vv 0)<|vv 3)<|vc ((m7 K a).2 N) b<|y_ (vv 1) (vv 2) (vv 3)<|vv 4) (ah<|bV)<|aZ))⟩
theorem gz:bt ["rowsums","wide","many"] ["rowsums"] (ag<|c4 44):=e_
def jX(K:Pa)(a:Ad):QF K a 2 "check_wide" a.Bv a.Bw ["rowsums"] 1:=⟨_,λN=>by
 exact gl 3 (N.1 30) gz λb A w s H E c=>ad (aF<|d_ 1 gz.nd<|aj)
   (ad (bJ aA<|bx bW rfl (aX<|vv 0) (dc 2 gz.nd)<|ah<|iR yg<|gu (i:=1) gz.nd rfl (by first|exact QY rfl|exact RC rfl) (br bz cV (vv 2) (aj)) yj)
   (ah<|bA (aQ jD me (vv 1)<|iX<|N.1 3) (ah<|bV)<|aZ))⟩
theorem iY:bt ["rowsums","columnsums","bounds","settled"] ["rowsums","columnsums","bounds"] (ag<|c4 45):=e_
def d6(K:Pa)(a:Ad):QF K a 4 "settled_for_net" a.Bx a.By ["rowsums","columnsums","bounds"] 3:=⟨_,λN=>by
 exact gl 4 (N.1 31) iY λc A w s H E b=>ad (jU<|cw<|vc ((jY K a).2 N) b<|dk (vv 0)<|vv 1)
   (ad (aF<|d_ 3 iY.nd<|vc ((dA K a).2 N) b<|rx (vv 2) (bF N.Em<|cx<|vv 0)<|bF N.Em<|cx<|vv 1)
   (ad (jU<|cw<|vc ((jX K a).2 N) b<|cx<|vv 0)
   (ah<|aC<|au<|vv 3)))⟩
theorem mT:bt ["rests","columnsums","bounds","column"] ["rests","columnsums","bounds","column"] (ag<|c4 46):=e_
def cu(K:Pa)(a:Ad):QF K a 3 "column_fillings" a.Bz a.B0 ["rests","columnsums","bounds","column"] 4:=⟨_,λN=>by
 exact gl 4 (N.1 32) mT λb A w s H E c=>ah<|aC<|au<|vc ((lZ K a).2 N) c<|rx (vv 0) (aS ay aT (vv 1)<|vv 3)<|bf rfl (f_ ["pairs","column"] ["pairs"] [3]) (aX<|vv 2) (λG C d s H=>⟨(dc 0 en),aN,λD=>aG rfl (aS ay aT (vv 0)<|vv 1) rfl⟩) aq aw (λD=>aJ)⟩
theorem qw:bt ["rests","counts"] ["rests","counts"] (ag<|c4 47):=e_
def b8(K:Pa)(a:Ad):QF K a 2 "rests_behind" a.B5 a.B7 ["rests","counts"] 2:=⟨_,λN=>by
 exact gl 2 (N.1 33) qw λb A w s H E c=>ah<|aC<|au<|cX dP jJ (by rfl) N.Ew Boot.«tuple»<|cx<|bf rfl (f_ ["rest","count"] ["rest","count"] []) (mr (by rfl) N.Ex<|dk (vv 0)<|vv 1) (λG C d s H=>⟨(bB rfl<|ar (dc 0 en)<|ar (dc 1 en) bq),aN,λD=>aG rfl (br fj gD (vv 0)<|vv 1) rfl⟩) (eG (bj aq<|bj aq dj)<|bh<|bh cE) (eC<|bi aw<|bi aw dh) (λD=>aJ)⟩
theorem cr:bt ["rowsums","columnsums","bounds","here","told","column","behind"] ["rowsums","columnsums","bounds"] (ag<|c4 48):=e_
def gN(K:Pa)(a:Ad):QF K a 4 "nodes_by_level" a.B8 a.Ca ["rowsums","columnsums","bounds"] 3:=⟨_,λN=>by
 exact gl 7 (N.1 34) cr λc A w s H E b=>ad (aF<|d_ 3 cr.nd<|dZ<|cx<|cX dP jJ (by rfl) N.Ew Boot.«tuple»<|cx<|vv 0)
   (ad (kH<|d_ 4 cr.nd<|fi<|cx<|vv 3)
   (ad (bJ aA<|bx bW rfl (bZ (by rfl) N.Er<|cx<|bF N.Em<|cx<|vv 1) (dc 5 cr.nd) (ad (aF<|d_ 6 cr.nd<|FH (by rfl) N.Eu rfl (f_ ["rests","counts","columnsums","bounds","column"] ["rests","counts"] [1,2,5]) (aX<|vv 3) (λG C d s H=>⟨(dc 0 en),aN,λD=>oB rfl rfl rfl (aX<|vc ((cu K a).2 N) b<|y_ (vv 0) (vv 2) (vv 3)<|vv 4) (dc 1 en) (aN)<|vU (uO b) rfl (vc ((b8 K a).2 N) b<|dk (vv 0)<|vv 1) rfl⟩) aq aw (λD=>pY aq aw<|GF))
   (ad (jA<|cw<|iU Qo Qv Qw dQ (pv 4)<|cx<|vv 6)
   (ah<|aF<|d_ 3 cr.nd<|vv 6))))
   (ah<|aC<|au<|vv 4)))⟩
theorem b6:bt ["rests","filled","behind","tables","dealings","counts","tables_behind","dealings_behind"] ["rests","filled","behind"] (ag<|c4 49):=e_
def jo(K:Pa)(a:Ad):QF K a 4 "node_counts" a.Cb a.Cc ["rests","filled","behind"] 3:=⟨_,λN=>by
 exact gl 8 (N.1 35) b6 λc A w s H E b=>ad (aF<|d_ 3 b6.nd<|aj)
   (ad (aF<|d_ 4 b6.nd<|aj)
   (ad (bJ aA<|bx bW rfl (aX<|vv 1) (dc 5 b6.nd) (ad (qG (cR (aM aA<|aM aA cb)<|aL<|aL bR)<|fW (aS (EJ<|hu2 b) NJ (vv 2)<|vc ((b8 K a).2 N) b<|dk (vv 0)<|vv 5)<|bB rfl<|ar (dc 6 b6.nd)<|ar (dc 7 b6.nd) bq)
   (ad (iR iH<|gu (i:=3) b6.nd rfl (by first|exact QY rfl|exact RC rfl) (vv 6) j9)
   (ah<|iR iH<|gu (i:=4) b6.nd rfl (by first|exact QY rfl|exact RC rfl) (br sj zO (vc ((qL K a).2 N) b (cx (vv 5))) (vv 7)) j9))))
   (ah<|aC<|au<|cA<|dk (vv 3)<|vv 4)))⟩
theorem bS:bt ["rowsums","columnsums","bounds","levels","last","here","told","level","behind"] ["rowsums","columnsums","bounds"] (ag<|c4 50):=e_
def fI(K:Pa)(a:Ad):QF K a 5 "counted_nodes" a.Cd a.Cf ["rowsums","columnsums","bounds"] 3:=⟨_,λN=>by
 exact gl 9 (N.1 36) bS λe A w s H E c=>ad (aF<|d_ 3 bS.nd<|vc ((gN K a).2 N) c<|rx (vv 0) (vv 1)<|vv 2)
   (ad (aF<|d_ 4 bS.nd<|bF N.Em<|cx<|vv 1)
   (ad (CK (kb:=OO) (i:=5) bS.nd rfl (by first|exact QY rfl|exact RC rfl) rfl (f_ ["rests"] ["rests"] []) (aX (aS ay aT (vv 3) (vv 4))) (λG C d s H=>⟨(dc 0 en),aN,λD=>l6 (b:=OO) (uO c) rfl (vv 0) (cA<|dk (aj)<|aj) rfl⟩) aq aw (λD=>pZ))
   (ad (kH<|d_ 6 bS.nd<|fi<|cx<|vv 5)
   (ad (bJ aA<|bx bW rfl (GT (by rfl) N.Es (by rfl) N.Er<|cx<|vv 4) (dc 7 bS.nd) (ad (aF<|d_ 8 bS.nd<|vv 5)
   (ad (CK (kb:=OO) (i:=5) bS.nd rfl (by first|exact QY rfl|exact RC rfl) rfl (f_ ["rests","columnsums","bounds","level","behind"] ["rests"] [1,2,7,8]) (aX (aS ay aT (vv 3) (vv 7))) (λG C d s H=>⟨(dc 0 en),aN,λD=>l6 (b:=OO) (uO c) rfl (vv 0) (vc ((jo K a).2 N) c<|rx (vv 0) (vc ((cu K a).2 N) c<|y_ (vv 0) (vv 1) (vv 2)<|vv 3)<|vv 4) rfl⟩) aq aw (λD=>pZ))
   (ah<|jA<|cw<|iU Qo Qv Qw dQ (pv 6)<|cx<|vv 5))))
   (ah<|aC<|au<|IE (kb:=OK) rfl (f_ ["level","nodes","rests","counts"] ["level","nodes","rests","counts"] []) (il (by rfl) N.Ej<|cx<|M3 (vv 6)<|FF u8 zM<|aj) (λG C d s H=>⟨(bB rfl<|ar (dc 0 en)<|ar (dc 1 en) bq),aN,λD=>oB rfl rfl rfl (JM<|vv 1) (bB rfl<|ar (dc 2 en)<|ar (dc 3 en) bq) (aN)<|l6 (b:=OK) (uO c) rfl (cA<|dk (vv 0)<|vv 2) (vv 3) rfl⟩) (eG (bj aq<|bj aq dj)<|bh<|bh cE) (eC<|bi aw<|bi aw dh) (λD=>pY (eG (bj aq<|bj aq dj)<|bh<|bh cE) (eC<|bi aw<|bi aw dh)<|pZ))))))⟩
theorem qz:bt ["k","many"] ["k","many"] (ag<|c4 53):=e_
def lE(K:Pa)(a:Ad):QF K a 2 "check_number" a.Cg a.Ch ["k","many"] 2:=⟨_,λN=>by
 exact gl 2 (N.1 37) qz λb A w s H E c=>ah<|bA (c9<|k8 gB f9 jq iG (aj) (vv 0)<|vv 1) (ah<|bV)<|aZ⟩
theorem pM:bt ["self","level","rests"] ["self","level","rests"] (ag<|eL (c4 51) 6):=e_
def fK(K:Pa)(a:Ad):QM K a 2 a.D4 a.D5 ["self","level","rests"] 3:=⟨_,λN=>by
 exact k6 (k:=1) 3 3 _ (N.1 66) pM rfl rfl λb A w s H E c=>ah<|aC<|au<|M7 (hu2 c) (kB (N.1 78) (N.1 81)<|vv 0)<|dk (cA<|dk (vv 1)<|vv 2)<|cA<|dk (aj)<|aj⟩
theorem vy:bt ["self","level","rests"] ["self","level","rests"] (ag<|eL (c4 51) 9):=e_
def k4(K:Pa)(a:Ad):QM K a 4 a.Ea a.Eb ["self","level","rests"] 3:=⟨_,λN=>by
 exact k6 (k:=3) 3 3 _ (N.1 75) vy rfl rfl λd A w s H E b=>ad (bA (cZ<|dm (aQ (x8<|hu2 b) NF (cA<|dk (vv 1)<|vv 2)<|kB (N.1 78) (N.1 81)<|vv 0)<|dY<|aQ (c5 b) d7 (vv 1)<|bF N.Em<|cx<|kB (N.1 78) (N.1 80)<|vv 0) (ah<|aC<|au<|dZ<|fM)<|aZ)
   (ah<|aC<|au<|bf rfl (f_ ["counts","self","level","rests"] ["counts"] [0,1,2]) (aX<|vc ((cu K a).2 N) b<|y_ (vv 2) (kB (N.1 78) (N.1 80)<|vv 0) (kB (N.1 78) (N.1 82)<|vv 0)<|vv 1) (λP C e s H=>⟨(dc 0 en),rA<|aQ jD me (aS ay aT (qo (N.1 78) (N.1 67) ((fK K a).2 N) (b.mono<|by decide) (db.nil<|N.1 68) zk (vv 1) (dk (br bz cV (vv 2)<|aj)<|vc ((b8 K a).2 N) b<|dk (vv 3)<|vv 0) (λG M r c h=>by rw[(bO<|bO L_) G M r c h];rfl))<|aj)<|aj,λD=>aG rfl (vv 0) rfl⟩) aq aw (λD=>aJ))⟩
theorem dy:bt ["net","level","rests","told","counts","tables","dealings"] ["net","level","rests"] (ag<|c4 54):=e_
def fG(K:Pa)(a:Ad):QF K a 5 "steps_counted" a.Ci a.Cj ["net","level","rests"] 3:=⟨_,λN=>by
 exact gl 7 (N.1 38) dy λd A w s H E c=>ad (kH<|d_ 3 dy.nd<|fi<|fM)
   (ad (bJ aA<|bx bW rfl (aX<|qo (N.1 78) (N.1 76) ((k4 K a).2 N) (c.mono<|by decide) (db.nil<|N.1 77) eV (vv 0) (dk (vv 1)<|vv 2) (λD G r b h=>by rw[(bO<|bO L_) D G r b h];rfl)) (dc 4 dy.nd) (ad (qG (cR (aM aA<|aM aA cb)<|aL<|aL bR)<|fW (qo (N.1 78) (N.1 67) ((fK K a).2 N) (c.mono<|by decide) (db.nil<|N.1 68) eV (vv 0) (dk (br bz cV (vv 1)<|aj)<|vc ((b8 K a).2 N) c<|dk (vv 2)<|vv 4) (λD G r b h=>by rw[(bO<|bO L_) D G r b h];rfl))<|bB rfl<|ar (dc 5 dy.nd)<|ar (dc 6 dy.nd) bq)
   (ah<|jA<|cw<|iU Qo Qv Qw dQ (pv 3)<|cx<|cA<|rx (vv 4) (vv 5)<|br sj zO (vc ((qL K a).2 N) c<|cx<|vv 4)<|vv 6)))
   (ah<|aC<|au<|vv 3))⟩
theorem iQ:bt ["numbered","k","at"] ["numbered","k"] (ag<|c4 55):=e_
def l4(K:Pa)(a:Ad):QF K a 2 "falls_to" a.Ck a.Cl ["numbered","k"] 2:=⟨_,λN=>by
 exact gl 3 (N.1 39) iQ λb A w s H E c=>ad (aF<|d_ 2 iQ.nd<|aj)
   (ad (rY bW (aQ uF GL (vv 1)<|aS ay aT (aS ay aT (vv 0)<|vv 2)<|aj) (ad (iR JF<|gu (i:=1) iQ.nd rfl (by first|exact QY rfl|exact RC rfl) (aS ay aT (aS ay aT (vv 0) (vv 2)) (aj)) Mo)
   (ah<|iR iH<|gu (i:=2) iQ.nd rfl (by first|exact QY rfl|exact RC rfl) (aj) j9)))
   (ah<|aC<|au<|cA<|dk (aS ay aT (aS ay aT (vv 0)<|vv 2)<|aj)<|vv 1))⟩
theorem uz:bt ["self"] ["self"] (ag<|eL (c4 51) 7):=e_
def fV(K:Pa)(a:Ad):QM K a 3 a.Dz a.D3 ["self"] 1:=⟨_,λN=>by
 exact k6 (k:=2) 1 1 _ (N.1 63) uz rfl rfl λc A w s H E d=>ah<|aC<|au<|aS ay aT (qo (N.1 78) (N.1 67) ((fK K a).2 N) (d.mono<|by decide) (db.nil<|N.1 68) eV (vv 0) (dk (aj)<|cX dP jJ (by rfl) N.Ew Boot.«tuple»<|cx<|kB (N.1 78) (N.1 83)<|vv 0) (λD G r b h=>by rw[(bO<|bO L_) D G r b h];rfl))<|aj⟩
theorem rX:bt ["self"] ["self"] (ag<|eL (c4 51) 3):=e_
def ff(K:Pa)(a:Ad):QM K a 2 a.D6 a.D7 ["self"] 1:=⟨_,λN=>by
 exact k6 (k:=1) 1 1 _ (N.1 69) rX rfl rfl λb A w s H E c=>ah<|aC<|au<|cX dD lJ (by rfl) N.En Boot.«list»<|cx<|kB (N.1 78) (N.1 83)<|vv 0⟩
theorem o8:bt ["self"] ["self"] (ag<|eL (c4 51) 4):=e_
def gQ(K:Pa)(a:Ad):QM K a 2 a.D8 a.D9 ["self"] 1:=⟨_,λN=>by
 exact k6 (k:=1) 1 1 _ (N.1 72) o8 rfl rfl λb A w s H E c=>ah<|aC<|au<|cX dD lJ (by rfl) N.En Boot.«list»<|cx<|kB (N.1 78) (N.1 80)<|vv 0⟩
theorem cN:bt ["net","k","rests","columns","level","numbered","filling"] ["net","k"] (ag<|c4 56):=e_
def dW(K:Pa)(a:Ad):QF K a 6 "kth_table" a.Cm a.Cn ["net","k"] 2:=⟨_,λN=>by
 exact gl 7 (N.1 40) cN λc A w s H E b=>ad (jU<|cw<|vc ((lE K a).2 N) b<|dk (vv 1)<|gW (N.1 78) (N.1 64) ((fV K a).2 N) (b.mono<|by decide) (db.nil<|N.1 65) eV (vv 0) rfl)
   (ad (aF<|d_ 2 cN.nd<|cX dP jJ (by rfl) N.Ew Boot.«tuple»<|cx<|gW (N.1 78) (N.1 70) ((ff K a).2 N) (b.mono<|by decide) (db.nil<|N.1 71) eV (vv 0) rfl)
   (ad (kH<|d_ 3 cN.nd<|fi<|fM)
   (ad (bJ aA<|bx bW rfl (bZ (by rfl) N.Er<|cx<|bF N.Em<|cx<|gW (N.1 78) (N.1 73) ((gQ K a).2 N) (b.mono<|by decide) (db.nil<|N.1 74) eV (vv 0) rfl) (dc 4 cN.nd) (ad (vC (i:=5) cN.nd rfl (by first|exact QY rfl|exact RC rfl) rfl (f_ ["counts","tables","dealings"] ["counts","tables","dealings"] []) (aX (vc ((fG K a).2 N) b (rx (vv 0) (vv 4) (vv 2)))) (λG C d s H=>⟨(bB rfl<|ar (dc 0 en)<|ar (dc 1 en)<|ar (dc 2 en) bq),aN,λD=>aG rfl (cA<|dk (vv 0)<|vv 1) rfl⟩) (eG (bj aq<|bj aq<|bj aq dj)<|bh<|bh<|bh cE) (eC<|bi aw<|bi aw<|bi aw dh) (λD=>aJ))
   (ad (qG (cR (aM aA<|aM aA cb)<|aL<|aL bR)<|fW (vc ((l4 K a).2 N) b<|dk (vv 5)<|vv 1)<|bB rfl<|ar (dc 6 cN.nd)<|ar (dc 1 cN.nd) bq)
   (ad (jA<|cw<|iU Qo Qv Qw dQ (pv 3)<|cx<|vv 6)
   (ah<|aF<|d_ 2 cN.nd<|vc ((b8 K a).2 N) b<|dk (vv 2)<|vv 6)))))
   (ah<|aC<|au<|vc ((dL K a).2 N) b<|cx<|vv 3))))⟩
theorem jQ:bt ["net","rows","many"] ["net","rows"] (ag<|c4 57):=e_
def ic(K:Pa)(a:Ad):QF K a 3 "columns_asked" a.Co a.Cp ["net","rows"] 2:=⟨_,λN=>by
 exact gl 3 (N.1 41) jQ λc A w s H E b=>ad (aF<|d_ 2 jQ.nd<|bF N.Em<|cx<|gW (N.1 78) (N.1 73) ((gQ K a).2 N) (b.mono<|by decide) (db.nil<|N.1 74) eV (vv 0) rfl)
   (ad (bA (cZ<|dm (aQ (cP b) dR (bF N.Em<|cx<|vv 1)<|bF N.Em<|cx<|gW (N.1 78) (N.1 70) ((ff K a).2 N) (b.mono<|by decide) (db.nil<|N.1 71) eV (vv 0) rfl)<|dY<|cT<|bU (g9 rfl) oK (by rfl) N.Eh Boot.«any»<|cx<|bf rfl (f_ ["counts","many"] ["counts"] [2]) (aX<|vv 1) (λG C d s H=>⟨(dc 0 en),aN,λD=>aG rfl (iO (cP b) dR (bF N.Em<|cx<|vv 0)<|vv 1) rfl⟩) aq aw (λD=>aJ)) (ah<|bV)<|aZ)
   (ah<|aC<|au<|bf rfl (f_ ["counts"] ["counts"] []) (aX<|vc ((dL K a).2 N) b<|cx<|vv 1) (λG C d s H=>⟨(dc 0 en),aN,λD=>aG rfl (cX dP jJ (by rfl) N.Ew Boot.«tuple»<|cx<|vv 0) rfl⟩) aq aw (λD=>aJ)))⟩
theorem bT:bt ["net","level","rests","filling","tables_ahead","dealings_ahead","counts","tables","dealings"] ["net","level","rests","filling"] (ag<|c4 58):=e_
def fJ(K:Pa)(a:Ad):QF K a 6 "counted_ahead" a.Cq a.Cr ["net","level","rests","filling"] 4:=⟨_,λN=>by
 exact gl 9 (N.1 42) bT λc A w s H E b=>ad (aF<|d_ 4 bT.nd<|aj)
   (ad (aF<|d_ 5 bT.nd<|aj)
   (ad (bJ (cR (aM aA<|aM aA<|aM aA cb)<|aL<|aL<|aL bR)<|bx bW rfl (aX<|vc ((fG K a).2 N) b<|rx (vv 0) (vv 1)<|vv 2) (bB rfl<|ar (dc 6 bT.nd)<|ar (dc 7 bT.nd)<|ar (dc 8 bT.nd) bq) (ad (bA (aQ (c5 b) d7 (vv 6)<|vv 3) (ah<|aC<|au<|cA<|dk (vv 4)<|vv 5)<|aZ)
   (ad (iR iH<|gu (i:=4) bT.nd rfl (by first|exact QY rfl|exact RC rfl) (vv 7) j9)
   (ah<|iR iH<|gu (i:=5) bT.nd rfl (by first|exact QY rfl|exact RC rfl) (vv 8) j9))))
   (ah<|bV)))⟩
theorem dz:bt ["net","rows","rests","number","level","filling"] ["net","rows"] (ag<|c4 59):=e_
def iS(K:Pa)(a:Ad):QF K a 7 "number_of" a.Cs a.Ct ["net","rows"] 2:=⟨_,λN=>by
 exact gl 6 (N.1 43) dz λc A w s H E b=>ad (aF<|d_ 2 dz.nd<|cX dP jJ (by rfl) N.Ew Boot.«tuple»<|cx<|gW (N.1 78) (N.1 70) ((ff K a).2 N) (b.mono<|by decide) (db.nil<|N.1 71) eV (vv 0) rfl)
   (ad (aF<|d_ 3 dz.nd<|aj)
   (ad (bJ (cR (aM aA<|aM aA cb)<|aL<|aL bR)<|bx bW rfl (il (by rfl) N.Ej<|cx<|vc ((ic K a).2 N) b<|dk (vv 0)<|vv 1) (bB rfl<|ar (dc 4 dz.nd)<|ar (dc 5 dz.nd) bq) (ad (iR iH<|gu (i:=3) dz.nd rfl (by first|exact QY rfl|exact RC rfl) (aS ay aT (vc ((fJ K a).2 N) b (y_ (vv 0) (vv 4) (vv 2) (vv 5))) (aj)) j9)
   (ah<|aF<|d_ 2 dz.nd<|vc ((b8 K a).2 N) b<|dk (vv 2)<|vv 5)))
   (ah<|aC<|au<|vv 3)))⟩
theorem iZ:bt ["_law_bag_here","_law_block","_law_columns","_law_things","_law_grid_here","_law_thing","_law_at","_law_to"] ["_law_bag_here","_law_block","_law_columns","_law_things"] (ag<|c4 63):=e_
def qb(K:Pa)(a:Ad):G:=
  aW (sH 4<|jc 1 [2] (cJ fS<|ae (af 1)<|az) (fy 0) (λ_=>M.ret OK)<|sP<|zq (ae (fC<|.int 0)<|az)<|af 1)
  (aW (wD (cJ fS<|ae (af 3)<|az) (PC 5) (aW (eY 6<|bK cU<|ae (af 0)<|ae (af 1)<|az)
  (aW (eY 7<|bK cU<|ae (af 0)<|ae (af 2)<|az)
  (oU 4 (af 6) (af 7)<|f2 ir (f2 gt (f2 gt (af 4)<|af 6)<|af 7)<|fC<|.int 1))))
  (kg<|af 4))
def gR(K:Pa)(a:Ad):a0e->M D:=gG 8<|qb K a
theorem nk(N:vu K mg a):FB P w K mg aa 3 "_law_grid" a.Cz a.C0 ["_law_bag_here","_law_block","_law_columns","_law_things"] 4 (gR K a):=⟨by
 unfold gR
 exact k6 (k:=2) 4 8 (qb K a) (N.1 46).F iZ rfl rfl λd A G s H E c=>ad (CL (i:=4) iZ.nd rfl (by first|exact QY rfl|exact RC rfl) rfl (f_ ["_law_row","_law_columns"] ["_law_row"] [2]) (bZ (by rfl) N.Er (cx (vv 1))) (λM C e s H=>⟨(dc 0 en),aN,λD=>aG rfl (Nx (cx<|aj)<|vv 1) rfl⟩) aq aw (λD=>su))
   (ad (bJ aA<|bx bW rfl (bZ (by rfl) N.Er<|cx<|vv 3) (dc 5 iZ.nd) (ad (aF<|d_ 6 iZ.nd<|vc (bw N) c<|dk (vv 0)<|vv 1)
   (ad (aF<|d_ 7 iZ.nd<|vc (bw N) c<|dk (vv 0)<|vv 2)
   (ah<|vJ<|fW (br bz cV (aS ay aT (aS ay aT (vv 4)<|vv 6)<|vv 7)<|aj)<|lH (ig eK (pv 4) (vv 6) (λ_ _=>rfl)) (vv 7) gL))))
   (ah<|aC<|au<|vv 4)),(N.1 46).m,(N.1 46).F.kp,(N.1 46).b⟩
theorem kC:bt ["_law_bag_here","_law_grid_here","_law_lot","_law_first"] ["_law_bag_here"] (ag<|c4 64):=e_
def qa(K:Pa)(a:Ad):G:=
  aW (wC 1<|az)
  (aW (wD (cQ<|f2 gt (aV eX<|ae (aV eX<|ae (fC<|.int 40)<|az)<|ae (aV eX<|ae (fC<|.int 39)<|ae (fC<|.int 1)<|az)<|ae (aV eX<|ae (fC<|.int 30)<|ae (fC<|.int 10)<|az)<|ae (aV eX<|ae (fC<|.int 20)<|ae (fC<|.int 20)<|az)<|ae (aV eX<|ae (fC<|.int 24)<|ae (fC<|.int 15)<|az)<|ae (aV eX<|ae (fC<|.int 13)<|ae (fC<|.int 27)<|az)<|az)<|bK cU<|ae (af 0)<|ae (fC<|.int 6)<|az) (PC 2) (aW (eY 3<|bK cU<|ae (af 0)<|ae (f2 ir (af 2)<|fC<|.int 1)<|az)
  (sI 1<|ae (aV eX<|ae (af 3)<|ae (f2 vh (af 2)<|af 3)<|az)<|az)))
  (kg<|af 1))
def j4(K:Pa)(a:Ad):a0e->M D:=gG 4<|qa K a
theorem DJ(N:vu K mg a):FB P w K mg aa 3 "_law_wide" a.C2 a.C4 ["_law_bag_here"] 1 (j4 K a):=⟨by
 unfold j4;refine k6 (k:=2) 1 4 (qa K a) (N.1 47).F kC rfl rfl λe A D s H E c=>?_;refine ad (kH<|d_ 1 kC.nd<|fi<|fM) ?_;refine ad ?_ ?_
 rotate_left
 exact(ah<|aC<|au<|vv 1);refine bJ (tgg:=gc 2) ?_ ?_;exact aA;generalize d:Expr.Subscript _ _ _=q;refine bx bW rfl ?_ (dc 2 kC.nd) ?_ ?_;subst d;refine aX ?_;refine M6 ?_ ?_;refine dZ ?_;refine ft ?_ ?_;refine dZ ?_;exact cx aj;refine ft ?_ ?_;refine dZ ?_;exact dk aj aj;refine ft ?_ ?_;refine dZ ?_;exact dk aj aj;refine ft ?_ ?_;refine dZ ?_;exact dk aj aj;refine ft ?_ ?_;refine dZ ?_;exact dk aj aj;refine ft ?_ ?_;refine dZ ?_;exact dk aj aj;exact fM;exact(vc (bw N) c<|dk (vv 0)<|aj);exact ad (aF<|d_ 3 kC.nd<|vc (bw N) c<|dk (vv 0)<|br bz cV (vv 2)<|aj)<|ah<|jA<|cw<|iU Qo Qv Qw dQ (pv 1)<|cx<|dZ<|dk (vv 3)<|br fj gD (vv 2)<|vv 3;subst d;intro _;rfl,(N.1 47).m,(N.1 47).F.kp,(N.1 47).b⟩
theorem jy:bt ["_law_bag_here","_law_way","_law_block","_law_columns"] ["_law_bag_here"] (ag<|c4 65):=e_
def nC(K:Pa)(a:Ad):G:=
  aW (L1 (fB<|f2 (dI) (bK cU<|ae (af 0)<|ae (fC<|.int 6)<|az)<|fC<|.int 0) (kg<|bK (j4 K a)<|ae (af 0)<|az)<|gNil)
  (aW (eY 1<|bK cU<|ae (af 0)<|ae (fC<|.int 5)<|az)
  (aW (L1 (fB<|f2 (dI) (af 1)<|fC<|.int 0) (kg<|bK (gR K a)<|ae (af 0)<|ae (fC<|.int 2)<|ae (f2 ir (fC<|.int 2)<|bK cU<|ae (af 0)<|ae (fC<|.int 5)<|az)<|ae (bK cU<|ae (af 0)<|ae (fC<|.int 25)<|az)<|az)<|gNil)
  (aW (L1 (fB<|f2 (dI) (af 1)<|fC<|.int 1) (kg<|bK (gR K a)<|ae (af 0)<|ae (fC<|.int 4)<|ae (f2 ir (fC<|.int 2)<|bK cU<|ae (af 0)<|ae (fC<|.int 2)<|az)<|ae (bK cU<|ae (af 0)<|ae (fC<|.int 9)<|az)<|az)<|gNil)
  (aW (eY 2<|f2 ir (fC<|.int 2)<|bK cU<|ae (af 0)<|ae (fC<|.int 2)<|az)
  (aW (eY 3<|f2 ir (fC<|.int 2)<|bK cU<|ae (af 0)<|ae (fC<|.int 3)<|az)
  (kg<|bK (gR K a)<|ae (af 0)<|ae (af 2)<|ae (af 3)<|ae (bK cU<|ae (af 0)<|ae (fC<|.int 12)<|az)<|az))))))
def kS(K:Pa)(a:Ad):a0e->M D:=gG 4<|nC K a
theorem zo(N:vu K mg a):FB P w K mg aa 4 "_law_large" a.C5 a.C6 ["_law_bag_here"] 1 (kS K a):=⟨by
 unfold kS
 exact k6 (k:=3) 1 4 (nC K a) (N.1 48).F jy rfl rfl λd A D s H E c=>ad (bA (aQ (c5 c) d7 (vc (bw N) c<|dk (vv 0)<|aj)<|aj) (ah<|aC<|au<|vc (DJ N) c<|cx<|vv 0)<|aZ)
   (ad (aF<|d_ 1 jy.nd<|vc (bw N) c<|dk (vv 0)<|aj)
   (ad (bA (aQ (c5 c) d7 (vv 1)<|aj) (ah<|aC<|au<|vc (nk N) c<|y_ (vv 0) (aj) (br bz cV (aj)<|vc (bw N) c<|dk (vv 0)<|aj)<|vc (bw N) c<|dk (vv 0)<|aj)<|aZ)
   (ad (bA (aQ (c5 c) d7 (vv 1)<|aj) (ah<|aC<|au<|vc (nk N) c<|y_ (vv 0) (aj) (br bz cV (aj)<|vc (bw N) c<|dk (vv 0)<|aj)<|vc (bw N) c<|dk (vv 0)<|aj)<|aZ)
   (ad (aF<|d_ 2 jy.nd<|br bz cV (aj)<|vc (bw N) c<|dk (vv 0)<|aj)
   (ad (aF<|d_ 3 jy.nd<|br bz cV (aj)<|vc (bw N) c<|dk (vv 0)<|aj)
   (ah<|aC<|au<|vc (nk N) c<|y_ (vv 0) (vv 2) (vv 3)<|vc (bw N) c<|dk (vv 0)<|aj)))))),(N.1 48).m,(N.1 48).F.kp,(N.1 48).b⟩
theorem xm:bt ["_law_block"] ["_law_block"] (ag<|c4 66):=e_
def qN(K:Pa)(a:Ad):QF K a 2 "_law_turned" a.C7 a.C8 ["_law_block"] 1:=⟨_,λN=>by
 exact gl 1 (N.1 49) xm λb A w s H E d=>ah<|aC<|au<|bf rfl (f_ ["_law_to","_law_block"] ["_law_to"] [0]) (bZ (by rfl) N.Er<|cx<|bF N.Em<|cx<|aS ay aT (vv 0)<|aj) (λG C c s H=>⟨(dc 0 en),aN,λD=>aG rfl (bf rfl (f_ ["_law_row","_law_to"] ["_law_row"] [0]) (aX<|vv 1) (λG C c s H=>⟨(dc 0 en),aN,λD=>aG rfl (aS ay aT (vv 0)<|vv 1) rfl⟩) aq aw (λD=>aJ)) rfl⟩) aq aw (λD=>aJ)⟩
theorem vx:bt ["_law_grid_here"] ["_law_grid_here"] (ag<|c4 67):=e_
def gn(K:Pa)(a:Ad):QF K a 2 "_law_rowsums" a.C9 a.Da ["_law_grid_here"] 1:=⟨_,λN=>by
 exact gl 1 (N.1 50) vx λb A w s H E c=>ah<|aC<|au<|bf rfl (f_ ["_law_row"] ["_law_row"] []) (aX<|vv 0) (λG C d s H=>⟨(dc 0 en),aN,λD=>aG rfl (gJ N.Ev<|cx<|vv 0) rfl⟩) aq aw (λD=>aJ)⟩
theorem qx:bt ["_law_grid_here"] ["_law_grid_here"] (ag<|c4 68):=e_
def eD(K:Pa)(a:Ad):QF K a 3 "_law_columnsums" a.Db a.Dc ["_law_grid_here"] 1:=⟨_,λN=>by
 exact gl 1 (N.1 51) qx λb A w s H E c=>ah<|aC<|au<|bf rfl (f_ ["_law_column"] ["_law_column"] []) (aX<|vc ((qN K a).2 N) c<|cx<|vv 0) (λG C d s H=>⟨(dc 0 en),aN,λD=>aG rfl (gJ N.Ev<|cx<|vv 0) rfl⟩) aq aw (λD=>aJ)⟩
theorem CI:bt ["_law_block","_law_columns"] ["_law_block","_law_columns"] (ag<|c4 69):=e_
def t8(K:Pa)(a:Ad):G:=
  nF (jc 1 [1] (cJ fS<|ae (af 0)<|az) (fy 0) (λ_=>M.ret OK)<|sP<|i9 1 [] (cJ fS<|ae (af 1)<|az) (fy 0) (λ_=>M.ret OK)<|js<|aV gC<|ae (fC<|.int 0)<|ae (fC<|.int 40)<|az)
def nu(K:Pa)(a:Ad):a0e->M a0r:=o4 2<|t8 K a
theorem zn(N:vu K mg a):fw P w K mg aa (hE P w) 2 a.Dd a.Df ["_law_block","_law_columns"] (Z0 K 2<|nu K a):=by
 unfold nu;exact JV (k:=1) 2 2 (t8 K a) (N.1 52).F CI rfl rfl λb A G s H E d=>ah<|IV<|au<|Mu rfl (f_ ["_law_at","_law_columns"] ["_law_at"] [1]) (bZ (by rfl) N.Er<|cx<|vv 0) (λM C c s H=>⟨(dc 0 en),aN,λD=>aG rfl (Lj rfl (f_ ["_law_to"] ["_law_to"] []) (bZ (by rfl) N.Er<|cx<|vv 1) (λM C c s H=>⟨(dc 0 en),aN,λD=>aG rfl (cA<|dk (aj)<|aj) rfl⟩) aq aw (λD=>aJ)) rfl⟩) aq aw (λD=>su)
theorem dU:bt ["_law_bag_here","_law_grid_here","_law_told","_law_at","_law_row","_law_to","_law_count","_law_way"] ["_law_bag_here","_law_grid_here"] (ag<|c4 70):=e_
def jC(K:Pa)(a:Ad):QF K a 3 "_law_bounds" a.Dg a.Dh ["_law_bag_here","_law_grid_here"] 2:=⟨_,λN=>by
 exact gl 8 (N.1 53) dU λd A w s H E c=>ad (HI<|d_ 2 dU.nd<|Mv (zn N) (c.mono<|by decide) (by rfl) (N.1 52).m (N.1 52).F.kp (N.1 52).b eV (dk (bF N.Em<|cx<|vv 1)<|bF N.Em<|cx<|aS ay aT (vv 1)<|aj)<|bO<|bO L_)
   (ad (bA (aQ (c5 c) d7 (vc (bw N) c<|dk (vv 0)<|aj)<|aj) (ah<|aC<|au<|vv 2)<|aZ)
   (ad (bJ (cR (aM aA<|aM aA cb)<|aL<|aL bR)<|bx bW rfl (il (by rfl) N.Ej<|cx<|vv 1) (bB rfl<|ar (dc 3 dU.nd)<|ar (dc 4 dU.nd) bq)<|ah<|bJ (cR (aM aA<|aM aA cb)<|aL<|aL bR)<|bx bW rfl (il (by rfl) N.Ej<|cx<|vv 4) (bB rfl<|ar (dc 5 dU.nd)<|ar (dc 6 dU.nd) bq) (ad (aF<|d_ 7 dU.nd<|vc (bw N) c<|dk (vv 0)<|aj)
   (ad (bA (aQ (c5 c) d7 (vv 7)<|aj) (ah<|vJ<|fW (cA<|dk (br fj gD (vv 6)<|vc (bw N) c<|dk (vv 0)<|br bz cV (vv 6)<|aj)<|bU (nR rfl) zP (by rfl) N.Ep Boot.«min»<|dk (aj)<|br bz cV (vv 6)<|vc (bw N) c<|dk (vv 0)<|aj)<|lH (ig eK (pv 2) (vv 3) (λ_ _=>rfl)) (vv 5) gL)<|aZ)
   (ah<|bA (aQ (c5 c) d7 (vv 7)<|aj) (ah<|vJ<|fW (cA<|dk (aj)<|bU (um rfl) HX (by rfl) N.Eo Boot.«max»<|dk (vv 6)<|vc (bw N) c<|dk (vv 0)<|aj)<|lH (ig eK (pv 2) (vv 3) (λ_ _=>rfl)) (vv 5) gL)<|aZ))))
   (ah<|aC<|au<|vv 2)))⟩
theorem xo:bt ["_law_block"] ["_law_block"] (ag<|c4 71):=e_
def f8(K:Pa)(a:Ad):QF K a 2 "_law_copied" a.Di a.Dj ["_law_block"] 1:=⟨_,λN=>by
 exact gl 1 (N.1 54) xo λb A w s H E c=>ah<|aC<|au<|bf rfl (f_ ["_law_row"] ["_law_row"] []) (aX<|vv 0) (λG C d s H=>⟨(dc 0 en),aN,λD=>aG rfl (cX dD lJ (by rfl) N.En Boot.«list»<|cx<|vv 0) rfl⟩) aq aw (λD=>aJ)⟩
theorem kF:bt ["self","rowsums","columnsums","bounds","settled"] ["self","rowsums","columnsums","bounds"] (ag<|eL (c4 51) 0):=e_
def wv(K:Pa)(a:Ad):IP:=
  oP (eY 4<|bK (d6 K a).1<|ae (af 1)<|ae (af 2)<|ae (af 3)<|az)
  (oP (rn<|bK (gq K a).1<|ae (af 1)<|ae (af 2)<|ae (af 4)<|az)
  (kT (aV uK<|ae (af 1)<|az)
  (kT (aV uK<|ae (af 2)<|az)
  (kT (af 4)
  (kT (bK (fI K a).1<|ae (af 1)<|ae (af 2)<|ae (af 4)<|az)
  (Ib))))))
def qW(K:Pa)(a:Ad):a0e->M a0e:=oR 5<|wv K a
theorem Jp(N:vu K mg a):fw P w K mg aa (hE P w) 6 a.Dx a.Dy ["self","rowsums","columnsums","bounds"] (Zs K a.Ae ["row_list","column_list","pairs","counted"] 3<|qW K a):=by
 unfold qW
 exact JU (k:=5) 3 5 (wv K a) (N.1 60) kF rfl rfl λc A D s H E b=>Id (aF<|d_ 4 kF.nd<|vc ((d6 K a).2 N) b<|rx (vv 1) (vv 2)<|vv 3)
   (Id (jU<|cw<|vc ((gq K a).2 N) b<|rx (vv 1) (vv 2)<|vv 4)
   (uM (N.1 78) (N.1 83) (by decide) (by decide) (qQ (pv 0) (cX dD lJ (by rfl) N.En Boot.«list»<|cx<|vv 1) rfl)
   (uM (N.1 78) (N.1 80) (by decide) (by decide) (qQ (pv 0) (cX dD lJ (by rfl) N.En Boot.«list»<|cx<|vv 2) rfl)
   (uM (N.1 78) (N.1 82) (by decide) (by decide) (qQ (pv 0) (vv 4) rfl)
   (uM (N.1 78) (N.1 81) (by decide) (by decide) (qQ (pv 0) (vc ((fI K a).2 N) b<|rx (vv 1) (vv 2)<|vv 4) rfl)
   (Oj))))))
theorem FZ:bt ["_law_grid_here","_law_limits"] ["_law_grid_here","_law_limits"] (ag<|c4 72):=e_
def sd(K:Pa)(a:Ad):QF K a 8 "_law_net" a.Dl a.Dm ["_law_grid_here","_law_limits"] 2:=⟨_,λN=>by
 exact gl 2 (N.1 55) FZ λc A w s H E b=>ah<|aC<|au<|ID (N.1 61) (Jp N) (b.mono<|by decide) (by rfl) (N.1 79) (N.1 62) eV (dk (vc ((gn K a).2 N) b<|cx<|vv 0)<|vc ((eD K a).2 N) b<|cx<|vv 0) (IB (vc ((f8 K a).2 N) b<|cx<|vv 1)<|Kc) (bO<|bO L_) (bO L_) rfl⟩
theorem fR:bt ["_law_block","_law_rowsums_here","_law_columnsums_here","_law_limits","_law_row","_law_count","_law_pairs","_law_duo"] ["_law_block","_law_rowsums_here","_law_columnsums_here","_law_limits"] (ag<|c4 73):=e_
def lY(K:Pa)(a:Ad):QF K a 4 "_law_good" a.Do a.Dp ["_law_block","_law_rowsums_here","_law_columnsums_here","_law_limits"] 4:=⟨_,λN=>by
 exact gl 8 (N.1 56) fR λc A w s H E b=>ad (bA (cZ<|dm (c9<|cT<|kX N.El<|dk (vv 0)<|sD (d:= .ty "list") (fA (v:= .ty "list") (by rfl) N.En Boot.«list» rfl) (λ_ _=>rfl))<|dY<|aQ (cP b) dR (bF N.Em<|cx<|vv 0)<|bF N.Em<|cx<|vv 1) (ah<|aC<|au<|eA)<|aZ)
   (ad (bJ aA<|bx bW rfl (aX<|vv 0) (dc 4 fR.nd) (ad (bA (cZ<|dm (c9<|cT<|kX N.El<|dk (vv 4)<|sD (d:= .ty "list") (fA (v:= .ty "list") (by rfl) N.En Boot.«list» rfl) (λ_ _=>rfl))<|dY<|aQ (cP b) dR (bF N.Em<|cx<|vv 4)<|bF N.Em<|cx<|vv 2) (ah<|aC<|au<|eA)<|aZ)
   (ah<|bJ aA<|bx bW rfl (aX<|vv 4) (dc 5 fR.nd)<|ah<|bA (cZ<|dm (c9<|cT<|kX N.El<|dk (vv 5)<|sD (d:= .ty "int") (fA (v:= .ty "int") (by rfl) N.Ek Boot.«int» rfl) (λ_ _=>rfl))<|dm (cT<|kX N.El<|dk (vv 5)<|sD (d:= .ty "bool") (fA (v:= .ty "bool") (by rfl) N.Ei Boot.«bool» rfl) (λ_ _=>rfl))<|dY<|aQ f9 iG (vv 5)<|aj) (ah<|aC<|au<|eA)<|aZ)))
   (ad (bA (cZ<|dm (aQ (cP b) dR (vc ((gn K a).2 N) b<|cx<|vv 0)<|vv 1)<|dY<|aQ (cP b) dR (vc ((eD K a).2 N) b<|cx<|vv 0)<|vv 2) (ah<|aC<|au<|eA)<|aZ)
   (ad (bJ (cR (aM aA<|aM aA cb)<|aL<|aL bR)<|bx bW rfl (mr (by rfl) N.Ex<|dk (vv 0)<|vv 3) (bB rfl<|ar (dc 4 fR.nd)<|ar (dc 6 fR.nd) bq)<|ah<|bJ (cR (aM aA<|aM aA cb)<|aL<|aL bR)<|bx bW rfl (mr (by rfl) N.Ex<|dk (vv 4)<|vv 6) (bB rfl<|ar (dc 5 fR.nd)<|ar (dc 7 fR.nd) bq)<|ah<|bA (cZ<|dm (aQ f9 iG (vv 5)<|aS ay aT (vv 7)<|aj)<|dY<|aQ jD me (vv 5)<|aS ay aT (vv 7)<|aj) (ah<|aC<|au<|eA)<|aZ)
   (ah<|aC<|au<|eA))))⟩
theorem zc:bt ["_law_found"] ["_law_found"] (ag<|c4 74):=e_
def i5(K:Pa)(a:Ad):QF K a 2 "_law_whole" a.Dq a.Dr ["_law_found"] 1:=⟨_,λN=>by
 exact gl 1 (N.1 57) zc λb A w s H E c=>ah<|aC<|au<|M8 (kX N.El<|dk (vv 0)<|sD (d:= .ty "int") (fA (v:= .ty "int") (by rfl) N.Ek Boot.«int» rfl) (λ_ _=>rfl))<|M4<|M5<|kX N.El<|dk (vv 0)<|sD (d:= .ty "bool") (fA (v:= .ty "bool") (by rfl) N.Ei Boot.«bool» rfl) (λ_ _=>rfl)⟩
theorem gY:bt ["_law_loop","_law_block","_law_cells","_law_cell","_law_k","_law_other"] ["_law_loop","_law_block"] (ag<|c4 75):=e_
def pT(K:Pa)(a:Ad):QF K a 3 "_law_form" a.Dt a.Du ["_law_loop","_law_block"] 2:=⟨_,λN=>by
 exact gl 6 (N.1 58) gY λc A w s H E b=>ad (bA (cZ<|dm (c9<|cT<|kX N.El<|dk (vv 0)<|sD (d:= .ty "tuple") (fA (v:= .ty "tuple") (by rfl) N.Ew Boot.«tuple» rfl) (λ_ _=>rfl))<|dm (aQ (cP b) dR (bF N.Em<|cx<|vv 0)<|aj)<|dm (c9<|cT<|vc ((i5 K a).2 N) b<|cx<|aS ay aT (vv 0)<|aj)<|dY<|aQ f9 iG (aS ay aT (vv 0)<|aj)<|aj) (ah<|aC<|au<|eA)<|aZ)
   (ad (aF<|d_ 2 gY.nd<|aS ay aT (vv 0)<|aj)
   (ad (bA (cZ<|dm (c9<|cT<|kX N.El<|dk (vv 2)<|sD (d:= .ty "list") (fA (v:= .ty "list") (by rfl) N.En Boot.«list» rfl) (λ_ _=>rfl))<|dm (aQ f9 iG (bF N.Em<|cx<|vv 2)<|aj)<|dY<|aQ (c5 b) d7 (br fY oJ (bF N.Em<|cx<|vv 2)<|aj)<|aj) (ah<|aC<|au<|eA)<|aZ)
   (ad (bJ aA<|bx bW rfl (aX<|vv 2) (dc 3 gY.nd) (ad (bA (cZ<|dm (c9<|cT<|kX N.El<|dk (vv 3)<|sD (d:= .ty "tuple") (fA (v:= .ty "tuple") (by rfl) N.Ew Boot.«tuple» rfl) (λ_ _=>rfl))<|dm (aQ (cP b) dR (bF N.Em<|cx<|vv 3)<|aj)<|dm (c9<|cT<|vc ((i5 K a).2 N) b<|cx<|aS ay aT (vv 3)<|aj)<|dY<|c9<|cT<|vc ((i5 K a).2 N) b<|cx<|aS ay aT (vv 3)<|aj) (ah<|aC<|au<|eA)<|aZ)
   (ah<|bA (cZ<|dm (aQ f9 iG (bU (ul rfl) EF (by rfl) N.Ep Boot.«min»<|cx<|vv 3)<|aj)<|dm (aQ uF GL (aS ay aT (vv 3)<|aj)<|bF N.Em<|cx<|vv 1)<|dY<|aQ uF GL (aS ay aT (vv 3)<|aj)<|bF N.Em<|cx<|aS ay aT (vv 1)<|aj) (ah<|aC<|au<|eA)<|aZ)))
   (ad (bJ (cR (aM aA<|aM aA cb)<|aL<|aL bR)<|bx bW rfl (il (by rfl) N.Ej<|cx<|vv 2) (bB rfl<|ar (dc 4 gY.nd)<|ar (dc 3 gY.nd) bq) (ad (aF<|d_ 5 gY.nd<|aS ay aT (vv 2)<|br fY oJ (br bz cV (vv 4)<|aj)<|bF N.Em<|cx<|vv 2)
   (ah<|bA (cZ<|dm (aQ (cP b) dR (aS ay aT (vv 3)<|br fj gD (aj)<|br fY oJ (vv 4)<|aj)<|aS ay aT (vv 5)<|br fj gD (aj)<|br fY oJ (vv 4)<|aj)<|dY<|aQ (c5 b) d7 (vv 3)<|vv 5) (ah<|aC<|au<|eA)<|aZ)))
   (ah<|aC<|au<|iO (c5 b) d7 (FI b (by rfl) N.Em N.Et<|vv 2)<|bF N.Em<|cx<|vv 2)))))⟩
theorem gm:bt ["_law_loop","_law_one","_law_other","_law_k","_law_cell","_law_apart"] ["_law_loop","_law_one","_law_other"] (ag<|c4 76):=e_
def lX(K:Pa)(a:Ad):QF K a 2 "_law_toward" a.Dv a.Dw ["_law_loop","_law_one","_law_other"] 3:=⟨_,λN=>by
 exact gl 6 (N.1 59) gm λb A w s H E c=>ad (bJ (cR (aM aA<|aM aA cb)<|aL<|aL bR)<|bx bW rfl (il (by rfl) N.Ej<|cx<|aS ay aT (vv 0)<|aj) (bB rfl<|ar (dc 3 gm.nd)<|ar (dc 4 gm.nd) bq) (ad (aF<|d_ 5 gm.nd<|br fj gD (aS ay aT (aS ay aT (vv 2)<|aS ay aT (vv 4)<|aj)<|aS ay aT (vv 4)<|aj)<|aS ay aT (aS ay aT (vv 1)<|aS ay aT (vv 4)<|aj)<|aS ay aT (vv 4)<|aj)
   (ad (bA (aQ (c5 c) d7 (br fY oJ (vv 3)<|aj)<|aj) (ah<|aF<|d_ 5 gm.nd<|br fj gD (aj)<|vv 5)<|aZ)
   (ah<|bA (aQ f9 iG (vv 5)<|aS ay aT (vv 0)<|aj) (ah<|aC<|au<|eA)<|aZ))))
   (ah<|aC<|au<|eA)⟩
theorem cM:bt ["_law_script","_law_bag_here","_law_grid_here","_law_limits","_law_net_here","_law_one","_law_other","_law_handed","_law_told","_law_unlike","_law_row","_law_goal","_law_block","_law_loop"] ["_law_script"] (ag oq):=e_
def qM(K:Pa)(a:Ad):{g:G//∀(P:Py) (w:PD) {mg:a0j} (aa:PZ) (N:vu K mg a) (f:ON) (c:OP) (A:Qc) (M:a0C) (s:OT) (H:Hp) (E:XK),dv 8 (A.deeper<|Rows.envOfC "law" (ag oq) s.heap.objs.size f c)->PSs (gi (hE P w) P w K mg aa ["_law_script","_law_bag_here","_law_grid_here","_law_limits","_law_net_here","_law_one","_law_other","_law_handed","_law_told","_law_unlike","_law_row","_law_goal","_law_block","_law_loop"] "law" (ag oq) f c A M s H E) (cI oq).tail (tG K H g (λ_=>E))}:=⟨_,λP w mg aa N f c A M s H E b=>by
 exact ad (aF<|d_ 2 cM.nd<|vc (zo N) b<|cx<|vv 1)
   (ad (aF<|d_ 3 cM.nd<|vc ((jC K a).2 N) b<|dk (vv 1)<|vv 2)
   (ad (aF<|d_ 4 cM.nd<|vc ((sd K a).2 N) b<|dk (vv 2)<|vv 3)
   (ad (aF<|d_ 5 cM.nd<|vc ((dW K a).2 N) b<|dk (vv 4)<|vc (bw N) b<|dk (vv 1)<|gW (N.1 78) (N.1 64) ((fV K a).2 N) (b.mono<|by decide) (db.nil<|N.1 65) eV (vv 4) rfl)
   (ad (aF<|d_ 6 cM.nd<|vc ((dW K a).2 N) b<|dk (vv 4)<|vc (bw N) b<|dk (vv 1)<|gW (N.1 78) (N.1 64) ((fV K a).2 N) (b.mono<|by decide) (db.nil<|N.1 65) eV (vv 4) rfl)
   (ad (bA (aQ (c5 b) d7 (vc (bw N) b<|dk (vv 1)<|aj)<|aj) (ah<|aF<|d_ 6 cM.nd<|vc ((f8 K a).2 N) b<|cx<|vv 5)<|aZ)
   (ad (aF<|d_ 7 cM.nd<|dZ<|dk (vc ((f8 K a).2 N) b<|cx<|vv 5)<|vc ((f8 K a).2 N) b<|cx<|vv 6)
   (ad (aF<|d_ 8 cM.nd<|vc ((ox K a).2 N) b<|dk (aS ay aT (vv 7)<|aj)<|aS ay aT (vv 7)<|aj)
   (ad (bA (cZ<|dm (aQ (cP b) dR (vv 7)<|dZ<|dk (vv 5)<|vv 6)<|dY<|c9<|cT<|kX N.El<|dk (vv 8)<|sD (d:= .ty "list") (fA (v:= .ty "list") (by rfl) N.En Boot.«list» rfl) (λ_ _=>rfl)) (ah<|aC<|au<|eA)<|aZ)
   (ad (aF<|d_ 9 cM.nd<|aj)
   (ad (bJ (cR (aM aA<|aM aA cb)<|aL<|aL bR)<|bx bW rfl (mr (by rfl) N.Ex<|dk (vv 5)<|vv 6) (bB rfl<|ar (dc 10 cM.nd)<|ar (dc 11 cM.nd) bq)<|ah<|aF<|d_ 9 cM.nd<|br bz cV (vv 9)<|bF N.Em<|cx<|bf rfl (f_ ["_law_at","_law_row","_law_goal"] ["_law_at"] [10,11]) (bZ (by rfl) N.Er<|cx<|bF N.Em<|cx<|vv 10) (λS C e s H=>⟨(dc 0 en),rA<|aQ (cP b) dR (aS ay aT (vv 1)<|vv 0)<|aS ay aT (vv 2)<|vv 0,λD=>aG rfl (vv 0) rfl⟩) aq aw (λD=>aJ))
   (ad (bA (aQ jD me (bF N.Em<|cx<|vv 8)<|vv 9) (ah<|aC<|au<|eA)<|aZ)
   (ad (aF<|d_ 12 cM.nd<|vv 5)
   (ad (bJ aA<|bx bW rfl (aX<|vv 8) (dc 13 cM.nd) (ad (bA (cZ<|dm (c9<|cT<|vc ((pT K a).2 N) b<|dk (vv 13)<|vv 12)<|dY<|c9<|cT<|vc ((lX K a).2 N) b<|rx (vv 13) (vv 12)<|vv 6) (ah<|aC<|au<|eA)<|aZ)
   (ad (aF<|d_ 12 cM.nd<|vc ((jW K a).2 N) b<|dk (vv 12)<|vv 13)
   (ad (bA (c9<|cT<|vc ((lY K a).2 N) b<|y_ (vv 12) (vc ((gn K a).2 N) b<|cx<|vv 2) (vc ((eD K a).2 N) b<|cx<|vv 2)<|vv 3) (ah<|aC<|au<|eA)<|aZ)
   (ah<|bA (aQ (cP b) dR (vc ((dW K a).2 N) b<|dk (vv 4)<|vc ((iS K a).2 N) b<|dk (vv 4)<|vv 12)<|vv 12) (ah<|aC<|au<|eA)<|aZ)))))
   (ah<|aC<|au<|iO (c5 b) d7 (vv 12)<|vv 6))))))))))))))⟩
theorem Li{f:ON}{o:Pd}(F:hL K "law" "law" oq f o)(N:vu K mg a)(T:∀G:Bg,G.ok->∃c,(qM K a).1 [OD,on<|.sh .bag,OD,OD,OD,OD,OD,OD,OD,OD,OD,OD,OD,OD] G=on (.rt<|.bl OK,c)):
  fw P w K mg aa (hE P w) 9 f o ["_law_script"] (HF K):=by
 refine F.okE (k:=8) cM (λM H Q E h=>?_) (λd A D s H M Q E p h=>?_)
 .obtain⟨a,ns,rfl,_⟩:=h
  rfl
 .obtain⟨a1,ns,rfl,r,q,k⟩:=h
  have rest:=(qM K a).2 P w aa N f d A D s H E p;refine⟨_,dB (rest:=(cI oq).tail) (d_ 1 cM.nd<|oA (Gh N) (p.mono<|by decide) rfl (N.1 44).m (N.1 44).F.kp (N.1 44).b .nil zk<|eF (pv 0) ii) rest,?_⟩;refine⟨_,rfl,a1,ns,rfl,r,λb l C g i t u=>?_⟩;obtain⟨G,ok,j⟩:=J6 (K:=K) (a:=a1) (n:=["_law_script","_law_bag_here","_law_grid_here","_law_limits","_law_net_here","_law_one","_law_other","_law_handed","_law_told","_law_unlike","_law_row","_law_goal","_law_block","_law_loop"].length-2) u g i t;obtain⟨c,e⟩:=T G ok;exact⟨_,_,_,G,_,c,j,e,λv I y s fr B=>by cases B.bl;exact k y⟩
end
end Law
namespace L2.Pu
noncomputable def dq:Nat->Nat
 |0=>1
 |n+1=>dq n*(n+1)
noncomputable def pr(l:a0a):Nat:=l.foldr (·*·) 1
theorem KW:pr []=1:=rfl
theorem DA(l m:a0a):pr (l++m)=pr l*pr m:=by
 induction l with
 |nil=>simp[pr]
 |cons x l w=>
  show x*pr (l++m)=x*pr l*pr m;rw[w,TD]
theorem II{w:Type}{l:List w}{i:Nat}{x:w}(h:l[i]?=on x):l.take (i+1)=l.take i++[x]:=by
 rw[List.take_succ,h];rfl
theorem sf{w:Type}{f:w->Nat}{l:List w}{i:Nat}{x:w}(h:l[i]?=on x):pr ((l.take<|i+1).map f)=pr ((l.take i).map f)*f x:=by
 rw[II h,Pw,DA];simp[pr]
theorem sJ:∀n,0<dq n
 |0=>by decide
 |n+1=>Nat.mul_pos (sJ n) (by lia)
theorem G1:∀{n m:Nat},n<=m->dq n<=dq m:=by
 intro n m h
 induction h with
 |refl=>exact OX _
 |step h w=>exact Pl w (W4 _<|by lia)
theorem Oq:dq 40<=2^160:=by decide +kernel
theorem wL{n:Nat}(h:n<=40):dq n<=2^160:=Pl (G1 h) Oq
theorem CZ{l:a0a}(h:∀x∈l,0<x):0<pr l:=by
 induction l with
 |nil=>decide
 |cons x l w=>exact Nat.mul_pos (h x OL)<|w λy a=>h y<|OF _ a
theorem oH{l:a0a}{x:Nat}(h:x∈l):x<=l.sum:=by
 induction l with
 |nil=>cases h
 |cons y l w=>
  rw[Pi];rcases OQ.mp h with rfl|h
  .lia
  .have:=w h;lia
theorem j6{t m:Nat}(h:t<=2^m)(w:m<=999):t<2^1000:=Qp (Pl h<|TH (by decide) w) (Nat.pow_lt_pow_right (by decide)<|by decide)
theorem zy{t n:Nat}(a:t<2^1000)(b:n<2^1000):zA (.int (t:Int)) (.int (n:Int))=on (.int ((t*n:Nat):Int)):=by
 have c:e8 (t:Int)=OK:=O3 (by rw[Uh];exact a);have d:e8 (n:Int)=OK:=O3 (by rw[Uh];exact b);show(if(e8 (t:Int)&&e8 (n:Int))=OK then _ else _)=_;simp only[c,d,Ts,P8];rfl
theorem Op{t g:Nat}(d:0<g)(a:g<2^1000):Ii (.int (t:Int)) (.int (g:Int))=on (.int ((t/g:Nat):Int)):=by
 have b:decide ((0:Int)<(g:Int))=OK:=O3 (by lia);have c:decide (((g:Int)).natAbs.log2<9000)=OK:=O3 (by
  rw[Uh];have:=(Nat.log2_lt (n:=g) (k:=1000)<|by lia).mpr a;lia)
 show(if(decide ((0:Int)<(g:Int))&&decide (((g:Int)).natAbs.log2<9000))=OK then _ else _)=_;simp only[b,c,Ts,P8];rfl
theorem gv(l:a0a):(nI l).sum=((l.sum:Nat):Int):=by
 induction l with
 |nil=>rfl
 |cons x l w=>
  show(x:Int)+(nI l).sum=_;rw[w,Pi,Rq]
theorem uH{l:a0a}{i:Nat}{d:D}(h:((nI l).map D.int)[i]?=on d):∃n,l[i]?=on n/\d= .int (n:Int):=by
 obtain⟨x,a,rfl⟩:=bE h;obtain⟨n,w,rfl⟩:=bE a;exact⟨n,w,rfl⟩
theorem qU(l:a0a):((nI l).map D.int).length=l.length:=by rw[OC,OC]
def Sq(l:a0a)(d:D):Prop:=d=nL l\/d= .tup ((nI l).map D.int)
theorem Sq.seq{l:a0a}{d:D}(h:Sq l d):gy d=on ((nI l).map D.int):=by rcases h with rfl|rfl<;>rfl
theorem Z4{i j:Int}(a:0<=i)(b:i<=10^9)(c:0<=j)(d:j<=10^9):pR [.int i,.int j]=on (bu i (j-i).toNat):=by
 have q:(decide (-(2^62)<=i)&&decide (i<2^62)&&decide (-(2^62)<=j)&&decide (j<2^62))=OK:=by
  simp only[Pr,PR];lia
 show(if(decide (-(2^62)<=i)&&decide (i<2^62)&&decide (-(2^62)<=j)&&decide (j<2^62))=OK then on (bu i (j-i).toNat)else OD)=_;rw[OS q]
theorem rg2{n:Nat}(h:n<=1000):pR [.int 2,.int<|(n:Int)+1]=on (bu 2<|n-1):=by
 rw[Z4 (by decide) (by decide) (by lia) (by lia),show((n:Int)+1-2).toNat=n-1 by lia]
def Zz(t n:Nat):Nat:=t*n/Nat.gcd t n
end L2.Pu
namespace L2.Pu
open L2.Hs
def mq(k:a0c):LI->LI
 |[]=>[k]
 |x::l=>if da k x=OK then k::x::l else if k=x then x::l else x::mq k l
theorem lr{k y:a0c}:∀{l:LI},y∈mq k l↔y=k\/y∈l
 |[]=>by simp[mq]
 |x::l=>by
  unfold mq;split
  .simp
  .split
   .rename_i h
    subst h;simp
   .rw[OQ,lr,OQ]
    exact or_left_comm
theorem yk{k:a0c}:∀{l:LI},Up l->Up (mq k l)
 |[],_=>by unfold mq;exact S5 _ _
 |x::l,h=>by
  obtain⟨a,b⟩:=S3.mp h;unfold mq;split
  .rename_i q
   refine S3.mpr ⟨λy hy=>?_,h⟩;rcases OQ.mp hy with rfl|hy
   .exact q
   .exact qZ q (a y hy)
  .split
   .exact h
   .rename_i q1 q2
    refine S3.mpr ⟨λy hy=>?_,yk b⟩;rcases lr.mp hy with rfl|hy
    .cases q:da x y with
     |true=>rfl
     |false=>exact Pf (oF (by simpa using q1) q) q2
    .exact a y hy
def mR(w:LI):LI:=w.foldr mq []
theorem oj:∀w,Up<|mR w
 |[]=> .nil
 |k::w=>yk<|oj w
theorem fN{y:a0c}:∀{w:LI},y∈mR w↔y∈w
 |[]=>by simp[mR]
 |k::w=>by
  show y∈mq k (mR w)↔_;rw[lr,fN,OQ]
theorem Hy{l:LI}(h:Up l):l.Nodup:=h.imp λ{a b} q e=>by
 subst e;rw[jI]at q;cases q
theorem Kw{w:LI}(b:∀k∈w,1<=k.length){m:LI}(D:m.length<63)(c:∀k∈w,k∈m):lV (w.map ix)=on (.lst<|(mR w).map ix):=by
 refine FX ⟨oj w,Qp (nd_len (Hy<|oj w) λx e=>c x<|fN.mp e) D,λk a=>⟨b k<|fN.mp a,OZ.mpr ⟨k,fN.mp a,rfl⟩⟩,λd E=>?_⟩;obtain⟨k,a,rfl⟩:=OZ.mp E;exact⟨k,fN.mpr a,rfl⟩
end L2.Pu
namespace L2.Nt
noncomputable def sm{w:Type}(l:List w)(f:w->Nat):Nat:=(l.map f).sum
section
variable{d β:Type}
theorem CC{f:d->Nat}:sm [] f=0:=rfl
theorem bL{a:d}{l:List d}{f:d->Nat}:sm (a::l) f=f a+sm l f:=by unfold sm;rw[O0,Pi]
theorem vo{l m:List d}{f:d->Nat}:sm (l++m) f=sm l f+sm m f:=by unfold sm;rw[Pw,TM]
theorem eS{f g:d->Nat}:∀{l:List d},(∀a∈l,f a=g a)->sm l f=sm l g
 |[],_=>rfl
 |a::l,h=>by rw[bL,bL,h a OL,eS λb c=>h b<|OF a c]
theorem CD{g:β->d}{f:d->Nat}{l:List β}:sm (l.map g) f=sm l λb=>f (g b):=by unfold sm;rw[OU];rfl
theorem xG{g:β->List d}{f:d->Nat}:∀{l:List β},sm (l.flatMap g) f=sm l λb=>sm (g b) f
 |[]=>rfl
 |b::l=>by rw[Qm,vo,bL,xG]
theorem xF:∀{l:List d},(sm l λ_=>0)=0
 |[]=>rfl
 |a::l=>by rw[bL,xF]
theorem CF{f g:d->Nat}:∀{l:List d},(sm l λa=>f a+g a)=sm l f+sm l g
 |[]=>rfl
 |a::l=>by rw[bL,bL,bL,CF];lia
theorem qv{c:Nat}{f:d->Nat}:∀{l:List d},(sm l λa=>c*f a)=c*sm l f
 |[]=>rfl
 |a::l=>by rw[bL,bL,qv,Nat.mul_add]
theorem HH{f:a0U}{m:Nat}:∀{n:Nat},m<=n->sm (OV<|m+1) f=sm (OV<|n+1) λa=>if a<=m then f a else 0
 |0,h=>by
  obtain rfl:m=0:=by lia
  exact eS λa d=>by
   have:=O9.mp d;rw[OS<|by lia]
 |n+1,h=>by
  rcases T7 m (n+1)with q|q
  .rw[Q9 (n:=n+1),vo,<-HH (by lia:m<=n),bL,CC,OR<|by lia]
   lia
  .obtain rfl:m=n+1:=by lia
   exact eS λa d=>by
    have:=O9.mp d;rw[OS<|by lia]
noncomputable def bX:a0a->Nat->a0n
 |[],0=>[[]]
 |[],_+1=>[]
 |x::r,c=>(OV<|SL x c+1).flatMap λa=>(bX r<|c-a).map (a::·)
noncomputable def less(r v:a0a):a0a:=T0 (·-·) r v
theorem BC{x c:Nat}{r:a0a}{f:a0a->Nat}:sm (bX (x::r) c) f=sm (OV<|SL x c+1) λa=>sm (bX r<|c-a) λv=>f (a::v):=by
 show sm ((OV<|SL x c+1).flatMap λa=>(bX r<|c-a).map (a::·)) f=_;rw[xG];exact eS λa _=>CD
end
end L2.Nt
namespace L2.Nt
open L2.Pu
noncomputable def ch:Nat->Nat->Nat
 |_,0=>1
 |0,_+1=>0
 |n+1,k+1=>ch n k+ch n (k+1)
theorem rE:∀{n k:Nat},n<k->ch n k=0
 |0,k+1,_=>by simp[ch]
 |n+1,k+1,h=>by
  show ch n k+ch n (k+1)=0;rw[rE (by lia),rE<|by lia]
theorem sO(n:Nat):ch n 0=1:=by cases n<;>rfl
theorem yC:∀n,ch n n=1
 |0=>rfl
 |n+1=>by
  show ch n n+ch n (n+1)=1;rw[yC n,rE<|by lia]
theorem AE(n:Nat):dq (n+1)=(n+1)*dq n:=RQ (dq n)<|n+1
theorem nQ:∀n a b:Nat,a+b=n->ch (a+b) a*(dq a*dq b)=dq (a+b)
 |n,0,b,_=>by rw[sO];simp[dq]
 |n,a+1,0,_=>by rw[Nat.add_zero,yC];simp[dq]
 |0,a+1,b+1,h=>by lia
 |n+1,a+1,b+1,h=>by
  have c:=nQ n a (b+1) (by lia);have d:=nQ n (a+1) b (by lia);have e:a+1+(b+1)=(a+b+1)+1:=by lia
  have f:a+(b+1)=a+b+1:=by lia
  have g:a+1+b=a+b+1:=by lia
  rw[f]at c;rw[g]at d;rw[e];show(ch (a+b+1) a+ch (a+b+1) (a+1))*(dq (a+1)*dq (b+1))=dq (a+b+1+1);rw[AE<|a+b+1,XQ];have i:ch (a+b+1) a*(dq (a+1)*dq (b+1))=(a+1)*dq (a+b+1):=by
   rw[<-c,AE a];simp only[TD,Tf,RQ]
  have j:ch (a+b+1) (a+1)*(dq (a+1)*dq (b+1))=(b+1)*dq (a+b+1):=by
   rw[<-d,AE b];simp only[TD,Tf,RQ]
  rw[i,j,<-XQ,show a+1+(b+1)=a+b+1+1 by lia]
theorem oo{f:a0U}{n:Nat}:sm (OV<|n+1) f=f 0+sm (OV n) λa=>f (a+1):=by
 rw[W3,bL,CD]
theorem FE:∀(x y c:Nat),(sm (OV<|c+1) λa=>ch x a*ch y (c-a))=ch (x+y) c
 |0,y,c=>by
  rw[oo,sO,Nat.one_mul,Nat.sub_zero,Qi];have:(sm (OV c) λa=>ch 0 (a+1)*ch y (c-(a+1)))=0:=(eS λa _=>by rw[rE (by lia),Nat.zero_mul]).trans xF;rw[this];rfl
 |x+1,y,0=>by rw[oo];simp[sO,CC]
 |x+1,y,c+1=>by
  have b:=FE x y<|c+1;have d:=FE x y c;rw[oo]at b;rw[oo];have e:(sm (OV<|c+1) λa=>ch (x+1) (a+1)*ch y (c+1-(a+1)))=(sm (OV<|c+1) λa=>ch x a*ch y (c-a))+sm (OV<|c+1) λa=>ch x (a+1)*ch y (c+1-(a+1)):=by
   rw[<-CF];refine eS λa _=>?_;show(ch x a+ch x (a+1))*_=_;rw[XQ,Nat.add_sub_add_right]
  rw[e,d];have f:x+1+y=x+y+1:=by lia
  rw[f];show _=ch (x+y) c+ch (x+y) (c+1);rw[<-b,sO,sO];lia
theorem vdm(x y c:Nat):(sm (OV<|SL x c+1) λa=>ch x a*ch y (c-a))=ch (x+y) c:=by
 rw[HH<|Nat.min_le_right x c,<-FE];refine eS λa w=>?_;have:=O9.mp w;by_cases q:a<=x
 .rw[OS<|by lia]
 .rw[OR (by lia),rE (by lia),Nat.zero_mul]
def pc:a0a->a0a->Nat
 |x::r,a::v=>ch x a*pc r v
 |_,_=>1
theorem DH:∀(r:a0a) (c:Nat),sm (bX r c) (pc r)=ch r.sum c
 |[],0=>rfl
 |[],c+1=>rfl
 |x::r,c=>by
  rw[BC,Pi,<-vdm];exact eS λa _=>by rw[<-DH r (c-a),<-qv];rfl
theorem gH:∀{r:a0a} {c:Nat} {v:a0a},v∈bX r c->v.sum=c/\(less r v).sum+c=r.sum/\v.length=r.length/\pr (r.map dq)=pc r v*(pr (v.map dq)*pr ((less r v).map dq))
 |[],0,v,h=>by cases PH.mp h;exact⟨rfl,rfl,rfl,rfl⟩
 |[],c+1,v,h=>by cases h
 |x::r,c,v,h=>by
  have w:v∈(OV<|SL x c+1).flatMap λa=>(bX r<|c-a).map (a::·):=h;obtain⟨a,D,d⟩:=Q4.mp w;obtain⟨u,e,rfl⟩:=OZ.mp d;have f:=O9.mp D;obtain⟨g,i,j,k⟩:=gH e;refine⟨by rw[Pi,g];lia,?_,by rw[O4,j,O4],?_⟩
  .show((x-a)::less r u).sum+c=_
   rw[Pi,Pi,<-i];lia
  .show dq x*pr (r.map dq)=(ch x a*pc r u)*((dq a*pr (u.map dq))*(dq (x-a)*pr ((less r u).map dq)))
   have b:=nQ x a (x-a) (by lia);rw[show a+(x-a)=x by lia]at b;rw[k,<-b];simp only[TD,Tf,RQ]
def mu:a0a->Nat
 |[]=>1
 |x::r=>ch (x+r.sum) x*mu r
theorem nq:∀r:a0a,mu r*pr (r.map dq)=dq r.sum
 |[]=>rfl
 |x::r=>by
  show(ch (x+r.sum) x*mu r)*(dq x*pr (r.map dq))=dq (x::r).sum;rw[Pi,<-nQ _ x r.sum rfl,<-nq r];simp only[TD,Tf,RQ]
theorem xV(r:a0a):0<pr (r.map dq):=CZ λx a=>by
 obtain⟨n,_,rfl⟩:=OZ.mp a;exact sJ n
theorem Ls(r:a0a):dq r.sum/pr (r.map dq)=mu r:=by rw[<-nq,Nat.mul_div_cancel _<|xV r]
def Zb:a0a->a0a->Nat
 |_,[]=>1
 |r,c::cs=>sm (bX r c) λv=>mu v*Zb (less r v) cs
theorem Hm:∀{r:a0a},r.sum=0->mu r=1
 |[],_=>rfl
 |x::r,h=>by
  rw[Pi]at h;obtain rfl:x=0:=by lia
  show ch _ 0*mu r=1;rw[sO,Hm<|by lia]
theorem wQ:∀(w r:a0a),r.sum=w.sum->Zb r w=mu r
 |[],r,h=>(Hm h).symm
 |c::w,r,h=>by
  rw[Pi]at h;refine Nat.eq_of_mul_eq_mul_right (xV r) ?_;rw[nq];show sm (bX r c) (λv=>mu v*Zb (less r v) w)*_=_;rw[RQ,<-qv];have e:(sm (bX r c) λv=>pr (r.map dq)*(mu v*Zb (less r v) w))=sm (bX r c) λv=>(dq c*dq (r.sum-c))*pc r v:=by
   refine eS λv a=>?_;obtain⟨b,f,g,d⟩:=gH a;rw[wQ w (less r v) (by lia),d];have D:=nq v;have E:=nq<|less r v;rw[b]at D;rw[show(less r v).sum=r.sum-c by lia]at E;rw[<-D,<-E];simp only[TD,Tf,RQ]
  rw[e,qv,DH,RQ];have:=nQ r.sum c (r.sum-c) (by lia);rw[show c+(r.sum-c)=r.sum by lia]at this;exact this
def i4:a0a->a0a->Prop
 |[],[]=>True
 |a::v,x::r=>a<=x/\i4 v r
 |_,_=>False
theorem i4.refl:∀r,i4 r r
 |[]=>trivial
 |_::r=>⟨OX _,i4.refl r⟩
theorem i4.tr:∀{u v r:a0a},i4 u v->i4 v r->i4 u r
 |[],[],[],_,_=>trivial
 |_::_,_::_,_::_,h,q=>⟨Pl h.1 q.1,h.2.tr q.2⟩
 |[],_::_,_,h,_=>h.elim
 |_::_,[],_,h,_=>h.elim
 |[],[],_::_,_,q=>q.elim
 |_::_,_::_,[],_,q=>q.elim
theorem i4.len:∀{v r:a0a},i4 v r->v.length=r.length
 |[],[],_=>rfl
 |_::_,_::_,h=>Qr (·+1) h.2.len
 |[],_::_,h=>h.elim
 |_::_,[],h=>h.elim
theorem i4.less:∀{v r:a0a},i4 v r->i4 (less r v) r
 |[],[],_=>trivial
 |a::v,x::r,h=>⟨Nat.sub_le x a,h.2.less⟩
 |[],_::_,h=>h.elim
 |_::_,[],h=>h.elim
theorem i4.pr:∀{v r:a0a},i4 v r->L2.Pu.pr (v.map (·+1))<=L2.Pu.pr (r.map (·+1))
 |[],[],_=>OX _
 |_::_,_::_,h=>Nat.mul_le_mul (Nat.succ_le_succ h.1) h.2.pr
 |[],_::_,h=>h.elim
 |_::_,[],h=>h.elim
theorem i4.sum:∀{v r:a0a},i4 v r->v.sum<=r.sum
 |[],[],_=>OX _
 |_::_,_::_,h=>by rw[Pi,Pi];exact U6 h.1 h.2.sum
 |[],_::_,h=>h.elim
 |_::_,[],h=>h.elim
theorem dg:∀{r:a0a} {c:Nat} {v:a0a},v∈bX r c->i4 v r
 |[],0,v,h=>by cases PH.mp h;exact trivial
 |[],c+1,v,h=>by cases h
 |x::r,c,v,h=>by
  have w:v∈(OV<|SL x c+1).flatMap λa=>(bX r<|c-a).map (a::·):=h;obtain⟨a,D,b⟩:=Q4.mp w;obtain⟨u,d,rfl⟩:=OZ.mp b;have e:=O9.mp D;exact⟨by lia,dg d⟩
theorem ma:∀{r v:a0a},i4 v r->v∈bX r v.sum
 |[],[],_=>PH.mpr rfl
 |x::r,a::v,h=>by
  refine Q4.mpr ⟨a,O9.mpr (by rw[Pi];have:=h.1;lia),OZ.mpr ⟨v,?_,rfl⟩⟩;rw[Pi,S8];exact ma h.2
 |[],_::_,h=>h.elim
 |_::_,[],h=>h.elim
theorem oW{w a:Type}{f:w->List a}{n:Nat}:∀{l:List w},(∀x∈l,(f x).length<=n)->(l.flatMap f).length<=l.length*n
 |[],_=>by simp
 |x::l,h=>by
  rw[Qm,O8,O4,Xb,W8];exact U6 (oW λy b=>h y<|OF _ b)<|h x OL
theorem jO:∀(r:a0a) (c:Nat),(bX r c).length<=pr (r.dropLast.map (·+1))
 |[],0=>OX _
 |[],_+1=>Qf _
 |[x],c=>by
  have h:bX [x] c=(OV<|SL x c+1).flatMap λa=>(bX []<|c-a).map (a::·):=rfl;rw[h,Q9,SM,O8];have e:((OV<|SL x c).flatMap λa=>(bX []<|c-a).map (a::·))=[]:=by
   refine R0.mpr λa w=>?_;have:=O9.mp w;obtain⟨n,D⟩:∃n,c-a=n+1:=⟨c-a-1,by lia⟩;rw[D];rfl
  rw[e];cases q:c-SL x c<;>simp[bX,q,pr]
 |x::y::r,c=>by
  have h:=oW (l:=OV<|SL x c+1) (f:=λa=>(bX (y::r)<|c-a).map (a::·)) (n:=pr<|(y::r).dropLast.map (·+1)) λa _=>by rw[OC];exact jO (y::r)<|c-a
  rw[Ps]at h;refine Pl h ?_;show _<=(x+1)*pr ((y::r).dropLast.map (·+1));exact XR _ (by lia)
theorem FC{r:a0a}{m:Nat}(h:r.sum<m):bX r m=[]:=List.eq_nil_iff_forall_not_mem.mpr λv a=>by
 have:=gH a;lia
theorem AD{w D a:Type}{f:w->List D}{g:D->List a}(l:List w):(l.flatMap f).flatMap g=l.flatMap λx=>(f x).flatMap g:=List.flatMap_assoc
theorem zi(r:a0a)(k:Nat):pr ((r.take k).map (·+1))<=pr (r.map (·+1)):=by
 conv=>rhs;rw[<-Sn k r,Pw,DA]
 exact W4 _ (CZ λx a=>by
  obtain⟨n,_,rfl⟩:=OZ.mp a;lia)
theorem uG(l:a0a):(nI l).map Int.toNat=l:=by
 rw[OU];exact(Pk λx _=>rfl).trans<|VV l
theorem i6{l m:a0a}(h:nI l=nI m):l=m:=by rw[<-uG l,h,uG]
theorem DS{w a:Type}{f:w->a}{l:List w}(h:(l.map f).Nodup):l.Nodup:=(Ur.mp h).imp λq e=>q<|Qr f e
theorem v6{D c:Type}{f:D->c}(w:∀a b,f a=f b->a=b){l:List D}(h:l.Nodup):(l.map f).Nodup:=Ur.mpr<|h.imp λq e=>q<|w _ _ e
theorem g0{w:a0a}{k:Nat}(h:k<w.length):w.drop k=w.getD k 0::w.drop (k+1):=by
 rw[PU h,OJ,OE h];rfl
noncomputable def u_:a0b->a0a->Bool
 |p::ps,a::v=>decide (p.1<=a)&&decide (a<=p.2)&&u_ ps v
 |_,_=>OK
def vB(w:a0b)(r:a0a)(c:Nat):a0n:=(bX r c).filter<|u_ w
theorem Kg{w:a0b}{r v:a0a}{c:Nat}(h:v∈vB w r c):v∈bX r c:=(Q8.mp h).1
theorem xy{p:Nat×Nat}{w:a0b}{x:Nat}{r:a0a}{c:Nat}:vB (p::w) (x::r) c=(OV<|SL x c+1).flatMap λa=>if p.1<=a/\a<=p.2 then(vB w r<|c-a).map (a::·)else[]:=by
 show((OV<|SL x c+1).flatMap λa=>(bX r<|c-a).map (a::·)).filter (u_<|p::w)=_;rw[List.filter_flatMap];refine Qr (List.flatMap · _)<|funext λa=>?_;rw[List.filter_map];by_cases q:p.1<=a/\a<=p.2
 .rw[OS q]
  refine Qr (Qt (a::·))<|List.filter_congr λv _=>?_;show(decide (p.1<=a)&&decide (a<=p.2)&&u_ w v)=u_ w v;rw[O3 q.1,O3 q.2];rfl
 .rw[OR q,List.filter_eq_nil_iff.mpr,TZ]
  intro v _ h;have h:(decide (p.1<=a)&&decide (a<=p.2)&&u_ w v)=OK:=h;simp only[Pr,PR]at h;exact q h.1
noncomputable def lb:a0b->a0a->a0a
 |p::ps,x::r=>SL x p.2::lb ps r
 |_,_=>[]
noncomputable def j_(w:a0b):a0a:=w.map (·.1)
theorem Hx:∀{w:a0b} {r:a0a} {c:Nat} {v:a0a},w.length=r.length->v∈vB w r c->(j_ w).sum<=c/\c<=(lb w r).sum
 |[],[],c,v,_,h=>by
  have:=gH<|Kg h;simp at this;simp[j_,lb];lia
 |p::w,x::r,c,v,e,h=>by
  rw[xy]at h;obtain⟨a,D,h⟩:=Q4.mp h;by_cases q:p.1<=a/\a<=p.2
  .rw[OS q]at h
   obtain⟨u,b,rfl⟩:=OZ.mp h;have i:=Hx (by simpa using e) b;have:=O9.mp D;simp only[j_,lb,O0,Pi]at i⊢;lia
  .rw[OR q]at h;cases h
noncomputable def Y9(x:Nat)(p:Nat×Nat)(few a:Nat)(b:a0a×Nat):List (a0a×Nat):=(OV<|SL (SL x p.2+few) b.2+1-few-Vi p.1 (b.2-a)).map λi=>(b.1++[Vi p.1 (b.2-a)+i],b.2-(Vi p.1 (b.2-a)+i))
def lB(w:a0b)(r:a0a)(c:Nat):Nat->List (a0a×Nat)
 |0=>[([],c)]
 |k+1=>(lB w r c k).flatMap<|Y9 (r.getD k 0) (w.getD k (0,0)) ((j_ w).drop<|k+1).sum ((lb w r).drop<|k+1).sum
theorem EZ{b:Type}{f:Nat->List b}{lo n N:Nat}(h:∀a<N,f a≠[]->lo<=a/\a<n)(D:n<=N):(OV N).flatMap f=(OV<|n-lo).flatMap λi=>f (lo+i):=by
 have e:∀{a},a<N->¬(lo<=a/\a<n)->f a=[]:=λ{a} w q=>Q7 λz=>q<|h a w z;obtain⟨d,rfl⟩:∃d,N=n+d:=⟨N-n,by lia⟩;have z:(OV d).flatMap (λa=>f<|n+a)=[]:=R0.mpr λa w=>e (by have:=O9.mp w;lia) (by lia);rw[List.range_add,SM,VN,z,P9];rcases Nat.le_total lo n with q|q
 .obtain⟨m,rfl⟩:∃m,n=lo+m:=⟨n-lo,by lia⟩
  rw[List.range_add,SM,R0.mpr λa w=>e (by have:=O9.mp w;lia) (by have:=O9.mp w;lia),RM,VN,S8]
 .rw[show n-lo=0 by lia,R0.mpr λa w=>e (by have:=O9.mp w;lia) (by have:=O9.mp w;lia)];rfl
theorem va:∀{w:a0b} {r:a0a} (k:Nat),lb (w.drop k) (r.drop k)=(lb w r).drop k
 |_,_,0=>rfl
 |[],r,k+1=>by simp[lb]
 |p::w,[],k+1=>by cases h:(w.drop k)<;>simp[lb,h]
 |p::w,x::r,k+1=>va k
theorem fF{w:Type}{l:List w}{k:Nat}{d:w}(h:k<l.length):l.getD k d=l[k]:=by rw[OJ,OE h];rfl
theorem rq{w a:Type}{f g:w->List a}:∀{l:List w},(∀x∈l,f x=g x)->l.flatMap f=l.flatMap g
 |[],_=>rfl
 |x::l,h=>by rw[Qm,Qm,h x OL,rq λy b=>h y<|OF _ b]
theorem xE{D:a0b}{r:a0a}(j:D.length=r.length)(c:Nat):∀k,k<=r.length->((lB D r c k).flatMap λb=>(vB (D.drop k) (r.drop k) b.2).map (b.1++·))=vB D r c
 |0,_=>by simp[lB]
 |k+1,h=>by
  rw[<-xE j c k (by lia)];show((lB D r c k).flatMap _).flatMap _=_;rw[AD];refine Qr (List.flatMap · (lB D r c k))<|funext λb=>?_;have o:k<r.length:=by lia
  have p:k<D.length:=by lia
  rw[PU o,PU p,fF o,fF p,xy,Rw];rw[EZ (f:=λa=>(if D[k].1<=a/\a<=D[k].2 then(vB (D.drop<|k+1) (r.drop<|k+1)<|b.2-a).map (a::·)else[]).map (b.1++·)) (N:=SL r[k] b.2+1) (lo:=Vi D[k].1<|b.2-((lb D r).drop<|k+1).sum) (n:=SL (SL r[k] b.2+1)<|SL (SL r[k] D[k].2+((j_ D).drop<|k+1).sum) b.2+1-((j_ D).drop<|k+1).sum) (λa d E=>?_)<|TU _ _]
  .unfold Y9
   rw[VN,show SL (SL r[k] b.2+1) (SL (SL r[k] D[k].2+((j_ D).drop<|k+1).sum) b.2+1-((j_ D).drop<|k+1).sum)=SL (SL r[k] D[k].2+((j_ D).drop<|k+1).sum) b.2+1-((j_ D).drop<|k+1).sum from Nat.min_eq_right (by have:=TU r[k] D[k].2;generalize SL r[k] D[k].2=m at*;lia)];refine rq λi t=>?_;have:=O9.mp t;have g:=Pl (TU (SL r[k] D[k].2+((j_ D).drop<|k+1).sum) b.2)<|U7 (Nat.min_le_right _ _) _;rw[OS ⟨Pl (Nat.le_max_left _ _)<|Rj _ _,by generalize SL (_+_) b.2=x at*;generalize Vi D[k].1 _=y at*;lia⟩,OU];exact Pk λv _=>by simp
  .by_cases q:D[k].1<=a/\a<=D[k].2
   .rw[OS q]at E
    obtain⟨w,e⟩:=List.exists_mem_of_ne_nil _ E;obtain⟨w,e,_⟩:=OZ.mp e;obtain⟨v,u,_⟩:=OZ.mp e;have:=Hx (by simp[j]) u;rw[va]at this;unfold j_ at this⊢;rw[Sj]at this;have l:=Yu.mp<|Nat.le_of_lt_succ d;have m:=Yu.mpr ⟨l.1,q.2⟩;have l:=l.2;refine⟨Nat.max_le.mpr ⟨q.1,?_⟩,Nat.lt_min.mpr ⟨d,Nat.lt_sub_of_add_lt<|Nat.lt_succ_of_le<|Yu.mpr ⟨U7 m _,?_⟩⟩⟩<;>clear d m<;>lia
   .rw[OR q]at E;exact Pf rfl E
theorem Kf(c:Nat):vB [] [] c=if(c:Int)=0 then[[]]else[]:=by
 cases c with
 |zero=>rfl
 |succ n=>rw[OR<|by lia];rfl
theorem IM{w:a0b}{r:a0a}(a:w.length=r.length)(c:Nat):((lB w r c r.length).filter λb=>decide ((b.2:Int)=0)).map (·.1)=vB w r c:=by
 rw[<-xE a c r.length (OX _),SF,<-a,SF,a];generalize lB w r c r.length=l
 induction l with
 |nil=>rfl
 |cons b l D=>
  rw[Qm,Tp,<-D,Kf];by_cases q:(b.2:Int)=0
  .rw[OS q,OS<|O3 q];simp
  .rw[OR q,OR<|by simp;lia];rfl
theorem xD{w:a0b}{r:a0a}(c:Nat):∀k,k<=r.length->(lB w r c k).length<=pr ((r.take k).map (·+1))
 |0,_=>OX _
 |k+1,h=>by
  have e:r[k]?=on r[k]:=OE (by lia);rw[sf e];refine Pl (oW (n:=r[k]+1) λb _=>?_) (XR _<|xD c k<|by lia);unfold Y9;rw[OC,Ps,fF (show k<r.length by lia)];refine Pl (Nat.sub_le _ _)<|Nat.sub_le_of_le_add ?_;rw[Nat.add_right_comm];exact Nat.succ_le_succ<|Pl (TU _ _)<|U7 (TU _ _) _
theorem CA(w:a0b)(r:a0a)(c:Nat):∀k,∀b∈lB w r c k,b.2<=c/\b.1.length=k
 |0,b,h=>by cases PH.mp h;exact⟨OX _,rfl⟩
 |k+1,b,h=>by
  obtain⟨d,D,a⟩:=Q4.mp (show b∈(lB w r c k).flatMap _ from h);obtain⟨i,_,rfl⟩:=OZ.mp a;obtain⟨G,E⟩:=CA w r c k d D;exact⟨by show d.2-_<=c;lia,by rw[O8,E];rfl⟩
theorem BH:∀{ps:a0b} {r:a0a},(lb ps r).sum<=r.sum
 |[],r=>Qf _
 |_::_,[]=>OX _
 |p::ps,x::r=>by
  have:=BH (ps:=ps) (r:=r);simp only[lb,Pi];lia
abbrev Wy:=Nat->a0a->a0n
def W_(w:a0a)(W:Wy):Prop:=∀k r,(W k r).Sublist<|bX r<|w.getD k 0
def YI(W:Wy)(L:a0n)(k:Nat):LI:=L.flatMap λr=>(W k r).map λv=>nI<|less r v
def YZ(W:Wy)(L:a0n)(k:Nat):a0n:=(mR<|YI W L k).map λk=>k.map Int.toNat
section
variable{W:Wy}{cs rs:a0a}
theorem lI{L:a0n}{k:Nat}{y:a0c}:y∈YI W L k↔∃r∈L,∃v∈W k r,y=nI (less r v):=by
 unfold YI;constructor
 .intro h
  obtain⟨r,a,h⟩:=Q4.mp h;obtain⟨v,b,rfl⟩:=OZ.mp h;exact⟨r,a,v,b,rfl⟩
 .rintro⟨r,a,v,b,rfl⟩
  exact Q4.mpr ⟨r,a,OZ.mpr ⟨v,b,rfl⟩⟩
theorem zr(L:a0n)(k:Nat):(YZ W L k).map nI=mR (YI W L k):=by
 unfold YZ;rw[OU];refine(Pk λy a=>?_).trans<|VV _;obtain⟨r,_,v,_,rfl⟩:=lI.mp<|fN.mp a;show nI ((nI _).map Int.toNat)=_;rw[uG];rfl
theorem oE{L:a0n}{k:Nat}{u:a0a}:u∈YZ W L k↔∃r∈L,∃v∈W k r,u=less r v:=by
 constructor
 .intro h
  have:nI u∈mR (YI W L k):=by rw[<-zr];exact OZ.mpr ⟨u,h,rfl⟩
  obtain⟨r,a,v,b,e⟩:=lI.mp<|fN.mp this;exact⟨r,a,v,b,i6 e⟩
 .rintro⟨r,a,v,b,rfl⟩
  exact OZ.mpr ⟨nI<|less r v,fN.mpr<|lI.mpr ⟨r,a,v,b,rfl⟩,uG _⟩
def hU(W:Wy)(rs:a0a):Nat->a0n
 |0=>[rs]
 |k+1=>YZ W (hU W rs k) k
theorem we:∀k,(hU W rs k).Nodup
 |0=>S5 _ _
 |k+1=>DS (f:=nI) (by show(Qt nI<|YZ _ _ _).Nodup;rw[zr];exact Hy<|oj _)
theorem j5(b:W_ cs W)(w:rs.sum=cs.sum):∀k,k<=cs.length->∀r∈hU W rs k,i4 r rs/\r.sum=(cs.drop k).sum
 |0,_,r,h=>by cases PH.mp h;exact⟨i4.refl _,w⟩
 |k+1,hk,u,h=>by
  obtain⟨r,c,v,a,rfl⟩:=oE.mp (show u∈YZ W (hU W rs k) k from h);have a:=(b k r).subset a;obtain⟨D,E⟩:=j5 b w k (by lia) r c;have G:=(gH a).2.1;rw[E,g0 (by lia),Pi]at G;exact⟨(dg a).less.tr D,by lia⟩
theorem Jy(a:W_ cs W)(w:rs.sum=cs.sum){k:Nat}(b:k<=cs.length):(hU W rs k).length<=pr (rs.dropLast.map (·+1)):=
 Pl (nd_len (we k) (m:=bX rs (cs.drop k).sum) λr c=>by
  obtain⟨d,e⟩:=j5 a w k b r c;rw[<-e];exact ma d) (jO _ _)
theorem Jr(a:W_ cs W)(w:rs.sum=cs.sum)(e:1<=rs.length)(f:pr (rs.dropLast.map (·+1))<63){k:Nat}(g:k<cs.length):lV ((YI W (hU W rs k) k).map ix)=on (.lst<|(hU W rs<|k+1).map λr=>ix<|nI r):=by
 refine(Kw (m:=(bX rs (cs.drop<|k+1).sum).map nI) ?_ (by rw[OC];exact Qp (jO _ _) f) ?_).trans ?_
 .intro x b
  obtain⟨r,c,v,d,rfl⟩:=lI.mp b;rw[OC,((dg<|(a k r).subset d).less.tr (j5 a w k (by lia) r c).1).len];exact e
 .intro x b
  obtain⟨r,c,v,d,rfl⟩:=lI.mp b;obtain⟨D,E⟩:=j5 a w (k+1) g (less r v)<|oE.mpr ⟨r,c,v,d,rfl⟩;exact OZ.mpr ⟨less r v,by rw[<-E];exact ma D,rfl⟩
 .rw[<-zr,OU];rfl
def Y0(W:Wy)(rs:a0a)(n:Nat):List (Int×a0c):=(OV n).flatMap λk=>(hU W rs k).map λr=>((k:Int),nI r)
theorem EG:∀n,(Y0 W rs n).Nodup
 |0=>U5
 |n+1=>by
  unfold Y0;rw[Q9,SM,Qm,List.flatMap_nil,P9];refine Uq.mpr ⟨EG n,v6 (λr s e=>i6 (Te.mp e).2)<|we n,λx a y b e=>?_⟩;subst e;obtain⟨k,c,h⟩:=Q4.mp a;obtain⟨r,_,rfl⟩:=OZ.mp h;obtain⟨s,_,e⟩:=OZ.mp b;have:=(Te.mp e).1;have d:=O9.mp c;simp only at this;lia
def jm(W:Wy):Nat->Nat->a0a->Nat
 |0,_,_=>1
 |j+1,k,r=>sm (W k r) λv=>jm W j (k+1)<|less r v
def D1(W:Wy):Nat->Nat->a0a->Nat
 |0,_,_=>1
 |j+1,k,r=>sm (W k r) λv=>mu v*D1 W j (k+1) (less r v)
theorem Kx{D:Type}{f g:D->Nat}{l m:List D}(h:l.Sublist m)(q:∀a∈m,f a<=g a):sm l f<=sm m g:=by
 induction h with
 |slnil=>exact OX _
 |cons a _ w=>rw[bL];exact Pl (w λx b=>q x<|OF _ b)<|Nat.le_add_left _ _
 |cons_cons a _ w=>rw[bL,bL];exact U6 (q a OL)<|w λx b=>q x<|OF _ b
theorem wS(a:W_ cs W):∀(j k:Nat) (r:a0a),k+j=cs.length->D1 W j k r<=Zb r (cs.drop k)
 |0,k,r,h=>by rw[show k=cs.length by lia,SF];exact OX _
 |j+1,k,r,h=>by
  rw[g0<|by lia];exact Kx (a k r) λv _=>Yc _ (wS a j (k+1) (less r v)<|by lia)
end
end L2.Nt
namespace L2.Pu
theorem Fs{n:Nat}{f g:a0D}(h:∀i<n,f i<=g i):S n f<=S n g:=by
 induction n with
 |zero=>exact Ux _
 |succ n w=>
  rw[fm,fm];have a:=w λi b=>h i (by lia);have c:=h n (by lia);lia
theorem Im(n:Nat)(f g:a0D):S n (λi=>f i-g i)=S n f-S n g:=by
 induction n with
 |zero=>rfl
 |succ n w=>rw[fm,fm,fm,w];lia
theorem rH{n i:Nat}{v:Int}(h:i<n):S n (λk=>if k=i then v else 0)=v:=by
 induction n with
 |zero=>lia
 |succ n w=>
  rw[fm];by_cases q:i=n
  .subst q
   rw[OS rfl,bN (g:=λ_=>0) λk a=>OR (by lia),lQ,Ru]
  .rw[OR λz=>q z.symm,w (by lia),Rt]
noncomputable def fl(x y:Bool)(l h:Int):Int:=(if x=OK/\y=OO then h else 0)-(if x=OO/\y=OK then l else 0)
def Zt(w D:a0D)(E a:a0u)(r c:Nat)(X Y:Nat->Bool):Int:=
 S c (λj=>if Y j=OK then D j else 0)-S r (λi=>if X i=OK then w i else 0)+S r λi=>S c λj=>fl (X i) (Y j) (E i j)<|a i j
section
variable{m o:a0D}{p l:a0u}{r c:Nat}
theorem IO{g:a0u}(h:∀i<r,∀j<c,p i j<=g i j/\g i j<=l i j)(d:∀i<r,m i=S c (g i))(e:∀j<c,o j=S r λi=>g i j)(X Y:Nat->Bool):0<=Zt m o p l r c X Y:=by
 have f:S c (λj=>if Y j=OK then o j else 0)=S r λi=>S c λj=>if Y j=OK then g i j else 0:=by
  rw[Fq];refine bN λj a=>?_;cases q:Y j with
  |true=>simp only[OS];exact e j a
  |false=>simp only[Pb,Qe];exact(lQ r).symm
 have k:S r (λi=>if X i=OK then m i else 0)=S r λi=>S c λj=>if X i=OK then g i j else 0:=by
  refine bN λi l=>?_;cases q:X i with
  |true=>simp only[OS];exact d i l
  |false=>simp only[Pb,Qe];exact(lQ c).symm
 unfold Zt;rw[f,k,<-Im,<-iW];refine VI (Int.le_of_eq (lQ r).symm)<|Fs λi b=>?_;rw[<-Im,<-iW];refine VI (Int.le_of_eq (lQ c).symm)<|Fs λj a=>?_;have:=h i b j a;unfold fl;cases X i<;>cases Y j<;>simp<;>lia
noncomputable def r_:Nat->a0n
 |0=>[[]]
 |n+1=>r_ n++(r_ n).map (·++[n])
theorem jL:∀(n:Nat) (l:a0a),l∈r_ n->l.Sublist (OV n)
 |0,l,h=>by rw[PH.mp h];exact .slnil
 |n+1,l,h=>by
  rw[Q9];rcases P4.mp h with h|h
  .exact(jL n l h).trans (List.sublist_append_left _ _)
  .obtain⟨a,h',rfl⟩:=OZ.mp h
   exact(jL n a h').append<|List.Sublist.refl _
theorem yD:∀n:Nat,(r_ n).length=2^n
 |0=>rfl
 |n+1=>by
  rw[r_,O8,OC,yD n,Xa];lia
end
section
variable{o m:a0c}{b:LP}{r c:Nat}
abbrev Zu(o m:a0c)(b:LP)(r c:Nat)(X Y:Nat->Bool):Int:=Zt (λi=>o.getD i 0) (λj=>m.getD j 0) (λi j=>(bI b i j).1) (λi j=>(bI b i j).2) r c X Y
theorem Ky{a d:a0a}(e:a.Sublist<|OV r)(f:d.Sublist<|OV c):uC m b r c a d-qT o a=Zu o m b r c (λi=>decide (i∈a)) (λj=>decide (j∈d)):=by
 rw[IX e f];unfold qT Zu Zt;rw[oi f,oi e];have h:∀(n:Nat) (l:a0a) (g:a0D),S n (λj=>if decide (j∈l)=OK then g j else 0)=S n (λj=>if j∈l then g j else 0):=λn l g=>bN λj _=>by simp
 rw[h,h];have k:(S r λi=>S c λj=>hF b a d i j)=S r λi=>S c λj=>fl (decide (i∈a)) (decide (j∈d)) (bI b i j).1 (bI b i j).2:=by
  refine bN λi _=>bN λj _=>?_;unfold hF fl;simp
 simp only[k];lia
def v7(m:a0c)(b:LP)(r c:Nat)(a:a0a):a0a:=(OV c).filter λj=>decide (gb m b r a j<hG b a j)
end
end L2.Pu
namespace L2.Nt
open L2.Pu
def wh(W:Wy)(j k:Nat)(r:a0a):a0n:=(W k r).filter λv=>decide ((0:Int)<((jm W j (k+1) (less r v):Nat):Int))
def lj(f:a0a->Nat):a0n->Nat->a0a×Nat
 |[],n=>([],n)
 |v::l,n=>if n<f v then(v,n)else lj f l (n-f v)
theorem wK{f:a0a->Nat}:∀{l:a0n} {n:Nat},n<sm l f->(lj f l n).1∈l/\(lj f l n).2<f (lj f l n).1
 |[],n,h=>by cases h
 |v::l,n,h=>by
  unfold lj;rw[bL]at h;by_cases q:n<f v
  .rw[OS q];exact⟨OL,q⟩
  .rw[OR q]
   obtain⟨a,b⟩:=wK (f:=f) (l:=l) (n:=n-f v) (by lia);exact⟨OF _ a,b⟩
def C_(W:Wy):Nat->Nat->a0a->Nat->a0n
 |0,_,_,_=>[]
 |j+1,k,r,n=>(lj (λv=>jm W j (k+1)<|less r v) (wh W j k r) n).1::C_ W j (k+1) (less r (lj (λv=>jm W j (k+1)<|less r v) (wh W j k r) n).1) (lj (λv=>jm W j (k+1)<|less r v) (wh W j k r) n).2
def Wk(W:Wy):Nat->a0a->a0n->Prop
 |_,_,[]=>True
 |k,r,v::vs=>v∈W k r/\Wk W (k+1) (less r v) vs
section
variable{W:Wy}{cs:a0a}
theorem vn{w:Type}{f:w->Nat}:∀{l:List w},sm (l.filter λv=>decide ((0:Int)<((f v:Nat):Int))) f=sm l f
 |[]=>rfl
 |v::l=>by
  rw[Tp];by_cases q:(0:Int)<((f v:Nat):Int)
  .rw[OS<|O3 q,bL,bL,vn]
  .rw[OR (λz=>q<|QG z),bL,vn];lia
theorem BZ(j k:Nat)(r:a0a):(sm (wh W j k r) λv=>jm W j (k+1)<|less r v)=jm W (j+1) k r:=vn
theorem EI:∀{j k n:Nat} {r:a0a},(C_ W j k r n).length=j
 |0,_,_,_=>rfl
 |j+1,k,n,r=>by unfold C_;rw[O4,EI]
theorem HZ:∀{j k n:Nat} {r:a0a},n<jm W j k r->Wk W k r (C_ W j k r n)
 |0,_,_,_,_=>trivial
 |j+1,k,n,r,h=>by
  rw[<-BZ]at h;obtain⟨a,b⟩:=wK h;exact⟨(Q8.mp a).1,HZ b⟩
theorem HW{w:Type}{f:w->Nat}{a:w}:∀{l:List w},a∈l->f a<=sm l f
 |b::l,h=>by
  rw[bL];rcases OQ.mp h with rfl|h
  .lia
  .have:=HW (f:=f) h;lia
theorem uZ:∀{j k:Nat} {r:a0a} {w:a0n},Wk W k r w->w.length=j->0<jm W j k r
 |_,_,_,[],_,rfl=>Nat.one_pos
 |_,k,r,v::w,h,rfl=>Pj (uZ h.2 rfl)<|HW (f:=λv=>jm W w.length (k+1)<|less r v) h.1
theorem MZ{j k:Nat}{r v:a0a}{w:a0n}(h:Wk W k r<|v::w)(e:w.length=j):v∈wh W j k r:=Q8.mpr ⟨h.1,O3 (by have:=uZ h.2 e;lia)⟩
def tx(f:a0a->Nat)(v:a0a):a0n->Nat
 |[]=>0
 |u::l=>if u=v then 0 else f u+tx f v l
def kq(u v:a0a):a0a:=T0 (·+·) u v
def sG(n:Nat):a0n->a0a
 |[]=>Pg n 0
 |v::vs=>kq v<|sG n vs
theorem wg:∀{v r:a0a},v.length=r.length->less (kq v r) v=r/\i4 v (kq v r)
 |[],[],_=>⟨rfl,trivial⟩
 |x::v,y::r,h=>by
  obtain⟨a,b⟩:=wg (v:=v) (r:=r) (by simpa using h);refine⟨?_,Rj _ _,b⟩;show(x+y-x)::less (kq v r) v=_;rw[a,S8]
theorem xg:∀{v r:a0a},i4 v r->kq v (less r v)=r
 |[],[],_=>rfl
 |x::v,y::r,h=>by
  show(x+(y-x))::kq v (less r v)=_;rw[xg h.2,Nat.add_sub_cancel' h.1]
 |[],_::_,h=>h.elim
 |_::_,[],h=>h.elim
theorem ou{n:Nat}:∀{w:a0n},(∀v∈w,v.length=n)->(sG n w).length=n
 |[],_=>QZ
 |v::w,h=>by
  show(T0 _ _ _).length=n;rw[Vf,h v OL,ou λu a=>h u<|OF _ a,UU]
theorem Kv:∀{r:a0a},r.sum=0->r=Pg r.length 0
 |[],_=>rfl
 |x::r,h=>by
  rw[Pi]at h;obtain rfl:x=0:=by lia
  rw[O4,QN,<-Kv (r:=r) (by lia)]
theorem rN(a:W_ cs W):∀{w:a0n} {k:Nat} {r:a0a},Wk W k r w->k+w.length=cs.length->r.sum=(cs.drop k).sum->w.map P0=cs.drop k/\r=sG r.length w/\∀v∈w,v.length=r.length
 |[],k,r,_,e,s=>by
  have f:cs.drop k=[]:=QT (by simpa using e▸OX _);rw[f]at s⊢;exact⟨rfl,Kv s,λ_ h=>by cases h⟩
 |v::w,k,r,h,e,s=>by
  rw[O4]at e;have b:=(a k r).subset h.1;obtain⟨E,K,G,_⟩:=gH b;have D:=dg b;rw[g0 (by lia),Pi]at s;obtain⟨g,c,d⟩:=rN a h.2 (by lia) (by lia);have i:=D.less.len;rw[i]at c d;refine⟨by rw[g0 (by lia),O0,g,E],?_,λu hu=>?_⟩
  .show r=kq v (sG r.length w)
   rw[<-c,xg D]
  .rcases OQ.mp hu with rfl|hu
   .exact G
   .exact d u hu
theorem Hu{n:Nat}:∀{w:a0n} {k:Nat},(∀v∈w,v.length=n)->(∀i r v,w[i]?=on v->i4 v r->v∈W (k+i) r)->Wk W k (sG n w) w
 |[],_,_,_=>trivial
 |v::w,k,h,hw=>by
  have b:∀u∈w,u.length=n:=λu a=>h u<|OF _ a;obtain⟨c,d⟩:=wg (v:=v) (r:=sG n w) (by rw[h v OL,ou b]);refine⟨hw 0 _ v rfl d,?_⟩;show Wk W (k+1) (less (kq v<|sG n w) v) w;rw[c];exact Hu b λi r u a D=>by
   have:=hw (i+1) r u a D;rwa[show k+(i+1)=k+1+i by lia]at this
theorem k9:∀{l:a0a} {i x y:Nat},l[i]?=on x->(l.set i y).sum+x=l.sum+y
 |a::l,0,x,y,h=>by
  cases h;show(y::l).sum+a=(a::l).sum+y;rw[Pi,Pi];lia
 |a::l,i+1,x,y,h=>by
  have:=k9 (l:=l) (i:=i) (x:=x) (y:=y) h;show(a::l.set i y).sum+x=(a::l).sum+y;rw[Pi,Pi];lia
theorem Hw:∀(r:a0a),(bX r r.sum).length<=1
 |[]=>OX _
 |x::r=>by
  have h:bX (x::r) (x::r).sum=(OV<|SL x (x+r.sum)+1).flatMap λa=>(bX r<|x+r.sum-a).map (a::·):=by rw[Pi];rfl
  rw[h,show SL x (x+r.sum)=x by lia,Q9,SM,O8];have e:((OV x).flatMap λa=>(bX r<|x+r.sum-a).map (a::·))=[]:=by
   refine R0.mpr λa w=>?_;have:=O9.mp w;rw[FC<|by lia];rfl
  rw[e,Qm,List.flatMap_nil,P9,OC,S8];have:=Hw r;simpa using this
theorem i4.dl:∀{u v:a0a},i4 u v->i4 u.dropLast v.dropLast
 |[],[],_=>trivial
 |[_],[_],_=>trivial
 |_::_::_,_::_::_,h=>⟨h.1,h.2.dl⟩
 |[_],_::_::_,h=>h.2.elim
 |_::_::_,[_],h=>h.2.elim
 |[],_::_,h=>h.elim
 |_::_,[],h=>h.elim
theorem y6{w:Type}{f:w->Nat}{n:Nat}:∀{l:List w},(∀a∈l,f a<=n)->sm l f<=l.length*n
 |[],_=>Qf _
 |a::l,h=>by
  rw[bL,O4,Xb,W8];exact U6 (y6 λb c=>h b<|OF _ c)<|h a OL
theorem HB{W:Wy}{cs w:a0a}(a:W_ cs W)(b:pr (w.dropLast.map (·+1))<63):∀(j k:Nat) (r:a0a),k+(j+1)=cs.length->r.sum=(cs.drop k).sum->i4 r w->jm W (j+1) k r<=62^j
 |0,k,r,e,s,_=>by
  rw[g0 (by lia),QT<|by lia]at s;have D:r.sum=cs.getD k 0:=by simpa using s
  refine Pl (y6 (n:=1) λ_ _=>OX _) ?_;have:=(a k r).length_le;rw[<-D]at this;have:=Hw r;lia
 |j+1,k,r,e,s,le=>by
  refine Pl (y6 (n:=62^j) λv c=>?_) ?_
  .have hm:=(a k r).subset c
   have q:=(gH hm).2.1;rw[g0 (by lia),Pi]at s;exact HB a b j (k+1) (less r v) (by lia) (by lia)<|(dg hm).less.tr le
  .rw[Xa,RQ]
   refine Yc _ ?_;have:=(a k r).length_le;have:=jO r<|cs.getD k 0;have:=le.dl.pr;lia
theorem MR{u v:a0a}{i x y:Nat}(a:u[i]?=on x)(b:v[i]?=on y):(kq u v)[i]?=on (x+y):=by
 unfold kq;rw[W7,a,b]
theorem CO{n i:Nat}:∀{D:a0n},(∀v∈D,v.length=n)->i<n->(sG n D).getD i 0=(D.map λv=>v.getD i 0).sum
 |[],_,hi=>by
  show(Pg n 0).getD i 0=0;rw[OJ,Ro,OS hi];rfl
 |v::D,h,hi=>by
  have a:∀w∈D,w.length=n:=λw b=>h w<|OF _ b;have c:=h v OL;have d:=ou a;rw[O0,Pi,<-CO a hi];show(kq v<|sG n D).getD i 0=_;rw[OJ,MR (OE<|by lia) (OE<|by lia),fF (by lia),fF<|by lia];rfl
def YY(W:Wy):Nat->Nat->a0a->List a0n
 |0,_,_=>[[]]
 |j+1,k,r=>(W k r).flatMap λv=>(YY W j (k+1)<|less r v).map (v::·)
variable{a:a0a}
theorem lF:∀(j k:Nat) (r:a0a),(YY W j k r).length=jm W j k r
 |0,_,_=>rfl
 |j+1,k,r=>by
  show((W k r).flatMap _).length=_;rw[List.length_flatMap];show _=((W k r).map _).sum;congr 1;exact Pk λv _=>by rw[OC,lF]
theorem vQ:∀{j k:Nat} {r:a0a} {w:a0n},w∈YY W j k r->Wk W k r w/\w.length=j
 |0,_,_,w,h=>by cases PH.mp h;exact⟨trivial,rfl⟩
 |j+1,k,r,w,h=>by
  obtain⟨v,a,b⟩:=Q4.mp (show w∈(W k r).flatMap _ from h);obtain⟨D,c,rfl⟩:=OZ.mp b;obtain⟨d,e⟩:=vQ c;exact⟨⟨a,d⟩,by rw[O4,e]⟩
theorem rP:∀(r:a0a) (c:Nat),(bX r c).Nodup
 |[],0=>S5 _ _
 |[],_+1=>U5
 |x::r,c=>by
  show((OV<|SL x c+1).flatMap λa=>(bX r<|c-a).map (a::·)).Nodup;refine List.pairwise_flatMap.mpr ⟨λa _=>v6 (λ_ _ e=>(X6 e).2)<|rP r<|c-a,UK.imp λ{a b} n u d w f e=>?_⟩;obtain⟨_,_,rfl⟩:=OZ.mp d;obtain⟨_,_,rfl⟩:=OZ.mp f;exact n (X6 e).1
theorem xa{f:a0a->List a0n}{t:a0a->Nat}(d:∀u,(f u).length=t u):∀{l:a0n} {i:Nat} {D:a0n},l.Nodup->(l.flatMap λu=>(f u).map (u::·))[i]?=on D->
  ∃v w a,v∈l/\D=v::w/\(f v)[a]?=on w/\i=tx t v (l.filter λu=>decide ((0:Int)<((t u:Nat):Int)))+a/\lj t (l.filter λu=>decide ((0:Int)<((t u:Nat):Int))) i=(v,a)
 |[],i,D,_,h=>by simp at h
 |u::l,i,D,nd,h=>by
  rw[Qm]at h;have g:∀v l,tx t v (u::l)=if u=v then 0 else t u+tx t v l:=λ_ _=>rfl;have j:∀l n,lj t (u::l) n=if n<t u then(u,n)else lj t l (n-t u):=λ_ _=>rfl;have b:((f u).map (u::·)).length=t u:=by rw[OC,d]
  rw[Tp];rcases T7 i (t u)with q|q
  .rw[RG (by rw[b];exact q),OI]at h
   cases e:(f u)[i]? with
   |none=>rw[e]at h;cases h
   |some w=>
    rw[e]at h;cases h;rw[OS<|O3<|by lia];exact⟨u,w,i,OL,rfl,e,by rw[g,OS rfl,Qi],by rw[j,OS q]⟩
  .rw[QR (by rw[b];exact q),b]at h
   obtain⟨v,w,a,k,o,p,m,c⟩:=xa d (Pz.mp nd).2 h;have E:u≠v:=λz=>(Pz.mp nd).1<|z▸k;refine⟨v,w,a,OF _ k,o,p,?_⟩;by_cases z:(0:Int)<((t u:Nat):Int)
   .rw[OS<|O3 z,g,OR E,j,OR<|by lia]
    exact⟨by lia,c⟩
   .rw[OR (λy=>z<|QG y)]
    rw[show i-t u=i by lia]at m c;exact⟨m,c⟩
def KX(W:Wy):Nat->a0a->a0n->Nat
 |_,_,[]=>0
 |k,r,v::vs=>tx (λu=>jm W vs.length (k+1)<|less r u) v (wh W vs.length k r)+KX W (k+1) (less r v) vs
theorem v5{W:Wy}(D:∀k r,(W k r).Nodup):∀{j k i:Nat} {r:a0a} {w:a0n},(YY W j k r)[i]?=on w->C_ W j k r i=w/\KX W k r w=i
 |0,k,i,r,w,h=>by
  cases i with
  |zero=>cases h;exact⟨rfl,rfl⟩
  |succ i=>cases h
 |j+1,k,i,r,w,h=>by
  obtain⟨v,E,b,n,rfl,a,c,d⟩:=xa (f:=λv=>YY W j (k+1)<|less r v) (t:=λv=>jm W j (k+1)<|less r v) (λu=>lF _ _ _) (D k r) h;obtain⟨e,g⟩:=v5 D a;have l:=(vQ<|OW a).2;refine⟨?_,?_⟩
  .have m:lj (λv=>jm W j (k+1)<|less r v) (wh W j k r) i=(v,b):=d
   show(lj _ (wh W j k r) i).1::C_ W j (k+1) (less r (lj _ (wh W j k r) i).1) (lj _ (wh W j k r) i).2=_;rw[m,e]
  .show tx _ v (wh W E.length k r)+KX W (k+1) (less r v) E=_
   rw[l,g];exact c.symm
end
end L2.Nt
namespace Law
open L2 L2.Pu L2.Nt
section
variable{K:Pa}{a:Ad}{β:Bg}
abbrev tN(l:a0a):D:=ix<|nI l
abbrev eN(b:a0a×Nat):D:= .tup [tN b.1,.int (b.2:Int)]
abbrev pN(p:Nat×Nat):D:=pD ((p.1:Int),(p.2:Int))
def B4(r:a0a):Prop:=1<=r.length/\r.length<=4/\r.sum<=40/\pr (r.map (·+1))<=500
theorem AX{f g:FD}{δ:Dn}{x y:D}{ds a:a0e}(b:f δ β=on (.ok x,β))(c:g δ β=on (.ok y,β))(d:gy x=on ds)(e:gy y=on a):pX (ae f<|ae g az) δ β=on (.ok<|fE ds a,β):=bQ (aa b<|aa c rfl) (by
 unfold Fw;simp only[d,e,Tj,QI])
theorem Z3{a:Nat}{h:Int}(b:-1000<=h)(c:h<=1000)(d:a<=1000):pR [.int (a:Int),.int h]=on ((OV (h-a).toNat).map λi=>D.int ((a+i:Nat):Int)):=by
 have e:pR [.int (a:Int),.int h]=on (bu a (h-a).toNat):=by
  simp only[pR];rw[OS<|by simp only[Pr,PR];lia]
 rw[e];exact Qr on (Pk λi _=>by congr 1)
theorem addT{l:a0a}{c:Nat}(h:l.length<=100):ir (tN l) (.tup [.int (c:Int)])=on (tN<|l++[c]):=by
 cases l with
 |nil=>rfl
 |cons x l=>
  show(if _ then _ else _)=_;rw[OS<|bp<|by simp at h⊢;lia];simp[ix]
theorem BW(l:a0a)(k:Nat):h9 [.lst<|((nI l).map D.int).drop k]=on (.int (((l.drop k).sum:Nat):Int)):=by
 rw[<-Sj,<-Sj];exact(eB _).trans (by rw[<-gv])
theorem BL:∀{r:a0a} {ps:a0b},(r.zip ps).map (λq=>D.int<|SL (q.1:Int) (q.2.2:Int))=(nI<|lb ps r).map D.int
 |[],_=>by cases ‹a0b›<;>rfl
 |_::_,[]=>rfl
 |x::r,p::ps=>by
  have e:=BL (r:=r) (ps:=ps);show _::_=D.int ((SL x p.2:Nat):Int)::(nI<|lb ps r).map D.int;rw[<-e];show D.int (SL (x:Int) (p.2:Int))::_=_;rw[show SL (x:Int) (p.2:Int)=((SL x p.2:Nat):Int) by lia];rfl
theorem BI:∀{a:a0b} {r:a0a} {k:Nat} (b:k<a.length) (c:k<r.length),(lb a r)[k]?=on (SL r[k] a[k].2)
 |p::a,x::r,0,_,_=>rfl
 |p::a,x::r,k+1,b,c=>BI (k:=k) (by simpa using b) (by simpa using c)
abbrev wJ(a:a0b)(r:a0a)(c:Nat)(w:D)(b d e:a0E):Ds:=[on<|.sh<|tN r,on<|.sh<|.int (c:Int),on<|.sh<|.lst<|a.map pN,on<|.sh<|.lst<|(nI<|j_ a).map .int,on<|.sh<|.lst<|(nI<|lb a r).map .int,on<|.sh w,b,d,e]
theorem MB{w:a0b}{r:a0a}{c:Nat}(H:B4 r)(v:w.length=r.length)(A:∀p∈w,p.1<=40/\p.2<=40)(R:c<=40):(lZ K a).1 [tN r,.int (c:Int),.lst<|w.map pN] β=on (.ok<|.lst<|(vB w r c).map tN,β):=by
 obtain⟨_,T,G,U⟩:=H;have I:r.length<=Pe:=bp (by lia);have o:∀k,k<=r.length->(lB w r c k).length<=Pe:=λk m=>bp (Pl (xD c k m)<|Pl (zi r k)<|by lia);unfold lZ
 dsimp only
 refine aK ?_;refine aE (d:= .lst<|(nI<|j_ w).map .int) (β1:=β) ?_ ?_
 .have:=bo (nv:=2) (b0:=[]) (it:=cQ<|af 2) (tg:=v_<|dn (fy 0)<|dn (fy 1) iB) (f:=af 0) (δ:=vw<|wJ w r c .non OD OD OD) (β:=β) w pN (λp=> .int (p.1:Int)) rfl (λx _=>⟨[on<|.int (x.1:Int),on<|.int (x.2:Int)],rfl,rfl⟩) (by rw[v];exact I)
  refine Eq.trans this ?_;unfold j_;rw[OU,OU];rfl
 refine aE (d:= .lst<|(nI<|lb w r).map .int) (β1:=β) ?_ ?_
 .rw[<-BL]
  exact bo (nv:=3) (b0:=[]) (it:=pX<|ae (af 0)<|ae (af 2)<|az) (tg:=v_<|dn (fy 0)<|dn (v_<|dn (fy 1)<|dn (fy 2) iB) iB) (f:=aV wb<|ae (af 0)<|ae (af 2)<|az) (δ:=vw<|wJ w r c .non OD OD OD) (β:=β) (r.zip w) (λq=>D.tup [.int (q.1:Int),pN q.2]) _ (by
   rw[<-lU (λx:Nat=>D.int (x:Int)) pN];refine AX (x:=tN r) (y:= .lst<|w.map pN) rfl rfl ?_ rfl;show on _=on _;rw[OU];rfl) (λq _=>⟨[on<|.int (q.1:Int),on<|.int (q.2.1:Int),on<|.int (q.2.2:Int)],rfl,ai rfl Gr⟩) (bp<|by rw[RK];lia)
 refine aE (d:= .lst<|(lB w r c 0).map eN) (β1:=β) (ai (aa (ai (aa (ai rfl rfl)<|aa rfl rfl) hZ) rfl) zI) ?_;refine bH (ds:=bu 0 r.length) (β1:=β) (bQ (aa (ai (z:= .int (r.length:Int)) rfl (by show on (D.int _)=_;rw[OC,OC])) rfl)<|up (by lia)<|by lia) (λk δ C=>β=C/\∃B t u,δ=wJ w r c (.lst<|(lB w r c k).map eN) B t u) ⟨rfl,OD,OD,OD,rfl⟩ ?_ ?_
 .rintro k d δ _ hd ⟨rfl,B,t,u,rfl⟩
  obtain⟨m,rfl⟩:=zd hd;have j:k<w.length:=by lia
  have J:w[k]?=on w[k]:=OE j;have b40:=A _<|PF j;have W:(j_ w).sum<=160:=by
   have g:∀l:a0b,(∀p∈l,p.1<=40/\p.2<=40)->(j_ l).sum<=40*l.length:=λl=>by
    induction l with
    |nil=>intro _;exact OX _
    |cons p l E=>
     intro h;have:=E λq v=>h q<|OF _ v;have:=(h p OL).1;simp only[j_,O0,Pi,O4]at*;lia
   have:=g w A;lia
  have F:∀(l:a0a) (n:Nat),(l.drop n).sum<=l.sum:=λl n=>by
   conv=>rhs;rw[<-Sn n l,TM]
   lia
  have L:=F (j_ w)<|k+1;have N:=Pl (F (lb w r)<|k+1) BH;refine⟨wJ w r c (.lst<|(lB w r c k).map eN) (on<|.sh<|.int (k:Int)) t u,rfl,?_⟩;refine aE (d:= .int ((((j_ w).drop<|k+1).sum:Nat):Int)) (β1:=β) (ai (aa (mJ rfl<|cc rfl rfl rfl) rfl)<|(Qr (λl=>h9 [.lst l])<|qc (k:=k+1)).trans<|BW _ _) ?_;refine aE (d:= .int ((((lb w r).drop<|k+1).sum:Nat):Int)) (β1:=β) (ai (aa (mJ rfl<|cc rfl rfl rfl) rfl)<|(Qr (λl=>h9 [.lst l])<|qc (k:=k+1)).trans<|BW _ _) ?_;refine am<|aE (d:= .lst<|(lB w r c<|k+1).map eN) (β1:=β) ?_<|aY ⟨rfl,_,_,_,rfl⟩;have e:(lB w r c<|k+1).map eN=(lB w r c k).flatMap λb=>(Y9 r[k] w[k] ((j_ w).drop<|k+1).sum ((lb w r).drop<|k+1).sum b).map eN:=by
   show((lB w r c k).flatMap _).map eN=_;rw[Rw,fF m,fF j]
  rw[e];refine yA (lB w r c k) eN _ rfl (λb A=>⟨[on<|tN b.1,on<|.int (b.2:Int),OD,on<|.lst<|(nI<|j_ w).map .int,on<|.int (k:Int),on<|.int ((((lb w r).drop<|k+1).sum:Nat):Int),on<|.lst<|(nI<|lb w r).map .int,on<|.int ((((j_ w).drop<|k+1).sum:Nat):Int)],rfl,?_⟩) (by
   rw[<-e,OC];exact o (k+1) m)
  obtain⟨X,M⟩:=CA w r c k b A;have Y:=oH<|PF m;unfold Y9;generalize ((j_ w).drop<|k+1).sum=few at*;generalize ((lb w r).drop<|k+1).sum=most at*;refine(vX (OV<|SL (SL r[k] w[k].2+few) b.2+1-few-Vi w[k].1 (b.2-most)) (λi=>D.int ((Vi w[k].1 (b.2-most)+i:Nat):Int)) (λi=>eN (b.1++[Vi w[k].1 (b.2-most)+i],b.2-(Vi w[k].1 (b.2-most)+i))) ?_ ?_).trans (by rw[OU];rfl)
  .refine bQ (as:=[.int ((Vi w[k].1 (b.2-most):Nat):Int),.int<|SL ((SL r[k] w[k].2:Nat):Int) ((b.2:Int)-few)+1]) (aa (ai (aa (cc rfl rfl<|cf (d:= .int (w[k].1:Int)) ?_)<|aa (cc rfl rfl rfl) rfl)<|Lx.trans ?_)<|aa (cc (ai (aa (cc rfl rfl<|cf (d:= .int ((SL r[k] w[k].2:Nat):Int)) ?_)<|aa (cc rfl rfl rfl) rfl) Gr) rfl rfl) rfl) ((Z3 (by lia) (by lia)<|by lia).trans ?_)
   .unfold j_
    rw[OI,OI,OI,J];rfl
   .rw[show Vi (w[k].1:Int) ((b.2:Int)-(most:Int))=((Vi w[k].1 (b.2-most):Nat):Int) by lia]
   .rw[OI,OI,BI j m];rfl
   .rw[show(SL ((SL r[k] w[k].2:Nat):Int) ((b.2:Int)-few)+1-((Vi w[k].1 (b.2-most):Nat):Int)).toNat=SL (SL r[k] w[k].2+few) b.2+1-few-Vi w[k].1 (b.2-most) by generalize SL r[k] w[k].2=x;generalize Vi w[k].1 (b.2-most)=y;lia]
  .refine λi O=>⟨[on<|tN b.1,on<|.int (b.2:Int),on<|.int ((Vi w[k].1 (b.2-most)+i:Nat):Int),on<|.lst<|(nI<|j_ w).map .int,on<|.int (k:Int),on<|.int (most:Int),on<|.lst<|(nI<|lb w r).map .int,on<|.int (few:Int)],rfl,ai (aa (cc rfl (ai rfl rfl)<|addT (l:=b.1) (c:=Vi w[k].1 (b.2-most)+i)<|by lia)<|aa (cc rfl rfl rfl) rfl)<|hZ.trans ?_⟩
   have Q:=O9.mp O;show on (D.tup [_,.int _])=on (D.tup [_,.int _]);rw[show(b.2:Int)-((Vi w[k].1 (b.2-most)+i:Nat):Int)=((b.2-(Vi w[k].1 (b.2-most)+i):Nat):Int) by lia]
 .rintro δ _ ⟨rfl,B,t,u,rfl⟩
  rw[qJ];have h:=kh (nv:=2) (b0:=[]) (it:=cQ<|af 5) (tg:=v_<|dn (fy 0)<|dn (fy 1) iB) (tt:=fB<|f2 (dI) (af 1)<|fC<|.int 0) (f:=af 0) (δ:=gs<|wJ w r c (.lst<|(lB w r c r.length).map eN) B t u) (β:=β) (lB w r c r.length) eN (λb=>tN b.1) (λb=>decide ((b.2:Int)=0)) rfl (λb _=>⟨[on<|tN b.1,on<|.int (b.2:Int)],rfl,et<|cc rfl rfl Pu.eq_int,λ_=>rfl⟩)<|o _<|OX _;refine am<|aO h ⟨rfl,?_⟩;rw[<-IM v,OU];rfl
theorem w5{E:Type}{G:lv}{b:FL}{K:Dn}{β:Bg}(u:E->D)(o:E->a0e):∀(w:List E),(∀x∈w,∃a,G (u x) K=on a/\b a β=on (.ok<|o x,β))->l9 G (λ_=>M.ret OK) b (w.map u) K β=on (.ok<|w.flatMap o,β)
 |[],_=>rfl
 |x::w,h=>by
  obtain⟨a,c,d⟩:=h x OL;have e:=w5 u o w λy f=>h y<|OF _ f;rw[O0,l9];simp only[c,M.bind,M.ret,reduceIte,d,e,Qm]
theorem my{E:Type}{K:Nat}{P:a0a}{S:FL}{V:lv}{b:FL}{c:a0e->a0k}{G:Dn}{β:Bg}{d:D}(w:List E)(u:E->D)(o:E->a0e)(e:S G β=on (.ok<|w.map u,β))
  (f:∀x∈w,∃a,V (u x) (ko K P G)=on a/\b a β=on (.ok<|o x,β)) (g:c (w.flatMap o)=on d):i8 K P S V (λ_=>M.ret OK) b c G β=on (.ok d,β):=by
 unfold i8;rw[e];simp only[w5 u o w f,g,QI]
theorem Nz{E:Type}{K:FL}{P:lv}{b:FL}{G:Dn}{β:Bg}(w:List E)(u:E->D)(o:E->a0e)(c:K G β=on (.ok<|w.map u,β))(d:∀x∈w,∃a,P (u x) G=on a/\b a β=on (.ok<|o x,β)):YO K P (λ_=>M.ret OK) b G β=on (.ok<|w.flatMap o,β):=by
 unfold YO M.bind;rw[c];exact w5 u o w d
noncomputable abbrev dG(B:a0v):LP:=B.map λa=>a.map λp=>((p.1:Int),(p.2:Int))
abbrev la(B:a0v):D:=dE<|dG B
noncomputable def nN(B:a0v)(k:Nat):a0b:=B.map λa=>a.getD k (0,0)
def YT(r c:Nat)(B:a0v):Prop:=d4 r c B/\∀a∈B,∀p∈a,p.1<=p.2/\p.2<=40
def wB(B:a0v)(a:a0a):Wy:=λk r=>vB (nN B k) r<|a.getD k 0
theorem yO(B:a0v)(a:a0a):W_ a (wB B a):=λk r=>Ve
theorem YT.col{r c k:Nat}{B:a0v}(h:YT r c B)(e:k<c):(nN B k).length=r/\∀p∈nN B k,p.1<=40/\p.2<=40:=by
 refine⟨by unfold nN;rw[OC,h.1.1],λp d=>?_⟩;obtain⟨a,b,rfl⟩:=OZ.mp d;have l:=h.1.2 a b;rw[fF<|by lia];have:=h.2 a b _<|PF (show k<a.length by lia);lia
theorem J2{r E:a0a}{B:a0v}{k:Nat}(c:B4 r)(hB:YT r.length E.length B)(i:E.sum<=40)(e:k<E.length):(cu K a).1 [tN r,nL E,la B,.int (k:Int)] β=on (.ok<|.lst<|(wB B E k r).map tN,β):=by
 have g:E[k]?=on (E.getD k 0):=by rw[OJ,OE e];rfl
 obtain⟨l,q⟩:=hB.col e;unfold cu
 dsimp only
 refine aK<|am<|aO (ak (aa rfl<|aa (cc rfl rfl<|cf (d:= .int (E.getD k 0:Int))<|by rw[OI,OI,g];rfl)<|aa ?_ rfl)<|MB c l q<|Pl (oH<|OW g) i) ⟨rfl,rfl⟩;have h:=bo (nv:=1) (b0:=[3]) (it:=cQ<|af 2) (tg:=fy 0) (f:=f2 gt (af 0)<|af 1) (δ:=[on<|tN r,on<|nL E,on<|la B,on<|.int (k:Int)]) (β:=β) B (λw=>D.lst<|w.map pN) (λw=>pN<|w.getD k (0,0)) (cL rfl (by
  show on _=on _;rw[OU,OU];exact Qr on<|Pk λw _=>Qr D.lst (by show Qt pD (Qt _ w)=_;rw[OU];rfl))) (λw b=>⟨[on<|D.lst<|w.map pN,on<|.int (k:Int)],rfl,cc rfl rfl<|cf (by
   have l:=hB.1.2 w b;rw[OI,fF (by lia),OE<|by lia];rfl)⟩)<|bp (by rw[hB.1.1];have:=c.2.1;lia)
 refine h.trans ?_;unfold nN;rw[OU];rfl
theorem EB:∀{r v:a0a},i4 v r->(r.zip v).map (λp=>D.int<|(p.1:Int)-(p.2:Int))=(nI<|less r v).map D.int
 |[],[],_=>rfl
 |x::r,y::v,h=>by
  have e:=EB h.2;have b:=h.1;show _::_=D.int ((x-y:Nat):Int)::(nI<|less r v).map D.int;rw[<-e];show D.int ((x:Int)-(y:Int))::_=_;rw[show(x:Int)-(y:Int)=((x-y:Nat):Int) by lia];rfl
 |[],_::_,h=>h.elim
 |_::_,[],h=>h.elim
theorem ow{r v:a0a}(h:i4 v r)(b:r.length<=4):(b8 K a).1 [tN r,tN v] β=on (.ok<|tN<|less r v,β):=by
 unfold b8
 dsimp only
 refine aK<|am<|aO (ai (aa (x:= .lst<|(nI<|less r v).map D.int) ?_ rfl) rfl) ⟨rfl,rfl⟩;rw[<-EB h];refine bo (r.zip v) (λp=>D.tup [.int (p.1:Int),.int (p.2:Int)]) _ ?_ (λp _=>⟨[on<|.int (p.1:Int),on<|.int (p.2:Int)],rfl,rfl⟩) (bp<|by rw[RK];lia);rw[<-lU (λx:Nat=>D.int (x:Int)) (λx:Nat=>D.int (x:Int))];refine AX (x:=tN r) (y:=tN v) rfl rfl ?_ ?_
 .show on _=on _
  rw[OU];rfl
 .show on _=on _
  rw[OU];rfl
structure Nt0 (rs cs:a0a):Prop where
 nr:B4 rs
 wd:pr (rs.dropLast.map (·+1))<63
 sm:rs.sum=cs.sum
 c1:1<=cs.length
 c6:cs.length<=6
structure ni (K:Pa) (a:Ad) (rs cs:a0a) (W:Wy) (bd:D):Prop extends Nt0 rs cs where
 ok:W_ cs W
 fl:∀{β:Bg} {k:Nat} {r:a0a},k<cs.length->B4 r->r.length=rs.length->(cu K a).1 [tN r,nL cs,bd,.int (k:Int)] β=on (.ok<|.lst<|(W k r).map tN,β)
theorem ni.at{rs cs r:a0a}{k:Nat}{W:Wy}{w:D}(h:ni K a rs cs W w)(b:k<=cs.length)(c:r∈hU W rs k):B4 r/\r.length=rs.length/\r.sum<=40:=by
 have q:=(j5 h.ok h.sm k b r c).1;obtain⟨d,e,f,g⟩:=h.nr;have E:=q.len;have G:=q.sum;have M:=q.pr;exact⟨⟨by lia,by lia,by lia,by lia⟩,E,by lia⟩
abbrev xr(W:Wy)(a:a0a)(k:Nat):D:= .lst<|(hU W a k).map tN
theorem Gk{w cs:a0a}{W:Wy}{E:D}(h:ni K a w cs W E):(gN K a).1 [nL w,nL cs,E] β=on (.ok<|.lst<|(OV<|cs.length+1).map<|xr W w,β):=by
 have M:=h.c6;unfold gN
 dsimp only
 refine aK ?_;refine aE (d:=xr W w 0) (β1:=β) (ai (aa (ai rfl rfl) rfl) zI) ?_;refine kz (ds:=[xr W w 0]) (β1:=β) rfl (show 1<=Pe by decide) ?_;refine bH (ds:=bu 0 cs.length) (β1:=β) (bQ (aa (ai rfl<|bG (r:=cs.length)<|by rw[OC,OC]) rfl)<|up (by lia)<|by lia) (λk G b=>β=b/\∃c e,G=[on<|.sh<|nL w,on<|.sh<|nL cs,on<|.sh<|E,on<|.sh<|xr W w k,on<|.own<|(OV<|k+1).map<|xr W w,c,e]) ⟨rfl,OD,OD,rfl⟩ ?_ ?_
 .rintro k d G _ hd ⟨rfl,c,e,rfl⟩
  obtain⟨f,rfl⟩:=zd hd;refine⟨_,rfl,aE (d:=xr W w<|k+1) (β1:=β) ?_<|jx (cs:=(OV<|k+1).map<|xr W w) (d:=xr W w<|k+1) rfl rfl (Pj (show _<1000 by rw[OC,Ps];lia)<|by decide)<|am<|aE (d:=xr W w<|k+1) (β1:=β) rfl<|aY ⟨rfl,on<|.sh<|.int (k:Int),on<|.sh<|xr W w<|k+1,?_⟩⟩
  .refine my (hU W w k) tN (λr=>(W k r).map λv=>tN<|less r v) rfl (λr i=>⟨[on<|tN r,OD,on<|nL cs,on<|E,on<|.int (k:Int)],rfl,?_⟩) ?_
   .obtain⟨g,j,_⟩:=h.at (by lia) i
    exact vX _ tN _ (cL (ak rfl<|h.fl f g j) rfl) (λv l=>⟨[on<|tN r,on<|tN v,on<|nL cs,on<|E,on<|.int (k:Int)],rfl,ak rfl<|ow (dg<|(h.ok k r).subset l) g.2.1⟩)
   .rw[<-Jr h.ok h.sm h.nr.1 h.wd f]
    unfold YI;rw[Rw];simp only[OU];rfl
  .rw[Q9 (n:=k+1),Pw];rfl
 .rintro G _ ⟨rfl,c,e,rfl⟩
  rw[qJ];exact am<|aO rfl ⟨rfl,rfl⟩
theorem iN{i:Nat}{w:a0T}{f:FD}{c d z:D}{h:G}{a:Ds}{β β1:Bg}{Q:a0A}(b:(vw a).getD i OD=on c)(e:f (vw a) β=on (.ok d,β1))(g:w c d=on z)(k:Gw h (a.set i<|on<|.sh z) β1 Q):Gw (aW (z9 i w f) h) a β Q:=f7 (by unfold z9;simp only[b,e,g,QI]) k
theorem KJ{m i:Nat}{d:D}(h:(bu 2 m)[i]?=on d):i<m/\d= .int ((i+2:Nat):Int):=by
 obtain⟨x,b,rfl⟩:=bE (f:=λ(i:Nat)=>D.int<|2+(i:Int)) (xs:=OV m) h;have c:=(OM.mp b).1;rw[Ps]at c;rw[QB c]at b;cases b;exact⟨c,by congr 1;lia⟩
theorem KG(a:Int)(m:Nat):(bu a m).length=m:=by unfold bu;rw[OC,Ps]
theorem Z1{n:Nat}(h:n<=2^11):n<2^1000:=j6 h (by decide)
theorem JW(n:Nat):dq (n-1+1)=dq n:=by cases n<;>rfl
theorem yq{n:Nat}(h:n<=40):(iT K a).1 [.int (n:Int)] β=on (.ok<|.int ((dq n:Nat):Int),β):=by
 unfold iT
 dsimp only
 refine aK ?_;refine aE (d:= .int 1) (β1:=β) rfl ?_;refine bH (ds:=bu 2<|n-1) (β1:=β) (bQ (aa rfl<|aa (cc rfl rfl rfl) rfl)<|rg2<|by lia) (λi w b=>β=b/\∃c,w=[on<|.sh<|.int (n:Int),on<|.sh<|.int ((dq (i+1):Nat):Int),c]) ⟨rfl,OD,rfl⟩ ?_ ?_
 .rintro i d w _ hd ⟨rfl,c,rfl⟩
  obtain⟨e,rfl⟩:=KJ hd;exact⟨_,rfl,am<|iN rfl rfl (zy (j6 (wL<|by lia)<|by decide)<|Z1<|by lia)<|aY ⟨rfl,_,rfl⟩⟩
 .rintro w _ ⟨rfl,c,rfl⟩
  rw[KG,JW];exact am<|aO rfl ⟨rfl,rfl⟩
def YG(l:a0a):Nat:=dq l.sum/pr (l.map dq)
theorem MT{l:a0a}{d:D}(h:Sq l d):qu [d]=on (.int ((l.sum:Nat):Int)):=by
 rw[<-gv];rcases h with rfl|rfl
 .exact Ku _
 .exact Kt _
theorem v8(l:a0a):h9 [nL l]=on (.int ((l.sum:Nat):Int)):=by rw[<-gv];exact eB _
theorem Il{l:a0a}{i n:Nat}(h:l.sum<=40)(a:l[i]?=on n):n<=40:=Pl (oH<|OW a) h
theorem xx{l:a0a}{E:D}(M:Sq l E)(h:l.sum<=40):(qL K a).1 [E] β=on (.ok<|.int ((YG l:Nat):Int),β):=by
 unfold qL
 dsimp only
 refine aK ?_;refine bH (ds:=(nI l).map D.int) (β1:=β) (cL rfl M.seq) (λi w c=>β=c/\∃b,w=[on<|.sh E,b,OD]) ⟨rfl,OD,rfl⟩ ?_ ?_
 .rintro i d w _ hd ⟨rfl,b,rfl⟩
  obtain⟨n,G,rfl⟩:=uH hd;exact⟨_,rfl,am<|bP (β1:=β) (et<|cc rfl rfl (by show on (D.bl<|decide ((n:Int)<0))=_;rw[Pt<|by lia]))<|aU<|aY ⟨rfl,_,rfl⟩⟩
 rintro w _ ⟨rfl,b,rfl⟩;refine aE (d:= .int ((dq l.sum:Nat):Int)) (β1:=β) (ak (aa (ai rfl<|MT M) rfl)<|yq h) ?_;refine bH (ds:=(nI l).map D.int) (β1:=β) (cL rfl M.seq) (λi w c=>β=c/\∃b,w=[on<|.sh E,b,on<|.sh<|.int ((dq l.sum/pr ((l.take i).map dq):Nat):Int)]) ⟨rfl,b,by rw[List.take_zero,TZ,KW,Nat.div_one];rfl⟩ ?_ ?_
 .rintro i d w _ hd ⟨rfl,b,rfl⟩
  obtain⟨n,G,rfl⟩:=uH hd;refine⟨_,rfl,am<|iN rfl (ak rfl<|yq<|Il h G) (Op (sJ n)<|j6 (wL<|Il h G)<|by decide)<|aY ⟨rfl,on<|.sh<|.int (n:Int),?_⟩⟩;rw[sf G,W9];rfl
 .rintro w _ ⟨rfl,b,rfl⟩
  rw[qU,Rx];exact am<|aO rfl ⟨rfl,rfl⟩
theorem u4{l:a0a}(h:l.sum<=40):YG l<=2^160:=Pl (Wb _ _)<|wL h
theorem u3(l:a0a):YG l=mu l:=Ls l
theorem HU{l:a0a}(h:l.sum<=40):mu l<=2^160:=by rw[<-u3];exact u4 h
theorem HG{a:Type}{l:List a}{i:Nat}{x:a}(f:a->Nat)(h:l[i]?=on x):L2.Nt.sm (l.take<|i+1) f=L2.Nt.sm (l.take i) f+f x:=by
 rw[Ut,h,vo];rfl
abbrev cv(W:Wy)(m k:Nat)(r:a0a):D:= .tup [.int ((jm W (m-k) k r:Nat):Int),.int ((D1 W (m-k) k r:Nat):Int)]
abbrev o0(W:Wy)(a:a0a)(m k:Nat):D:= .dct OO ((hU W a k).map λr=>((0:Int),nI r))<|(hU W a k).map<|cv W m k
theorem DY{f:a0a->D}{u:a0a}:∀{L:a0n},u∈L->ln (L.map λr=>((0:Int),nI r)) (L.map f) (0,nI u)=on (f u)
 |r::L,h=>by
  unfold ln;rw[O0,O0,Rg,Sf];by_cases q:r=u
  .rw[q,O3 rfl];rfl
  .rw[Pt λe=>q<|i6 (Te.mp e).2]
   exact DY<|(OQ.mp h).resolve_left λe=>q e.symm
theorem MH{W:Wy}{a u:a0a}{m k:Nat}(h:u∈hU W a k):G7 (o0 W a m k) (tN u)=on (cv W m k u):=by
 show(jr OO<|dK OO (0,nI u)).bind _=_;rw[sy λ_=>rfl];exact DY h
theorem zw{w cs r:a0a}{W:Wy}{M:D}{k:Nat}(h:ni K a w cs W M)(o:k<cs.length)(p:r∈hU W w k):(jo K a).1 [tN r,.lst<|(W k r).map tN,o0 W w cs.length<|k+1] β=on (.ok<|cv W cs.length k r,β):=by
 obtain⟨q,u,t⟩:=h.at (by lia) p;unfold jo
 dsimp only
 refine aK ?_;refine aE (d:= .int 0) (β1:=β) rfl<|aE (d:= .int 0) (β1:=β) rfl ?_;refine bH (ds:=(W k r).map tN) (β1:=β) rfl (λi E e=>β=e/\∃f g j,E=[on<|.sh<|tN r,on<|.sh<|.lst<|(W k r).map tN,on<|.sh<|o0 W w cs.length<|k+1,on<|.sh<|.int ((L2.Nt.sm ((W k r).take i) λv=>jm W (cs.length-(k+1)) (k+1) (less r v):Nat):Int),on<|.sh<|.int ((L2.Nt.sm ((W k r).take i) λv=>mu v*D1 W (cs.length-(k+1)) (k+1) (less r v):Nat):Int),f,g,j]) ⟨rfl,OD,OD,OD,rfl⟩ ?_ ?_
 .rintro i d E _ hd ⟨rfl,f,g,j,rfl⟩
  obtain⟨v,l,rfl⟩:=bE hd;have G:=OW l;have m:less r v∈hU W w (k+1):=oE.mpr ⟨r,p,v,G,rfl⟩;have b:=(h.ok k r).subset G;have P:=(j5 h.ok h.sm (k+1) o _ m).2;have c:v.sum<=40:=Pl (dg b).sum t;have n:=(h.at o m).2.2;refine⟨_,rfl,qm (d:=cv W cs.length (k+1)<|less r v) (β1:=β) (cc rfl (ak rfl<|ow (dg b) q.2.1)<|MH m) rfl<|iN rfl rfl rfl<|am<|iN rfl (cc (ak rfl<|xx (.inr rfl) c) rfl<|zy (j6 (u4 c)<|by decide)<|j6 (Pl (wS h.ok _ _ _<|by lia)<|by rw[wQ _ _ P];exact HU n)<|by decide) rfl<|aY ⟨rfl,on<|.sh<|tN v,on<|.sh<|.int ((jm W (cs.length-(k+1)) (k+1) (less r v):Nat):Int),on<|.sh<|.int ((D1 W (cs.length-(k+1)) (k+1) (less r v):Nat):Int),?_⟩⟩;rw[HG _ l,HG _ l,u3,Rq,Rq];rfl
 .rintro E _ ⟨rfl,f,g,j,rfl⟩
  rw[OC,Rx];refine am<|aO (ai rfl hZ) ⟨rfl,?_⟩;show Qj (D.tup [.int ((jm W (cs.length-k) k r:Nat):Int),.int ((D1 W (cs.length-k) k r:Nat):Int)])=_;rw[show cs.length-k=cs.length-(k+1)+1 by lia];rfl
theorem yM{f g:FD}{a:Dn}{k v:D}(b:f a β=on (.ok k,β))(c:g a β=on (.ok v,β)):Hb f g a β=on (.ok [.tup [k,v]],β):=by
 unfold Hb M.bind;rw[b];simp only[c,M.ret]
theorem wF{a b:Type}(f:a->b)(l:List a):(l.flatMap λx=>[f x])=l.map f:=by
 induction l with
 |nil=>rfl
 |cons x l w=>rw[Qm,w];rfl
theorem DV{rs w:a0a}{W:Wy}{E:D}(h:ni K a rs w W E){k:Nat}(b:k<=w.length):(hU W rs k).length<=62:=by
 have:=Jy h.ok h.sm b;have:=h.wd;lia
theorem dk0{w cs:a0a}{W:Wy}{G:D}(h:ni K a w cs W G){k:Nat}(b:k<=cs.length){E:a0e}(e:E=(hU W w k).map λr=> .tup [tN r,cv W cs.length k r]):mx OO E=on (o0 W w cs.length k):=by
 refine(yz (kvs:=(hU W w k).map λr=>(((0:Int),nI r),cv W cs.length k r)) ⟨?_,?_,?_,?_⟩).trans ?_
 .rw[e,OU];rfl
 .rw[OU];exact v6 (λx y q=>i6 (Te.mp q).2)<|we k
 .rw[OC];exact bp (by have:=DV h b;lia)
 .rintro p c _
  obtain⟨r,_,rfl⟩:=OZ.mp c;rfl
 .rw[OU,OU];rfl
theorem Nk{n:Nat}(h:n<=1000):uB [.int (n:Int)]=on (jB n):=by
 simp only[uB];rw[OS (by simp only[Pr,PR];lia),Qu]
theorem Nl{n i:Nat}{d:D}(h:(jB n)[i]?=on d):i<n/\d= .int ((n-1-i:Nat):Int):=by
 obtain⟨x,b,rfl⟩:=bE (f:=λ(i:Nat)=>D.int<|(n:Int)-1-i) (xs:=OV n) h;have c:=(OM.mp b).1;rw[Ps]at c;rw[QB c]at b;cases b;exact⟨c,by congr 1;lia⟩
theorem CS{f:Nat->D}{n k:Nat}(h:k<n):((OV n).map f)[k]?=on (f k):=by rw[OI,QB h];rfl
theorem E6{f:Nat->D}:∀n j,cm j ((List.range' j n).map f)=(List.range' j n).map λk=> .tup [.int (k:Int),f k]
 |0,_=>rfl
 |n+1,j=>by
  rw[List.range'_succ,O0,O0,<-E6 n (j+1)];rfl
theorem IY{f:Nat->D}(m:Nat):((OV<|m+1).map λj=>f<|m-j).reverse=(OV<|m+1).map f:=QE (by simp) λi b c=>by
 simp only[XN,OC,Ps]at b;simp only[Xz,R1,R8,OC,Ps];congr 1;lia
abbrev MO(W:Wy)(a:a0a)(m:Nat):a0e:=(OV<|m+1).flatMap λk=>(hU W a k).map<|cv W m k
abbrev sM(W:Wy)(rs:a0a)(m:Nat):D:= .dct OK (Y0 W rs<|m+1)<|MO W rs m
theorem dk1{rs cs:a0a}{W:Wy}{E:D}(h:ni K a rs cs W E){w:a0e}(e:w=(OV<|cs.length+1).flatMap λ(k:Nat)=>(hU W rs k).map λr=> .tup [.tup [.int (k:Int),tN r],cv W cs.length k r]):mx OK w=on (sM W rs cs.length):=by
 refine(yz (kvs:=(OV<|cs.length+1).flatMap λ(k:Nat)=>(hU W rs k).map λr=>(((k:Int),nI r),cv W cs.length k r)) ⟨?_,?_,?_,?_⟩).trans ?_
 .rw[e,Rw];simp only[OU];rfl
 .have:=EG (W:=W) (rs:=rs)<|cs.length+1
  unfold Y0 at this;rw[Rw];simp only[OU];exact this
 .refine bp (Pl (oW (n:=62) λk b=>?_) (by have:=h.c6;rw[Ps];lia))
  have:=O9.mp b;rw[OC];exact DV h (by lia)
 .rintro p _ q
  cases q
 .unfold sM Y0
  rw[Rw,Rw];simp only[OU];rfl
theorem AI{w cs:a0a}{W:Wy}{E:D}(h:ni K a w cs W E):(fI K a).1 [nL w,nL cs,E] β=on (.ok<|sM W w cs.length,β):=by
 have M:=h.c6;unfold fI
 dsimp only
 refine aK ?_;refine aE (d:= .lst<|(OV<|cs.length+1).map<|xr W w) (β1:=β) (ak rfl<|Gk h) ?_;refine aE (d:= .int (cs.length:Int)) (β1:=β) (ai rfl<|bG<|by rw[OC,OC]) ?_;refine aE (d:=o0 W w cs.length cs.length) (β1:=β) (my (hU W w cs.length) tN (λr=>[.tup [tN r,.tup [.int 1,.int 1]]]) (cL (cc rfl rfl<|cf<|CS<|by lia) rfl) (λr _=>⟨[on<|tN r],rfl,yM rfl<|ai rfl hZ⟩)<|dk0 h (OX _)<|by rw[wF];simp only[cv,UV];rfl) ?_;refine kz (ds:=[o0 W w cs.length cs.length]) (β1:=β) rfl (show 1<=Pe by decide) ?_;refine bH (ds:=jB cs.length) (β1:=β) (bQ rfl<|Nk<|by lia) (λi G b=>β=b/\∃c e,G=[on<|.sh<|nL w,on<|.sh<|nL cs,on<|.sh<|E,on<|.sh<|.lst<|(OV<|cs.length+1).map<|xr W w,on<|.sh<|.int (cs.length:Int),on<|.sh<|o0 W w cs.length<|cs.length-i,on<|.own<|(OV<|i+1).map λj=>o0 W w cs.length<|cs.length-j,c,e]) ⟨rfl,OD,OD,rfl⟩ ?_ ?_
 .rintro i d G _ hd ⟨rfl,c,e,rfl⟩
  obtain⟨o,rfl⟩:=Nl hd;have g:cs.length-1-i<cs.length:=by lia
  have m:cs.length-i=(cs.length-1-i)+1:=by lia
  have l:cs.length-(i+1)=cs.length-1-i:=by lia
  rw[m];refine⟨_,rfl,aE (d:=o0 W w cs.length<|cs.length-1-i+1) (β1:=β) rfl<|aE (d:=o0 W w cs.length<|cs.length-1-i) (β1:=β) (my (hU W w<|cs.length-1-i) tN (λr=>[.tup [tN r,cv W cs.length (cs.length-1-i) r]]) (cL (cc rfl rfl<|cf<|CS<|by lia) rfl) (λr f=>⟨[on<|tN r,on<|nL cs,on<|E,on<|.int ((cs.length-1-i:Nat):Int),on<|o0 W w cs.length<|cs.length-1-i+1],rfl,yM rfl<|ak (aa rfl<|aa (ak rfl<|h.fl g (h.at (by lia) f).1 (h.at (by lia) f).2.1) rfl)<|zw h g f⟩)<|dk0 h (by lia)<|wF _ _)<|am<|jx (cs:=(OV<|i+1).map λj=>o0 W w cs.length<|cs.length-j) (d:=o0 W w cs.length<|cs.length-1-i) rfl rfl (Pj (show _<1000 by rw[OC,Ps];lia)<|by decide)<|aY ⟨rfl,on<|.sh<|.int ((cs.length-1-i:Nat):Int),on<|.sh<|o0 W w cs.length<|cs.length-1-i+1,?_⟩⟩;rw[Q9 (n:=i+1),Pw,l];show _=[_,_,_,_,_,_,on<|Sl.own<|_++[o0 W w cs.length<|cs.length-(i+1)],_,_];rw[l];rfl
 .rintro G _ ⟨rfl,c,e,rfl⟩
  rw[show(jB cs.length).length=cs.length by unfold jB;rw[OC,Ps]];refine am<|aO (my (OV<|cs.length+1) (λk=> .tup [.int (k:Int),o0 W w cs.length k]) (λ(k:Nat)=>(hU W w k).map λr=> .tup [.tup [.int (k:Int),tN r],cv W cs.length k r]) (bQ (aa (cc (y:= .int<|-1) rfl rfl rfl) rfl) ?_) (λk _=>⟨[on<|.int (k:Int),on<|o0 W w cs.length k,OD,OD],rfl,?_⟩)<|dk1 h rfl) ⟨rfl,rfl⟩
  .show on (cm 0 _)=_
   rw[IY,List.range_eq_range',E6]
  .refine(Nz (hU W w k) (λr=> .tup [tN r,cv W cs.length k r]) (λr=>[.tup [.tup [.int (k:Int),tN r],cv W cs.length k r]]) ?_ (λr _=>⟨[on<|.int (k:Int),on<|o0 W w cs.length k,on<|tN r,on<|cv W cs.length k r],rfl,yM (ai rfl hZ) rfl⟩)).trans (by rw[wF])
   show on (Qj<|T0 _ _ _,β)=_;rw[List.zipWith_map_left,List.zipWith_map_right,List.zipWith_self];rfl
theorem Kk{r c:Nat}{w:LI}(E:d4 r c w)(K:1<=r)(P:r<=30)(S:c<=30){δ:Dn}(h:δ.getD 0 OD=on (ao w)):cB 1 [0] (cJ fS<|ae (aV eJ<|ae (f2 gt (af 0)<|fC<|.int 0)<|az)<|az) (fy 0) (λ_=>M.ret OK) (js<|cB 1 [0] (cQ<|af 1) (fy 0) (λ_=>M.ret OK)<|js<|f2 gt (af 0)<|af 1) δ β=on (.ok<|ao<|tp c w,β):=by
 obtain⟨b,d,g⟩:=E.at (i:=0) (by lia);have k:(gI w)[0]?=on (b.map D.int):=by rw[OI,d];rfl
 have o:aV eJ (ae (f2 gt (af 0)<|fC<|.int 0)<|az) δ β=on (.ok<|.int (c:Int),β):=ai (aa (x:= .lst<|b.map D.int) (cc (x:=ao w) (Ho h) rfl<|mh k) rfl) (bG<|by rw[OC,g]);have e:=bo (nv:=1) (b0:=[0]) (it:=cJ fS<|ae (aV eJ<|ae (f2 gt (af 0)<|fC<|.int 0)<|az)<|az) (tg:=fy 0) (f:=cB 1 [0] (cQ<|af 1) (fy 0) (λ_=>M.ret OK)<|js<|f2 gt (af 0)<|af 1) (δ:=δ) (β:=β) (OV c) (λi=>D.int<|0+(i:Int)) (λj=>D.lst<|w.map λa=>D.int<|a.getD j 0) (bQ (ds:=bu 0 c) (aa o rfl)<|up (by lia)<|by lia) ?_ (bp<|by rw[Ps];lia)
 .rw[e]
  unfold tp ry;show _=on (Qj<|D.lst<|Qt D.lst<|Qt _<|Qt _ _,β);rw[OU,OU];congr 4;refine Pk λj _=>?_;show _=D.lst ((w.map λa=>a.getD j 0).map D.int);rw[OU];rfl
 .intro j p
  have q:=O9.mp p;have m:ko 1 [0] δ=[OD,on<|ao w]:=by
   unfold ko;simp only[O0,TZ,h];rfl
  refine⟨[on<|.int<|0+(j:Int),on<|ao w],by rw[m];rfl,?_⟩;have G:(gI w).map D.lst=w.map λa=>D.lst (a.map D.int):=by rw[OU];rfl
  refine bo (nv:=1) (b0:=[0]) w (λa=>D.lst<|a.map D.int) _ (by show on (Qj<|(gI w).map D.lst,β)=_;rw[G]) (λa t=>⟨_,rfl,cc (x:= .lst<|a.map D.int) (y:= .int<|0+(j:Int)) rfl rfl ?_⟩) (bp<|by rw[E.1];lia);have u:=E.2 a t;obtain⟨x,n⟩:=mz (l:=a) (i:=j) (by lia);rw[Ru];refine cf ?_;rw[OI,n,OJ,n];rfl
theorem zH{r c:Nat}{w:LI}(D:d4 r c w)(E:1<=r)(G:r<=30)(M:c<=30):(qN K a).1 [ao w] β=on (.ok<|ao<|tp c w,β):=
 aK (am<|aO (Kk D E G M rfl) ⟨rfl,rfl⟩)
noncomputable abbrev iL(xs:a0c):D:= .lst<|xs.map D.int
theorem qt{w:LI}(h:w.length<=1000){f:FD}{δ:Dn}(e:f δ β=on (.ok<|ao w,β)):cB 1 [] (cQ f) (fy 0) (λ_=>M.ret OK) (js<|aV h9<|ae (af 0)<|az) δ β=on (.ok<|iL<|w.map P0,β):=by
 have E:(gI w).map D.lst=w.map λa=>D.lst (a.map D.int):=by rw[OU];rfl
 have:=bo (nv:=1) (b0:=[]) (it:=cQ f) (tg:=fy 0) (f:=aV h9<|ae (af 0)<|az) (δ:=δ) (β:=β) w (λa=>D.lst<|a.map D.int) (λa=>D.int a.sum) (by rw[<-E];exact cL e rfl) (λa _=>⟨_,rfl,ai rfl<|eB a⟩)<|bp h;rw[this];show _=on (Qj<|D.lst<|(w.map P0).map D.int,β);rw[OU];rfl
theorem lW{ac:LI}(h:ac.length<=1000):(gn K a).1 [ao ac] β=on (.ok<|iL<|ac.map P0,β):=
 aK (am<|aO (qt h rfl) ⟨rfl,rfl⟩)
theorem jt{r c:Nat}{ac:LI}(w:d4 r c ac)(D:1<=r)(E:r<=30)(G:c<=30):(eD K a).1 [ao ac] β=on (.ok<|iL<|(tp c ac).map P0,β):=
 aK (am<|aO (qt (by rw[(gX (d:=(0:Int)) (c:=c) w.1).1];lia)<|ak rfl<|zH w D E G) ⟨rfl,rfl⟩)
noncomputable def gp(G:LI)(i j:Nat):Int:=(G.getD i []).getD j 0
theorem gE{G:LI}{i j:Nat}{row:a0c}{x:Int}(b:G[i]?=on row)(c:row[j]?=on x):gp G i j=x:=by
 unfold gp;simp only[OJ,b,c,UA]
theorem fZ{G:LI}{i j:Nat}{a:a0c}(b:G[i]?=on a):a.getD j 0=gp G i j:=by
 unfold gp;rw[OJ (l:=G),b];rfl
theorem Ft:∀(a:a0c),S a.length (λj=>a.getD j 0)=a.sum:=λa=>by
 unfold S;congr 1;refine QE (by simp) λi c b=>?_;rw[R1,R8,OJ,OE b];rfl
theorem nY{r c i:Nat}{A:LI}(d:d4 r c A)(e:i<r):S c (gp A i)=(A.map P0).getD i 0:=by
 obtain⟨f,b,g⟩:=d.at e;rw[OJ,OI,b];show _=f.sum;rw[<-Ft,g];exact bN λj _=>(fZ b).symm
theorem nZ{r c j:Nat}{A:LI}(b:d4 r c A)(f:j<c):S r (λp=>gp A p j)=((tp c A).map P0).getD j 0:=by
 have e:(tp c A)[j]?=on (A.map λa=>a.getD j 0):=by
  show((OV c).map λj=>A.map λa=>a.getD j 0)[j]?=_;rw[OI,QB f];rfl
 rw[OJ,OI,e];show _=(A.map λa=>a.getD j 0).sum;rw[<-Ft,OC,b.1];refine bN λp g=>?_;obtain⟨h,d,i⟩:=b.at g;rw[OJ (l:=A.map _),OI,d];exact(fZ d).symm
theorem DR{w:a0c}{b:a0a}(c:∀i∈b,i<w.length)(d:b.length<=1000):(m8 K a).1 [iL w,nL b] β=on (.ok<|.int<|qT w b,β):=by
 unfold m8
 dsimp only
 refine aK<|am<|aO (ai (aa (x:=iL<|b.map λi=>w.getD i 0) ?_ rfl)<|eB _) ⟨rfl,rfl⟩;have:=bo (nv:=1) (b0:=[0]) (it:=cQ<|af 1) (tg:=fy 0) (f:=f2 gt (af 1)<|af 0) (δ:=[on<|iL w,on<|nL b]) (β:=β) b (λi=>D.int (i:Int)) (λi=>D.int<|w.getD i 0) (by show on (Qj<|(nI b).map D.int,β)=_;rw[OU];rfl) (λi e=>⟨_,rfl,cc rfl rfl<|oN<|c i e⟩)<|bp d;refine this.trans ?_;show _=on (Qj<|D.lst<|(b.map λi=>w.getD i 0).map D.int,β);rw[OU];rfl
theorem t0{r c j:Nat}{w:a0c}{b:LP}{g:a0a}(E:d4 r c b)(n:w.length=c)(k:r<=1000)(l:j<c):(dM K a).1 [iL w,dE b,nL g,.int (j:Int)] β=on (.ok<|.int<|gb w b r g j,β):=by
 unfold dM
 dsimp only
 refine aK ?_;refine aE (d:=iL<|((OV r).filter λi=>!decide (i∈g)).map λi=>(bI b i j).1) (β1:=β) ?_ ?_
 .have m:((gP b).map D.lst).length=r:=by rw[OC,OC,E.1]
  have:=kh (nv:=2) (b0:=[2,3]) (it:=zx<|ae (af 1) az) (tg:=v_<|dn (fy 0)<|dn (fy 1) iB) (tt:=fB<|f2 (YK OK) (af 0)<|af 2) (f:=f2 gt (f2 gt (af 1)<|af 3)<|fC<|.int 0) (δ:=[on<|iL w,on<|dE b,on<|nL g,on<|.int (j:Int),OD]) (β:=β) (OV r) (λi=>D.tup [.int (i:Int),.lst<|(b.getD i []).map pD]) (λi=>D.int (bI b i j).1) (λi=>!decide (i∈g)) ?_ (λi h=>⟨_,rfl,et<|cc rfl rfl rh,λ_=>cc (cc rfl rfl (wq E (O9.mp h) l).2) rfl sC⟩) (bp<|by rw[Ps];exact k)
  .refine this.trans ?_
   show _=on (Qj<|D.lst<|(((OV r).filter λi=>!decide (i∈g)).map λi=>(bI b i j).1).map D.int,β);rw[OU];rfl
  .show on (Qj<|cm 0<|(gP b).map D.lst,β)=_
   rw[pz,m];congr 3;refine Pk λi h=>?_;rw[Qi];congr 3;obtain⟨e,_⟩:=E.getD<|O9.mp h;rw[OJ,OI,OI,e];rfl
 refine am<|aO (cc (x:= .int<|w.getD j 0) (cc rfl rfl<|oN<|by lia) (ai rfl<|eB _) rfl) ⟨rfl,?_⟩;have e:(OV r).map (λi=>if i∈g then(0:Int)else(bI b i j).1)=(OV r).map (λx=>if(!decide (x∈g))=OK then(bI b x j).1 else 0):=Pk λi _=>by by_cases q:i∈g<;>simp[q]
 unfold gb S;rw[yp,e]
theorem uv{r c j:Nat}{b:LP}{d:a0a}(w:d4 r c b)(e:∀i∈d,i<r)(k:d.length<=1000)(g:j<c):(dN K a).1 [dE b,nL d,.int (j:Int)] β=on (.ok<|.int<|hG b d j,β):=by
 unfold dN
 dsimp only
 refine aK<|am<|aO (ai (aa (x:=iL<|d.map λi=>(bI b i j).2) ?_ rfl)<|eB _) ⟨rfl,rfl⟩;have:=bo (nv:=1) (b0:=[0,2]) (it:=cQ<|af 1) (tg:=fy 0) (f:=f2 gt (f2 gt (f2 gt (af 1)<|af 0)<|af 2)<|fC<|.int 1) (δ:=[on<|dE b,on<|nL d,on<|.int (j:Int)]) (β:=β) d (λi=>D.int (i:Int)) (λi=>D.int (bI b i j).2) (by show on (Qj<|(nI d).map D.int,β)=_;rw[OU];rfl) (λi h=>⟨_,rfl,cc (cc (cc rfl rfl (wq w (e i h) g).1) rfl (wq w (e i h) g).2) rfl wn⟩)<|bp k;refine this.trans ?_;show _=on (Qj<|D.lst<|(d.map λi=>(bI b i j).2).map D.int,β);rw[OU];rfl
theorem CP{r c:Nat}{w:a0c}{b:LP}{d e:a0a}(E:d4 r c b)(k:w.length=c)(l:r<=1000)(h:c<=1000)(m:∀i∈d,i<r)(n:d.length<=1000):(m7 K a).1 [iL w,dE b,nL d,nL e] β=on (.ok<|.int<|uC w b r c d e,β):=by
 unfold m7
 dsimp only
 refine aK<|am<|aO (ai (aa (x:=iL ((OV c).map λj=>if j∈e then gb w b r d j else hG b d j)) ?_ rfl)<|eB _) ⟨rfl,rfl⟩;have:=bo (nv:=1) (b0:=[3,0,1,2]) (it:=cJ fS<|ae (aV eJ<|ae (af 0)<|az)<|az) (tg:=fy 0) (f:=V_ (fB<|f2 (YK OO) (af 0)<|af 1) (bK (dM K a).1<|ae (af 2)<|ae (af 3)<|ae (af 4)<|ae (af 0)<|az)<|bK (dN K a).1<|ae (af 3)<|ae (af 4)<|ae (af 0)<|az) (δ:=[on<|iL w,on<|dE b,on<|nL d,on<|nL e]) (β:=β) (OV c) (λj=>D.int<|0+(j:Int)) (λj=>D.int (if j∈e then gb w b r d j else hG b d j)) (bQ (ds:=bu 0 c) (aa (ai rfl<|bG<|by rw[OC,k]) rfl)<|up (by lia)<|by lia) (λj o=>⟨[on<|.int (j:Int),on<|nL e,on<|iL w,on<|dE b,on<|nL d],by rw[Ru];rfl,?_⟩) (bp<|by rw[Ps];exact h)
 .refine this.trans ?_
  show _=on (Qj<|D.lst<|((OV c).map λj=>if j∈e then gb w b r d j else hG b d j).map D.int,β);rw[OU];rfl
 .have g:=O9.mp o
  by_cases q:j∈e
  .rw[OS q]
   exact Hq (et<|cc rfl rfl<|by rw[rh];simp[q])<|ak rfl<|t0 E k l g
  .rw[OR q]
   exact Hr (et<|cc rfl rfl<|by rw[rh];simp[q])<|ak rfl<|uv E m n g
theorem DT{r c:Nat}{w:a0c}{b:LP}{d:a0a}(E:d4 r c b)(g:w.length=c)(l:r<=1000)(e:c<=1000)(m:∀i∈d,i<r)(n:d.length<=1000):(kZ K a).1 [iL w,dE b,nL d] β=on (.ok<|nL<|v7 w b r c d,β):=by
 unfold kZ
 dsimp only
 refine aK ?_;have h:=kh (nv:=1) (b0:=[0,1,2]) (it:=cJ fS<|ae (aV eJ<|ae (af 0)<|az)<|az) (tg:=fy 0) (tt:=fB<|f2 (S_) (bK (dM K a).1<|ae (af 1)<|ae (af 2)<|ae (af 3)<|ae (af 0)<|az)<|bK (dN K a).1<|ae (af 2)<|ae (af 3)<|ae (af 0)<|az) (f:=af 0) (δ:=[on<|iL w,on<|dE b,on<|nL d]) (β:=β) (OV c) (λj=>D.int<|0+(j:Int)) (λj=>D.int (j:Int)) (λj=>decide (gb w b r d j<hG b d j))
  (bQ (ds:=bu 0 c) (aa (ai rfl<|bG<|by rw[OC,g]) rfl)<|up (by lia)<|by lia)
  (λj k=>⟨[on<|.int (j:Int),on<|iL w,on<|dE b,on<|nL d],by rw[Ru];rfl,et<|cc (ak rfl<|t0 E g l<|O9.mp k) (ak rfl<|uv E m n<|O9.mp k) rfl,λ_=>rfl⟩) (bp<|by rw[Ps];exact e)
 refine am<|aO h ⟨rfl,?_⟩;show Qj (D.lst<|(nI<|v7 w b r c d).map D.int)=_;rw[OU];rfl
theorem KF{n i:Nat}{d:D}(h:(bu 0 n)[i]?=on d):i<n/\d= .int (i:Int):=by
 obtain⟨x,b,rfl⟩:=bE (f:=λ(i:Nat)=>D.int<|0+(i:Int)) (xs:=OV n) h;have c:=(OM.mp b).1;rw[Ps]at c;rw[QB c]at b;cases b;exact⟨c,by rw[Ru]⟩
theorem AL{n:Nat}(w:n<=6):(m9 K a).1 [.int (n:Int)] β=on (.ok<|.lst<|(r_ n).map nL,β):=by
 unfold m9
 dsimp only
 refine aK ?_;refine aE (d:= .lst [.lst []]) (β1:=β) (ai (aa (ai rfl lst0) rfl) zI) ?_;refine bH (ds:=bu 0 n) (β1:=β) (bQ rfl<|up (by lia)<|by lia) (λi δ b=>β=b/\∃c,δ=[on<|.sh<|.int (n:Int),on<|.sh<|.lst<|(r_ i).map nL,c]) ⟨rfl,OD,rfl⟩ ?_ ?_
 .rintro i d δ _ hd ⟨rfl,c,rfl⟩
  obtain⟨g,rfl⟩:=KF hd;have j:(r_ i).length<=64:=by rw[yD];exact Pl (TH (by decide) (show i<=6 by lia)) (by decide)
  refine⟨[on<|.sh<|.int (n:Int),on<|.sh<|.lst<|(r_ i).map nL,on<|.sh<|.int (i:Int)],rfl,am<|aE (d:= .lst<|(r_<|i+1).map nL) (β1:=β) ?_<|aY ⟨rfl,_,rfl⟩⟩;have h:=bo (nv:=1) (b0:=[2]) (it:=cQ<|af 1) (tg:=fy 0) (f:=f2 ir (af 0)<|aV eX<|ae (af 1)<|az) (δ:=vw [on<|.sh<|.int (n:Int),on<|.sh<|.lst<|(r_ i).map nL,on<|.sh<|.int (i:Int)]) (β:=β) (r_ i) nL (λl=>nL<|l++[i]) rfl (λl e=>⟨[on<|nL l,on<|.int (i:Int)],rfl,by
   have k:l.length<=i:=by have:=(jL i l e).length_le;rwa[Ps]at this
   refine cc rfl (ai rfl zI)<|(yJ ?_).trans ?_
   .rw[OC,OC,PX];lia
   .simp only[nL,nI,Pw,O0,TZ]⟩) (bp<|by lia)
  refine cc rfl h<|(yJ ?_).trans ?_
  .rw[OC,OC];lia
  .rw[r_,Pw,OU];rfl
 .rintro δ _ ⟨rfl,c,rfl⟩
  rw[show(bu 0 n).length=n by unfold bu;rw[OC,Ps]];exact am<|aO rfl ⟨rfl,rfl⟩
theorem ML{r:Nat}{b:a0a}(h:b∈r_ r):(∀i∈b,i<r)/\b.length<=r:=⟨λi c=>O9.mp<|(jL r b h).subset c,by have:=(jL r b h).length_le;rwa[Ps]at this⟩
theorem MA{r c:Nat}{E w:a0c}{b:LP}(P:d4 r c b)(l:E.length=r)(m:w.length=c)(n:r<=6)(p:c<=6)(V:∀X Y,0<=Zu E w b r c X Y):(gq K a).1 [iL E,iL w,dE b] β=on (.ok .non,β):=by
 unfold gq
 dsimp only
 refine aK<|am<|bH (ds:=(r_ r).map nL) (β1:=β) (cL (ak (aa (ai rfl<|bG (r:=r)<|by rw[OC,l]) rfl)<|AL n) rfl) (λi G f=>β=f/\∃g h,G=[on<|.sh<|iL E,on<|.sh<|iL w,on<|.sh<|dE b,g,h]) ⟨rfl,OD,OD,rfl⟩ ?_ ?_
 .rintro i d G _ hd ⟨rfl,g,h,rfl⟩
  obtain⟨e,q,rfl⟩:=bE hd;have S:=OW q;obtain⟨k,t⟩:=ML S;refine⟨_,rfl,aE (d:=nL<|v7 w b r c e) (β1:=β) (ak rfl<|DT P m (by lia) (by lia) k<|by lia) ?_⟩;refine am<|bP (et<|cc (ak rfl<|DR (by rw[l];exact k)<|by lia) (ak rfl<|CP P m (by lia) (by lia) k<|by lia) ?_)<|aU<|aY ⟨rfl,_,_,rfl⟩;have o:=V (λi=>decide (i∈e)) (λj=>decide (j∈v7 w b r c e));have M:(v7 w b r c e).Sublist (OV c):=Ve;rw[<-Ky (jL r e S) M]at o;show on (D.bl<|decide _)=_;rw[Pt<|by lia]
 .rintro G _ ⟨rfl,g,h,rfl⟩
  exact aY ⟨rfl,rfl⟩
theorem IJ{r c:Nat}{a:LI}{b:LP}(w:d4 r c a)(m:d4 r c b)(G:Kp a b)(X Y:Nat->Bool):0<=Zu (a.map P0) ((tp c a).map P0) b r c X Y:=by
 refine IO (g:=gp a) (λi f j h=>?_) (λi f=>(nY w f).symm) (λj h=>(nZ w h).symm) X Y;obtain⟨D,k,n⟩:=w.at f;have E:=lO (l:=D) (i:=j) (d:=0) (by lia);obtain⟨e,l⟩:=m.getD f;have K:=lO (l:=b.getD i []) (i:=j) (d:=((0,0):Int×Int)) (by lia);rw[gE k E];exact G i j _ _ (nW k E)<|nW e K
variable{rs cs:a0a}
theorem Ie{g:G}{a:Ds}{o:p3}(h:Gw g a β (λc b=>c=o/\b=β)):g a β=on (o,β):=by
 obtain⟨c,b,e,rfl,rfl⟩:=h;exact e
theorem iM{t:a0p}{d b h:G}{δ:Ds}{β1:Bg}{c:Bool}{Q:a0A}(e:t (gs δ) β=on (.ok c,β1))(f:c=OO)(k:Gw (aW b h) δ β1 Q):Gw (aW (L1 t d b) h) δ β Q:=by
 subst f;exact bP e k
theorem Nr{p:Int×Int}(h:oa p):(jZ K a).1 [pD p] β=on (.ok .non,β):=by
 obtain⟨b,c,e⟩:=h;unfold jZ
 dsimp only
 refine aK ?_;exact qm (d:=pD p) (β1:=β) rfl rfl<|am<|iM (c8<|et<|Fy rfl rfl rfl rfl) (by simp;lia)<|aU<|aY ⟨rfl,rfl⟩
theorem IR{r c:Nat}{b:LP}(g:sB r c b)(n:r<=1000):(dA K a).1 [dE b,.int (r:Int),.int (c:Int)] β=on (.ok<|dE b,β):=by
 unfold dA
 dsimp only
 refine aK ?_;refine bP (β1:=β) (et<|cc rfl rfl rfl)<|aU ?_;have o:cB 1 [2] (cQ<|af 0) (fy 0) (λ_=>M.ret OK) (js<|f2 (gh) (aV eJ<|ae (af 0)<|az)<|af 1) [on<|dE b,on<|.int (r:Int),on<|.int (c:Int),OD,OD] β=on (.ok<|.lst<|b.map λ_=>D.bl OO,β):=
  bo (nv:=1) (b0:=[2]) b (λw=>D.lst<|w.map pD) _ (by show on _=_;rw[OU];rfl) (λw h=>⟨_,rfl,cc (ai rfl<|bG (r:=c)<|by rw[OC];exact g.shp.2 w h) rfl<|Pu.ne_int.trans<|by rw[O3 rfl];rfl⟩) (bp<|by rw[g.shp.1];exact n)
 refine iM (cj (et<|cc (ai rfl<|ny (r:=r)<|by rw[OC];exact g.shp.1) rfl<|Pu.ne_int.trans<|by rw[O3 rfl];rfl)<|c7 (ai (aa o rfl)<|any_map b λ_=>OO) rfl) (by simp)<|aU ?_;refine bH (ds:=(gP b).map D.lst) (β1:=β) rfl (λi E e=>β=e/\∃l f,E=[on<|.sh<|dE b,on<|.sh<|.int (r:Int),on<|.sh<|.int (c:Int),l,f]) ⟨rfl,OD,OD,rfl⟩ ?_ ?_
 .rintro i d E _ hd ⟨rfl,l,f,rfl⟩
  obtain⟨y,q,rfl⟩:=bE hd;obtain⟨w,k,rfl⟩:=bE q;refine⟨_,rfl,am<|bH (ds:=w.map pD) (β1:=β) rfl (λj E e=>β=e/\∃f,E=[on<|.sh<|dE b,on<|.sh<|.int (r:Int),on<|.sh<|.int (c:Int),on<|.sh<|.lst<|w.map pD,f]) ⟨rfl,_,rfl⟩ ?_ ?_⟩
  .rintro j d E _ hd ⟨rfl,f,rfl⟩
   obtain⟨p,m,rfl⟩:=bE hd;exact⟨_,rfl,am<|jN (ak rfl<|Nr<|g.ok w (OW k) p<|OW m)<|aY ⟨rfl,_,rfl⟩⟩
  .rintro E _ ⟨rfl,f,rfl⟩
   exact aY ⟨rfl,_,_,rfl⟩
 .rintro E _ ⟨rfl,l,f,rfl⟩
  exact am<|aO (bo (nv:=1) (b0:=[]) (gP b) D.lst D.lst rfl (λx _=>⟨_,rfl,rfl⟩)<|bp<|by rw[OC,g.shp.1];exact n) ⟨rfl,rfl⟩
theorem DP(l:a0a){n:Nat}{δ:Dn}(b:l.length<=1000)(e:δ.getD n OD=on (nL l)):AF (aV xf<|ae (cB 1 [] (cQ<|af n) (fy 0) (λ_=>M.ret OK)<|js<|f2 (S_) (af 0)<|fC<|.int 0)<|az) δ β=on (.ok OO,β):=by
 have c:=bo (nv:=1) (b0:=[]) (it:=cQ<|af n) (tg:=fy 0) (f:=f2 (S_) (af 0)<|fC<|.int 0) (δ:=δ) (β:=β) (nI l) D.int (λx=>D.bl<|decide (x<0)) (cL (Ho e) rfl) (λx _=>⟨_,rfl,rfl⟩) (bp<|by rw[OC];exact b);refine c7 (ai (aa c rfl)<|any_map _ _)<|Qr on<|Td.mpr λx d=>?_;obtain⟨n,_,rfl⟩:=OZ.mp d;simp
theorem nz(l:a0a):eJ [nL l]=on (.int (l.length:Int)):=bG (by rw[OC,OC])
theorem J1(h:Nt0 rs cs):(jY K a).1 [nL rs,nL cs] β=on (.ok .non,β):=by
 obtain⟨b,c,d,e⟩:=h.nr;have w:=h.c1;have D:=h.c6;unfold jY
 dsimp only
 refine aK ?_;refine iM (c8<|et<|n6 rfl (ai rfl<|nz rs) rfl) (by simp;lia)<|aU ?_;refine iM (c8<|et<|n6 rfl (ai rfl<|nz cs) rfl) (by simp;lia)<|aU ?_;refine bP (cj (DP rs (by lia) rfl)<|DP cs (by lia) rfl)<|aU ?_;refine iM (et<|cc (ai rfl<|v8 rs) (ai rfl<|v8 cs) Pu.ne_int) (by rw[h.sm];simp)<|aU ?_;exact am<|iM (et<|cc (ai rfl<|v8 rs) rfl Pu.gt_int) (by simp;lia)<|aU<|aY ⟨rfl,rfl⟩
theorem Iz(h:B4 rs):(jX K a).1 [nL rs] β=on (.ok .non,β):=by
 obtain⟨g,j,k,e⟩:=h;unfold jX
 dsimp only
 refine aK ?_;refine aE (d:= .int 1) (β1:=β) rfl ?_;refine bH (ds:=(nI rs).map D.int) (β1:=β) rfl (λi w b=>β=b/\∃c,w=[on<|.sh<|nL rs,on<|.sh<|.int ((pr ((rs.take i).map (·+1)):Nat):Int),c]) ⟨rfl,OD,rfl⟩ ?_ ?_
 .rintro i d w _ hd ⟨rfl,c,rfl⟩
  obtain⟨n,E,rfl⟩:=uH hd;have f:=oH<|OW E;have l:=Pl (zi rs i) e;refine⟨_,rfl,am<|iN rfl (cc (z:= .int ((n+1:Nat):Int)) rfl rfl rfl) (zy (Z1<|by lia)<|Z1<|by lia)<|aY ⟨rfl,on<|.sh<|.int (n:Int),?_⟩⟩;rw[sf E];rfl
 .rintro w _ ⟨rfl,c,rfl⟩
  rw[qU,Rx];exact am<|iM (et<|cc rfl rfl Pu.gt_int) (by simp;lia)<|aU<|aY ⟨rfl,rfl⟩
structure ri (ac:LI) (B:a0v) (rs cs:a0a):Prop extends Nt0 rs cs where
 shp:d4 rs.length cs.length ac
 rw1:ac.map P0=nI rs
 cl1:(tp cs.length ac).map P0=nI cs
 bok:YT rs.length cs.length B
 kp:Kp ac<|dG B
theorem jg{r c:Nat}{B:a0v}(h:d4 r c B):d4 r c (dG B):=h.map
theorem YT.bnd{r c:Nat}{B:a0v}(h:YT r c B):sB r c (dG B):=⟨jg h.1,λa e p f=>by
 obtain⟨b,g,rfl⟩:=OZ.mp e;obtain⟨d,i,rfl⟩:=OZ.mp f;have:=h.2 b g d i;exact⟨by show(0:Int)<=(d.1:Int);lia,by show(d.1:Int)<=(d.2:Int);lia,by show(d.2:Int)<=40;lia⟩⟩
theorem ri.nt{ac:LI}{B:a0v}(h:ri ac B rs cs):ni K a rs cs (wB B cs) (la B):=⟨h.toNt0,yO B cs,λ{β k r} b c e=>J2 c (by rw[e];exact h.bok) (by rw[<-h.sm];exact h.nr.2.2.1) b⟩
theorem ri.fit{w:LI}{B:a0v}(h:ri w B rs cs):(gq K a).1 [nL rs,nL cs,la B] β=on (.ok .non,β):=by
 have b:=h.nr.2.1;have D:=h.c6;refine MA (jg h.bok.1) (OC _) (OC _) (by lia) (by lia) λX Y=>?_;rw[<-h.rw1,<-h.cl1];exact IJ h.shp (jg h.bok.1) h.kp X Y
theorem IS{w:LI}{B:a0v}(h:ri w B rs cs):(dA K a).1 [la B,.int (rs.length:Int),.int (cs.length:Int)] β=on (.ok<|la B,β):=IR h.bok.bnd (by have:=h.nr.2.1;lia)
abbrev nFs(B:a0v)(rs cs:a0a):a0e:=[nL rs,nL cs,la B,sM (wB B cs) rs cs.length]
abbrev Lr(a:Ad)(B:a0v)(rs cs:a0a):D:= .obj a.Ae ["row_list","column_list","pairs","counted"]<|nFs B rs cs
theorem NB{w:LI}{B:a0v}{d:D}(h:ri w B rs cs)(E:∀{β:Bg},(dA K a).1 [d,.int (rs.length:Int),.int (cs.length:Int)] β=on (.ok<|la B,β)):qW K a [nL rs,nL cs,d] β=on (.ok<|nFs B rs cs,β):=GS λx=>by
 have b:(d6 K a).1 [nL rs,nL cs,d] β=on (.ok<|la B,β):=by
  unfold d6
  dsimp only
  refine aK ?_;exact jN (ak rfl<|J1 h.toNt0)<|aE (ak (aa rfl<|aa (ai rfl<|nz rs)<|aa (ai rfl<|nz cs) rfl) E)<|jN (ak rfl<|Iz h.nr)<|am<|aO rfl ⟨rfl,rfl⟩
 unfold wv;refine EO (g:=eY 4 _) (δ1:=[on<|.sh<|.adr x,on<|.sh<|nL rs,on<|.sh<|nL cs,on<|.sh d,on<|.sh<|la B]) (β1:=β) (Ie<|am<|aE (ak rfl b)<|aY ⟨rfl,rfl⟩) rfl rfl ?_;refine EO (δ1:=[on<|.sh<|.adr x,on<|.sh<|nL rs,on<|.sh<|nL cs,on<|.sh d,on<|.sh<|la B]) (β1:=β) (Ie<|am<|jN (ak rfl h.fit)<|aY ⟨rfl,rfl⟩) rfl rfl ?_;exact re (ai rfl rfl)<|re (ai rfl rfl)<|re rfl<|re (ak rfl<|AI h.nt) rfl
theorem Lq{ac:LI}{B:a0v}(h:ri ac B rs cs):qW K a [nL rs,nL cs,la B] β=on (.ok<|nFs B rs cs,β):=NB h<|IS h
theorem MY{f:FD}{g:FL}{a:Dn}{b:Bool}{w:List f0}{E:a0e}{k z d:D}{y:f0}(c:f a β=on (.ok<|.dct b w E,β))(e:g a β=on (.ok [k,z],β))(h:jr b k=on y)(i:ln w E y=on d):G4 f g a β=on (.ok d,β):=by
 unfold G4;rw[M.bind_ok c];simp only;rw[M.bind_ok e];simp only[h,i,QI,UA,M.ofO]
variable{W:Wy}{s:D}
abbrev sT(W:Wy)(cs:a0a)(k:Nat)(r:a0a):a0n:=wh W (cs.length-(k+1)) k r
abbrev tB(W:Wy)(cs:a0a)(k:Nat)(r v:a0a):Nat:=jm W (cs.length-(k+1)) (k+1)<|less r v
abbrev mB(W:Wy)(cs:a0a)(k:Nat)(r v:a0a):Nat:=mu v*D1 W (cs.length-(k+1)) (k+1) (less r v)
abbrev cY(a:Ad)(W:Wy)(s:D)(rs cs:a0a):D:= .obj a.Ae ["row_list","column_list","pairs","counted"] [nL rs,nL cs,s,sM W rs cs.length]
theorem JD{b d:List f0}{c e:a0e}{y:f0}(h:b.length=c.length):ln (b++d) (c++e) y=(ln b c y).or (ln d e y):=by
 unfold ln;rw[List.zip_append h,List.find?_append];cases(b.zip c).find? λp=>decide (p.1=y)<;>rfl
theorem HV{f:a0a->D}{u:a0a}{k:Int}:∀{L:a0n},u∈L->ln (L.map λr=>(k,nI r)) (L.map f) (k,nI u)=on (f u)
 |r::L,h=>by
  unfold ln;rw[O0,O0,Rg,Sf];by_cases q:r=u
  .rw[q,O3 rfl];rfl
  .rw[Pt λe=>q<|i6 (Te.mp e).2]
   exact HV<|(OQ.mp h).resolve_left λe=>q e.symm
theorem DX{f:a0a->D}{y:f0}{k:Int}(h:k≠y.1):∀{L:a0n},ln (L.map λr=>(k,nI r)) (L.map f) y=OD
 |[]=>rfl
 |r::L=>by
  have a:=DX (f:=f) h (L:=L);unfold ln at a⊢;rw[O0,O0,Rg,Sf,Pt λe=>h (Te.mp e).1];exact a
theorem DZ{m k:Nat}{u:a0a}(b:u∈hU W rs k):∀{L:a0a},k∈L->ln (L.flatMap λk=>(hU W rs k).map λr=>((k:Int),nI r)) (L.flatMap λk=>(hU W rs k).map<|cv W m k) ((k:Int),nI u)=on (cv W m k u)
 |j::L,h=>by
  rw[Qm,Qm,JD<|by rw[OC,OC]];by_cases q:j=k
  .subst q
   rw[HV b];rfl
  .rw[DX (by show(j:Int)≠(k:Int);lia),Option.none_or]
   exact DZ b<|(OQ.mp h).resolve_left λe=>q e.symm
theorem A_{k:Nat}{u:a0a}(c:k<=cs.length)(b:u∈hU W rs k):ln (Y0 W rs<|cs.length+1) (MO W rs cs.length) ((k:Int),nI u)=on (cv W cs.length k u):=DZ b (O9.mpr<|by lia)
theorem wZ{k:Nat}{u:a0a}(c:k<=cs.length)(d:u∈hU W rs k):(fK K a).1 [cY a W s rs cs,.int (k:Int),tN u] β=on (.ok<|cv W cs.length k u,β):=
 aK (am<|aO (MY (kx rfl rfl) (aa (ai rfl hZ)<|aa (ai rfl hZ) rfl) (sy (b:=OK) (k:=((k:Int),nI u)) λe=>(by cases e))<|A_ c d) ⟨rfl,rfl⟩)
theorem Lo{k:Nat}{u:a0a}(b:k<=cs.length)(c:u∈hU W rs k):Gm (.tup [.int (k:Int),tN u]) (sM W rs cs.length)=on (.bl OO):=by
 show(jr OK<|dK OK ((k:Int),nI u)).map _=_;rw[sy λe=>(by cases e),QI,A_ b c];rfl
theorem ni.nx{k:Nat}{r v:a0a}(h:ni K a rs cs W s)(b:r∈hU W rs k)(c:v∈W k r):less r v∈hU W rs (k+1):=oE.mpr ⟨r,b,v,c,rfl⟩
theorem Ht{k:Nat}{r:a0a}(h:ni K a rs cs W s)(b:B4 r):(W k r).length<=500:=by
 have:=(h.ok k r).length_le;have:=jO r<|cs.getD k 0;have:=zi r<|r.length-1;rw[<-List.dropLast_eq_take]at this;have:=b.2.2.2;lia
theorem HE{k:Nat}{r:a0a}(h:ni K a rs cs W s)(b:B4 r):(sT W cs k r).length<=500:=Pl Ve.length_le<|Ht h b
theorem FW{k:Nat}{r:a0a}(h:ni K a rs cs W s)(d:k<cs.length)(b:r∈hU W rs k):(k4 K a).1 [cY a W s rs cs,.int (k:Int),tN r] β=on (.ok<|.lst<|(sT W cs k r).map tN,β):=by
 obtain⟨c,f,g⟩:=h.at (by lia) b;unfold k4
 dsimp only
 refine aK ?_;refine iM (cj (et<|cc (ai rfl hZ) (kx rfl rfl)<|Lo (by lia) b)<|et<|cc rfl (ai (aa (kx rfl rfl) rfl)<|nz cs) Pu.eq_int) (by simp;lia)<|aU ?_;refine am<|aO (kh (W k r) tN tN (λv=>decide ((0:Int)<((tB W cs k r v:Nat):Int))) (cL (ak (aa rfl<|aa (kx rfl rfl)<|aa (kx rfl rfl)<|aa rfl rfl)<|h.fl d c f) rfl) (λv e=>⟨[on<|tN v,on<|cY a W s rs cs,on<|.int (k:Int),on<|tN r],rfl,?_,λ_=>rfl⟩)<|bp ?_) ⟨rfl,rfl⟩
 .exact et (cc (cc (eZ rfl (aa (x:= .int ((k+1:Nat):Int)) (cc rfl rfl rfl)<|aa (ak rfl<|ow (dg<|(h.ok k r).subset e) c.2.1) rfl)<|wZ d<|h.nx b e) rfl sC) rfl Pu.gt_int)
 .have:=Ht (k:=k) h c
  lia
abbrev YV(W:Wy)(j k:Nat)(r v:a0a):D:= .tup [tN v,.int ((jm W j (k+1) (less r v):Nat):Int),.int ((mu v*D1 W j (k+1) (less r v):Nat):Int)]
theorem ZR{x y z:D}:gC [x,y,z]=on (.tup [x,y,z]):=by
 unfold gC;rw[OS<|bp (by show 3<=1000;decide)]
theorem Oy{k:Nat}{r:a0a}(h:ni K a rs cs W s)(b:k<=cs.length)(c:r∈hU W rs k):D1 W (cs.length-k) k r<=2^160:=by
 refine Pl (wS h.ok _ _ _<|by lia) ?_;rw[wQ _ _ (j5 h.ok h.sm k b r c).2];exact HU (h.at b c).2.2
theorem BX{k:Nat}{r:a0a}(h:ni K a rs cs W s)(c:k<cs.length)(e:r∈hU W rs k):(fG K a).1 [cY a W s rs cs,.int (k:Int),tN r] β=on (.ok<|.lst<|(sT W cs k r).map<|YV W (cs.length-(k+1)) k r,β):=by
 obtain⟨m,p,o⟩:=h.at (by lia) e;have q:=HE (k:=k) h m;unfold fG
 dsimp only
 refine aK ?_;refine kz (ds:=[]) (β1:=β) rfl (Qf _) ?_;refine bH (ds:=(sT W cs k r).map tN) (β1:=β) (cL (eZ rfl rfl<|FW h c e) rfl) (λi w f=>β=f/\∃g j l,w=[on<|.sh<|cY a W s rs cs,on<|.sh<|.int (k:Int),on<|.sh<|tN r,on<|.own<|((sT W cs k r).take i).map<|YV W (cs.length-(k+1)) k r,g,j,l]) ⟨rfl,OD,OD,OD,rfl⟩ ?_ ?_
 .rintro i d w _ hd ⟨rfl,g,j,l,rfl⟩
  obtain⟨v,n,rfl⟩:=bE hd;have D:=(Q8.mp<|OW n).1;have E:=h.nx e D;have b:v.sum<=40:=Pl (dg<|(h.ok k r).subset D).sum o;refine⟨_,rfl,qm (d:=cv W cs.length (k+1)<|less r v) (β1:=β) (eZ rfl (aa (x:= .int ((k+1:Nat):Int)) (cc rfl rfl rfl)<|aa (ak rfl<|ow (dg<|(h.ok k r).subset D) m.2.1) rfl)<|wZ c E) rfl<|am<|jx (cs:=((sT W cs k r).take i).map<|YV W (cs.length-(k+1)) k r) (d:=YV W (cs.length-(k+1)) k r v) rfl (aa (ai (aa rfl<|aa rfl<|aa (cc (ak rfl<|xx (.inr rfl) b) rfl<|zy (j6 (u4 b)<|by decide)<|j6 (Oy h c E)<|by decide) rfl)<|ZR.trans<|by rw[u3]) rfl) (Pj (show _<1000 by rw[OC,Rv];lia)<|by decide)<|aY ⟨rfl,on<|.sh<|tN v,on<|.sh<|.int ((tB W cs k r v:Nat):Int),on<|.sh<|.int ((D1 W (cs.length-(k+1)) (k+1) (less r v):Nat):Int),?_⟩⟩;rw[Ut,n,Pw];rfl
 .rintro w _ ⟨rfl,g,j,l,rfl⟩
  rw[OC,Rx];exact am<|aO rfl ⟨rfl,rfl⟩
theorem G0(f:a0a->Nat)(l:a0n){n:Nat}(E:n<L2.Nt.sm l f):(l4 K a).1 [.lst<|l.map λv=> .tup [tN v,.int ((f v:Nat):Int)],.int (n:Int)] β=on (.ok<|.tup [tN (lj f l n).1,.int (((lj f l n).2:Nat):Int)],β):=by
 unfold l4
 dsimp only
 refine aK ?_;refine aE (d:= .int 0) (β1:=β) rfl ?_;refine rO (λq w g=>β=g/\∃i b:Nat,w=[on<|.sh<|.lst<|l.map λv=> .tup [tN v,.int ((f v:Nat):Int)],on<|.sh<|.int (b:Int),on<|.sh<|.int (i:Int)]/\q=l.length-i/\lj f (l.drop i) b=lj f l n/\b<L2.Nt.sm (l.drop i) f) ?_ l.length _ β ⟨rfl,0,n,rfl,rfl,rfl,E⟩;rintro q w _ ⟨rfl,i,b,rfl,rfl,e,s⟩;have h:i<l.length:=by
  rcases T7 i l.length with z|z
  .exact z
  .rw[QT z]at s;cases s
 have c:(l.map λv=>D.tup [tN v,.int ((f v:Nat):Int)])[i]?=on (.tup [tN l[i],.int ((f l[i]:Nat):Int)]):=by rw[OI,OE h];rfl
 rw[PU h]at e s;rw[bL]at s;have j:∀v l n,lj f (v::l) n=if n<f v then(v,n)else lj f l (n-f v):=λ_ _ _=>rfl;rw[j]at e;by_cases z:b<f l[i]
 .rw[OS z]at e
  refine .inl ⟨β,?_,?_⟩
  .exact(et<|cc rfl (cc (cc rfl rfl<|cf c) rfl wn) Pu.ge_int).trans (by rw[Pt<|by lia])
  .rw[<-e]
   exact am<|aO (ai (aa (cc (cc rfl rfl<|cf c) rfl sC)<|aa rfl rfl) hZ) ⟨rfl,rfl⟩
 .rw[OR z]at e
  refine .inr ⟨β,?_,?_⟩
  .exact(et<|cc rfl (cc (cc rfl rfl<|cf c) rfl wn) Pu.ge_int).trans (by rw[O3<|by lia])
  .refine iN (z:= .int ((b-f l[i]:Nat):Int)) rfl (cc (cc rfl rfl<|cf c) rfl wn) (by show on (D.int _)=_;rw[Int.ofNat_sub<|by lia]) (am<|iN (z:= .int ((i+1:Nat):Int)) rfl rfl rfl<|aY ⟨_,rfl,l.length-(i+1),by lia,rfl,i+1,b-f l[i],rfl,rfl,e,by lia⟩)
theorem KE{n:Nat}{s:a0n}(g:1<=s.length)(l:s.length<=30)(E:n<=30)(b:∀v∈s,v.length=n):(dL K a).1 [.lst<|s.map tN] β=on (.ok<|ao<|tp n<|s.map nI,β):=by
 have c:(s.map tN)[0]?=on (tN s[0]):=by rw[OI,OE<|by lia];rfl
 unfold dL
 dsimp only
 refine aK<|am<|aO (d:= .lst<|(OV n).map λj=>D.lst<|s.map λv=> .int ((v.getD j 0:Nat):Int)) (β1:=β) ?_ ⟨rfl,?_⟩
 .refine bo (OV n) (λi=>D.int<|0+(i:Int)) _ (bQ (ds:=bu 0 n) (aa (ai (z:= .int (n:Int)) (aa (cc rfl rfl<|cf (k:=0) c) rfl) ?_) rfl)<|up (by lia)<|by lia) (λj e=>⟨[on<|.int<|0+(j:Int),on<|.lst<|s.map tN],rfl,?_⟩) (bp<|by rw[Ps];lia)
  .show on (D.int _)=_
   rw[OC,OC,b _<|PF _]
  .have f:=O9.mp e
   refine bo (nv:=1) (b0:=[0]) s tN _ rfl (λv h=>⟨[on<|tN v,on<|.int<|0+(j:Int)],rfl,cc rfl rfl ?_⟩) (bp<|by lia);rw[Ru];have m:=b v h;refine cf (xs:=(nI v).map D.int) ?_;rw[OI,OI,fF (by lia),OE<|by lia];rfl
 .unfold tp ry
  show Qj (D.lst<|Qt D.lst<|Qt _<|Qt _ _)=_;rw[OU,OU];congr 2;refine Pk λj _=>?_;show D.lst (((s.map nI).map λw=>w.getD j 0).map D.int)=_;rw[OU,OU];congr 1;refine Pk λv _=>?_;show D.int ((nI v).getD j 0)=_;rw[OJ,OJ,OI];cases v[j]?<;>rfl
theorem eqI(i j:Int):Rb (.int i) (.int j)=decide (i=j):=by unfold Rb;exact Bool.beq_eq_decide_eq i j
theorem ue{w:Type} [DecidableEq w]{f:w->VX}(b:∀x y,Rb (f x) (f y)=decide (x=y)):∀a s:List w,Qx (a.map f) (s.map f)=decide (a=s)
 |[],[]=>by simp[Qx]
 |[],y::s=>by simp[Qx]
 |x::a,[]=>by simp[Qx]
 |x::a,y::s=>by
  rw[O0,O0,Qx,b,ue b a s];by_cases h:x=y<;>by_cases q:a=s<;>simp[h,q]
theorem vb{a:Type}{f:a->D}{g:a->VX}(h:∀x,lg (f x)=on (g x)):∀l:List a,toPs (l.map f)=on (l.map g)
 |[]=>by simp[toPs]
 |x::l=>by
  rw[O0,toPs,h x,vb h l];rfl
theorem ud{x y:D}{p q:VX}(f:YN x y=OD)(d:lg x=on p)(e:lg y=on q)(b:gF x=OK)(c:gF y=OK):dI x y=on (.bl<|Rb p q):=by
 unfold dI gU;unfold gF at b c;rw[d]at b;rw[e]at c;simp only[f,d,e,b,c,Ts,P8,QI]
theorem Ot(a s:a0c):dI (ix a) (ix s)=on (.bl<|decide (a=s)):=by
 have t:∀l:a0c,lg (ix l)=on (.tuple<|l.map .int):=λl=>by
  unfold ix lg;rw[vb (g:=Vg) λx=>rfl];rfl
 have c:∀l:a0c,gF (ix l)=OK:=λl=>gT 1 (λx b=>by
  obtain⟨i,_,rfl⟩:=OZ.mp b;trivial) (by decide)
 rw[ud rfl (t a) (t s) (c a)<|c s,Rb,ue eqI]
theorem Os(u v:a0a):dI (tN u) (tN v)=on (.bl<|decide (u=v)):=by
 rw[Ot];by_cases q:u=v
 .rw[q,O3 rfl,O3 rfl]
 .rw[Pt q,Pt λe=>q<|i6 e]
theorem sk:(ff K a).1 [cY a W s rs cs] β=on (.ok<|nL rs,β):=aK<|am<|aO (ai (aa (kx rfl rfl) rfl) rfl) ⟨rfl,rfl⟩
theorem yb:(gQ K a).1 [cY a W s rs cs] β=on (.ok<|nL cs,β):=aK<|am<|aO (ai (aa (kx rfl rfl) rfl) rfl) ⟨rfl,rfl⟩
theorem MK{n m:Nat}(h:n<m):(lE K a).1 [.int (n:Int),.int (m:Int)] β=on (.ok .non,β):=
 aK (am<|iM (c8<|et<|AY rfl rfl rfl) (by simp;lia)<|aU<|aY ⟨rfl,rfl⟩)
theorem BG(l:a0a):u9 [nL l]=on (tN l):=rfl
theorem xB:(fV K a).1 [cY a W s rs cs] β=on (.ok<|.int ((jm W cs.length 0 rs:Nat):Int),β):=
 aK (am<|aO (cc (eZ rfl (aa rfl<|aa (ai (aa (kx rfl rfl) rfl) rfl) rfl)<|wZ (k:=0) (Qf _)<|PH.mpr rfl) rfl sC) ⟨rfl,rfl⟩)
theorem EH{n0:Nat}(h:ni K a rs cs W s)(D:n0<jm W cs.length 0 rs):(dW K a).1 [cY a W s rs cs,.int (n0:Int)] β=on (.ok<|ao<|tp rs.length<|(C_ W cs.length 0 rs n0).map nI,β):=by
 have M:=h.c1;have P:=h.c6;have B:=h.nr.2.1;unfold dW
 dsimp only
 refine aK ?_;refine jN (ak (aa rfl<|aa (eZ rfl rfl xB) rfl)<|MK D) ?_;refine aE (d:=tN rs) (β1:=β) (ai (aa (eZ rfl rfl sk) rfl)<|BG rs) ?_;refine kz (ds:=[]) (β1:=β) rfl (Qf _) ?_;refine bH (ds:=bu 0 cs.length) (β1:=β) (bQ (aa (ai (aa (eZ rfl rfl yb) rfl)<|nz cs) rfl)<|up (by lia)<|by lia) (λi E f=>β=f/\∃w r,∃n:Nat,∃g j l,E=[on<|.sh<|cY a W s rs cs,on<|.sh<|.int (n:Int),on<|.sh<|tN r,on<|.own<|w.map tN,g,j,l]/\w.length=i/\r∈hU W rs i/\n<jm W (cs.length-i) i r/\w++C_ W (cs.length-i) i r n=C_ W cs.length 0 rs n0) ⟨rfl,[],rs,n0,OD,OD,OD,rfl,rfl,PH.mpr rfl,D,rfl⟩ ?_ ?_
 .rintro i d E _ hd ⟨rfl,w,r,n,g,j,l,rfl,m,c,D,b⟩
  obtain⟨u,rfl⟩:=zd hd;have o:cs.length-i=(cs.length-(i+1))+1:=by lia
  rw[o,<-BZ]at D;rw[o]at b;obtain⟨y,A⟩:=wK D;have p:=(Q8.mp y).1;have G:=dg<|(h.ok i r).subset p;have q:=(h.at (by lia) c).1;have C:=HE (k:=i) h q;refine⟨_,rfl,aE (d:= .lst<|(sT W cs i r).map λv=> .tup [tN v,.int ((tB W cs i r v:Nat):Int)]) (β1:=β) (bo (sT W cs i r) (YV W (cs.length-(i+1)) i r) _ (cL (ak rfl<|BX h u c) rfl) (λv _=>⟨[on<|tN v,on<|.int ((tB W cs i r v:Nat):Int),on<|.int ((mB W cs i r v:Nat):Int)],rfl,ai rfl hZ⟩)<|bp<|by lia) ?_⟩;refine qm (ak rfl<|G0 (tB W cs i r) (sT W cs i r) D) rfl ?_;refine jx (cs:=w.map tN) rfl rfl (Pj (show _<1000 by rw[OC];lia)<|by decide)<|am<|aE (ak rfl<|ow G q.2.1)<|aY ⟨rfl,w++[(lj (tB W cs i r) (sT W cs i r) n).1],less r (lj (tB W cs i r) (sT W cs i r) n).1,(lj (tB W cs i r) (sT W cs i r) n).2,_,_,_,by rw[Pw];rfl,by rw[O8,m];rfl,h.nx c p,A,by rw[Ql];exact b⟩
 .rintro E _ ⟨rfl,w,r,n,g,j,l,rfl,m,c,_,b⟩
  rw[qJ]at m b;rw[UV]at b;have e:w=C_ W cs.length 0 rs n0:=by rw[<-b];exact(P9 w).symm
  rw[<-e];have t:=(rN h.ok (HZ D) (by rw[EI,Qi]) h.sm).2.2;rw[<-e]at t;exact am<|aO (ak rfl<|KE (by lia) (by lia) (by lia) t) ⟨rfl,rfl⟩
theorem qI{r c:Nat}{s:LI}(w:d4 r c s)(D:1<=r)(E:r<=30)(G:c<=30):(dL K a).1 [ao s] β=on (.ok<|ao<|tp c s,β):=
 aK (am<|aO (Kk w D E G rfl) ⟨rfl,rfl⟩)
theorem Hg{E:LI}(h:Nt0 rs cs)(M:d4 rs.length cs.length E):(ic K a).1 [cY a W s rs cs,ao E] β=on (.ok<|.lst<|(tp cs.length E).map ix,β):=by
 obtain⟨b,j,_,_⟩:=h.nr;have P:=h.c1;have S:=h.c6;unfold ic
 dsimp only
 refine aK ?_;refine aE (d:= .int (cs.length:Int)) (β1:=β) (ai (aa (eZ rfl rfl yb) rfl)<|nz cs) ?_;have e:f2 gh (aV eJ<|ae (af 1) az) (aV eJ<|ae (oY a.Ae "rowsums" (ff K a).1 (af 0) az []) az) (gs [on<|.sh<|cY a W s rs cs,on<|.sh<|ao E,on<|.sh<|.int (cs.length:Int)]) β=on (.ok<|.bl OO,β):=cc (ai rfl<|bG (r:=rs.length)<|by rw[OC,OC];exact M.1) (ai (aa (eZ rfl rfl sk) rfl)<|nz rs) (Pu.ne_int.trans<|by rw[O3 rfl];rfl);have g:=bo (nv:=1) (b0:=[2]) (it:=cQ<|af 1) (tg:=fy 0) (f:=f2 gh (aV eJ<|ae (af 0) az)<|af 1) (δ:=gs [on<|.sh<|cY a W s rs cs,on<|.sh<|ao E,on<|.sh<|.int (cs.length:Int)]) (β:=β) E (λw=>D.lst<|w.map D.int) (λ_=>D.bl OO) (cL rfl (by show on _=on _;rw[OU];rfl)) (λw i=>⟨[on<|D.lst<|w.map D.int,on<|.int (cs.length:Int)],rfl,cc (ai rfl<|bG (r:=cs.length)<|by rw[OC];exact M.2 w i) rfl<|Pu.ne_int.trans<|by rw[O3 rfl];rfl⟩) (bp<|by rw[M.1];lia);refine iM (cj (et e)<|c7 (ai (aa g rfl)<|any_map E λ_=>OO) rfl) (by simp)<|aU ?_;refine am<|aO (bo (tp cs.length E) (λG=>D.lst<|G.map D.int) ix (cL (ak rfl<|qI M b (by lia)<|by lia) (by show on _=on _;rw[OU];rfl)) (λG _=>⟨[on<|D.lst<|G.map D.int],rfl,rfl⟩)<|bp<|by rw[(gX (d:=(0:Int)) (c:=cs.length) M.1).1];lia) ⟨rfl,rfl⟩
theorem MQ{k:Nat}{r v:a0a}(h:ni K a rs cs W s)(n:k<cs.length)(o:r∈hU W rs k)(p:v∈sT W cs k r):∃x,(fJ K a).1 [cY a W s rs cs,.int (k:Int),tN r,tN v] β=on (.ok<|.tup [.int ((tx (tB W cs k r) v (sT W cs k r):Nat):Int),x],β):=by
 suffices q:∃g b,(fJ K a).1 [cY a W s rs cs,.int (k:Int),tN r,tN v] β=on (g,b)/\β=b/\∃x,g= .ok (.tup [.int ((tx (tB W cs k r) v (sT W cs k r):Nat):Int),x]) by
  obtain⟨g,_,e,rfl,x,rfl⟩:=q;exact⟨x,e⟩
 unfold fJ
 dsimp only
 refine iq ?_;refine aE (d:= .int 0) (β1:=β) rfl<|aE (d:= .int 0) (β1:=β) rfl ?_;generalize A:(tB W cs k r)=f;refine bH (ds:=(sT W cs k r).map<|YV W (cs.length-(k+1)) k r) (β1:=β) (cL (ak rfl<|BX h n o) rfl) (λi w b=>β=b/\∃t d:Nat,∃c j m,w=[on<|.sh<|cY a W s rs cs,on<|.sh<|.int (k:Int),on<|.sh<|tN r,on<|.sh<|tN v,on<|.sh<|.int (t:Int),on<|.sh<|.int (d:Int),c,j,m]/\t+tx f v ((sT W cs k r).drop i)=tx f v (sT W cs k r)/\v∈(sT W cs k r).drop i) ⟨rfl,0,0,OD,OD,OD,rfl,Qi _,p⟩ ?_ ?_
 .rintro i _ w _ hd ⟨rfl,t,d,c,j,m,rfl,e,hm⟩
  obtain⟨u,B,rfl⟩:=bE hd;obtain⟨C,rfl⟩:=OM.mp B;rw[PU C]at e hm;have F:∀u l,tx f v (u::l)=if u=v then 0 else f u+tx f v l:=λ_ _=>rfl;rw[F]at e;refine⟨_,rfl,jM (β1:=β) (et<|cc rfl rfl<|Os _ v) ?_⟩;by_cases z:(sT W cs k r)[i]=v
  .rw[OS z]at e
   rw[OS<|O3 z];exact aO (ai rfl hZ) ⟨rfl,.int (d:Int),by rw[<-e];rfl⟩
  .rw[OR z]at e
   rw[OR (λy=>z<|QG y)];refine aU<|iN (z:= .int ((t+f (sT W cs k r)[i]:Nat):Int)) rfl rfl (by rw[<-A];rfl)<|am<|iN (z:= .int ((d+mB W cs k r (sT W cs k r)[i]:Nat):Int)) rfl rfl rfl<|aY ⟨rfl,_,_,_,_,_,rfl,by lia,(OQ.mp hm).resolve_left λy=>z y.symm⟩
 .rintro w _ ⟨rfl,t,d,c,j,m,rfl,e,hm⟩
  rw[OC,SF]at hm;cases hm
theorem Lk{E:LI}{w:a0n}(h:ni K a rs cs W s)(M:d4 rs.length cs.length E)(l:tp cs.length E=w.map nI)(m:Wk W 0 rs w)(n:w.length=cs.length):(iS K a).1 [cY a W s rs cs,ao E] β=on (.ok<|.int ((KX W 0 rs w:Nat):Int),β):=by
 have V:=h.c6;unfold iS
 dsimp only
 refine aK ?_;refine aE (d:=tN rs) (β1:=β) (ai (aa (eZ rfl rfl sk) rfl)<|BG rs) ?_;refine aE (d:= .int 0) (β1:=β) rfl ?_;refine bH (ds:=cm 0<|w.map tN) (β1:=β) (bQ (aa (ak rfl<|Hg h.toNt0 M) rfl)<|by rw[l,OU];rfl) (λi G f=>β=f/\∃r,∃D:Nat,∃g j,G=[on<|.sh<|cY a W s rs cs,on<|.sh<|ao E,on<|.sh<|tN r,on<|.sh<|.int (D:Int),g,j]/\r∈hU W rs i/\Wk W i r (w.drop i)/\D+KX W i r (w.drop i)=KX W 0 rs w) ⟨rfl,rs,0,OD,OD,rfl,PH.mpr rfl,m,Qi _⟩ ?_ ?_
 .rintro i _ G _ hd ⟨rfl,r,D,g,j,rfl,c,b,e⟩
  obtain⟨_,o,rfl⟩:=iI hd;obtain⟨v,p,rfl⟩:=bE o;obtain⟨q,rfl⟩:=OM.mp p;rw[PU q]at e b;have k:(w.drop<|i+1).length=cs.length-(i+1):=by rw[VO,n]
  obtain⟨x,P⟩:=MQ (β:=β) h (by lia) c<|MZ b k;have t:=(h.at (by lia) c).1;have S:=dg<|(h.ok i r).subset b.1;have u:KX W i r (w[i]::w.drop (i+1))=tx (tB W cs i r) w[i] (sT W cs i r)+KX W (i+1) (less r w[i]) (w.drop<|i+1):=by
   unfold tB sT;rw[<-k];rfl
  rw[u]at e;exact⟨_,rfl,iN (z:= .int ((D+tx (tB W cs i r) w[i] (sT W cs i r):Nat):Int)) rfl (cc (ak rfl P) rfl sC) rfl<|am<|aE (ak rfl<|ow S t.2.1)<|aY ⟨rfl,less r w[i],_,_,_,rfl,h.nx c b.1,b.2,by lia⟩⟩
 .rintro G _ ⟨rfl,r,D,g,j,rfl,c,_,e⟩
  rw[jd,OC,SF]at e;have e:D=KX W 0 rs w:=e;subst e;exact am<|aO rfl ⟨rfl,rfl⟩
def ci(ac:LI)(i j:Nat)(v:Int):LI:=match ac[i]? with
 |some a=>match a[j]? with
  |some x=>ac.set i<|a.set j<|x+v
  |none=>ac
 |none=>ac
theorem xh{ac:LI}{i j:Nat}{v x:Int}{a:a0c}(b:ac[i]?=on a)(c:a[j]?=on x):ci ac i j v=ac.set i (a.set j<|x+v):=by
 unfold ci;simp only[b,c]
theorem cz{r c i j:Nat}{a:LI}{v:Int}(h:d4 r c a):d4 r c (ci a i j v):=by
 unfold ci;split
 .rename_i row e
  split
  .exact h.set e
  .exact h
 .exact h
def bC(m:Int):Nat->a0b->LI->LI
 |_,[],ac=>ac
 |k,p::cs,ac=>bC m (k+1) cs<|ci ac p.1 p.2 (if k % 2=0 then m else -m)
theorem u6(m:Int):∀(cs ds:a0b) (k:Nat) (ac:LI),bC m k (cs++ds) ac=bC m (k+cs.length) ds (bC m k cs ac)
 |[],ds,k,ac=>rfl
 |p::cs,ds,k,ac=>by
  show bC m (k+1) (cs++ds) _=_;rw[u6 m cs ds<|k+1];show bC m (k+1+cs.length) ds _=bC m (k+(cs.length+1)) ds _;rw[show k+1+cs.length=k+(cs.length+1) by lia];rfl
theorem iz{r c:Nat}(m:Int):∀(cs:a0b) (k:Nat) (ac:LI),d4 r c ac->d4 r c (bC m k cs ac)
 |[],k,ac,h=>h
 |p::cs,k,ac,h=>iz m cs (k+1) _<|cz h
abbrev bc(p:Nat×Nat):D:= .tup [.int (p.1:Int),.int (p.2:Int)]
abbrev Zn(d0 d1:D)(m:Int)(cs:a0b)(g:a0r)(b c d:a0E):Ds:=[on<|.sh d0,on<|.sh d1,on<|.sh<|.int m,on<|.sh<|.lst<|cs.map bc,on<|.grd g,b,c,d]
theorem BP{a:Type}{l:List a}{k:Nat}{x:a}(h:l[k]?=on x):l.take (k+1)=l.take k++[x]:=by
 rw[Ut,h];rfl
theorem BA{r c:Nat}{ac:LI}{m:Int}{cs:a0b}{d0 d1:D}(w:d4 r c ac)(F:∀p∈cs,p.1<r/\p.2<c)(E:True){h:G}{Q:a0A}(H:∀g j n,Gw h (Zn d0 d1 m cs (gI<|bC m 0 cs ac) g j n) β Q):
  Gw (aW (wD (zx<|ae (af 3)<|az) (Zv<|mS (PC 5)<|mS (Zv<|mS (PC 6)<|mS (PC 7) vq) vq)<|rp 4 MS (af 6) (af 7)<|V_ (fB<|f2 (dI) (f2 sr (af 5)<|fC<|.int 2)<|fC<|.int 0) (af 2)<|f1 zu<|af 2) h) (Zn d0 d1 m cs (gI ac) OD OD OD) β Q:=by
 refine bH (ds:=cm 0<|cs.map bc) (β1:=β) rfl (λk s f=>β=f/\∃g j n,s=Zn d0 d1 m cs (gI<|bC m 0 (cs.take k) ac) g j n) ⟨rfl,OD,OD,OD,rfl⟩ ?_ ?_
 .rintro k d s f hd ⟨rfl,g,j,n,rfl⟩
  obtain⟨x,I,rfl⟩:=iI hd;obtain⟨p,v,rfl⟩:=bE I;obtain⟨A,J⟩:=F p<|OW v;have o:=iz (r:=r) (c:=c) m (cs.take k) 0 ac w;obtain⟨a,b,t⟩:=o.at A;obtain⟨y,C⟩:=mz (l:=a) (i:=p.2) (by lia);have B:(cs.take k).length=k:=by
   have:=(OM.mp v).1;rw[Rv];lia
  refine⟨_,rfl,am ?_⟩;have L:V_ (fB<|f2 (dI) (f2 sr (af 5)<|fC<|.int 2)<|fC<|.int 0) (af 2) (f1 zu<|af 2) (gs<|Zn d0 d1 m cs (gI<|bC m 0 (cs.take k) ac) (on<|.sh<|.int (k:Int)) (on<|.sh<|.int (p.1:Int))<|on<|.sh<|.int (p.2:Int)) β=on (.ok<|.int (if k % 2=0 then m else -m),β):=by
   have e:sr (.int (k:Int)) (.int 2)=on (.int<|(k:Int) % 2):=rfl;by_cases q:k % 2=0
   .rw[OS q]
    refine Hq (β1:=β) (et ?_) rfl;rw[show OK=decide ((k:Int) % 2=0) by rw[O3<|by lia]];exact cc (cc rfl rfl e) rfl Pu.eq_int
   .rw[OR q]
    refine Hr (β1:=β) (et ?_) rfl;rw[show OO=decide ((k:Int) % 2=0) by rw[Pt<|by lia]];exact cc (cc rfl rfl e) rfl Pu.eq_int
  refine Kb (ac:=gI<|bC m 0 (cs.take k) ac) (ds:=a.map D.int) (ka:=p.1) (kb:=p.2) (ja:=p.1) (jb:=p.2) (d0:= .int y) (d1:= .int (if k % 2=0 then m else -m)) (d:= .int (y+if k % 2=0 then m else -m)) rfl rfl rfl ?_ ?_ ?_ ?_ L rfl rfl ?_
  .rw[OC,o.1];exact j8 (by lia) (by lia)
  .rw[OI,b];rfl
  .rw[OC,t];exact j8 (by lia) (by lia)
  .rw[OI,C];rfl
  have u:(gI<|bC m 0 (cs.take k) ac).set p.1 ((a.map D.int).set p.2<|.int (y+if k % 2=0 then m else -m))=gI (bC m 0 (cs.take<|k+1) ac):=by
   rw[BP v,u6,Qi,B];show _=gI (ci _ _ _ _);rw[xh b C];show _=Qt _ _;rw[SH,SH]
  rw[u];exact aY ⟨rfl,_,_,_,rfl⟩
 .rintro s f ⟨rfl,g,j,n,rfl⟩
  rw[jd,OC,Rx];exact H g j n
theorem sV{r c:Nat}{ac:LI}{m:Int}{cs:a0b}(b:r<=1000)(s:d4 r c ac)(g:∀p∈cs,p.1<r/\p.2<c):(jW K a).1 [ao ac,.tup [.int m,.lst<|cs.map bc]] β=on (.ok<|ao<|bC m 0 cs ac,β):=by
 unfold jW
 dsimp only
 refine aK ?_;refine qm (d:= .tup [.int m,.lst<|cs.map bc]) (β1:=β) rfl rfl ?_;have e:=nM (nv:=1) (b0:=[]) (it:=cQ<|af 0) (tg:=fy 0) (f:=HQ zK<|ae (af 0)<|az) (δ:=[on<|ao ac,on<|.tup [.int m,.lst<|cs.map bc],on<|.int m,on<|.lst<|cs.map bc,OD,OD,OD,OD]) (β:=β) (gI ac) D.lst (λx=>x) rfl (λx _=>⟨_,rfl,rfl⟩) (bp<|by rw[OC,s.1];exact b);rw[List.map_id']at e;refine yN (ac:=gI ac) (β1:=β) e (Lm _) ?_;exact BA s g trivial λh i j=>am<|aO rfl ⟨rfl,rfl⟩
theorem kd{r c i j:Nat}{G:LI}{v:Int}(s:d4 r c G)(f:i<r)(k:j<c)(p q:Nat):gp (ci G i j v) p q=gp G p q+(if p=i/\q=j then v else 0):=by
 obtain⟨a,b,g⟩:=s.at f;obtain⟨x,h⟩:=mz (l:=a) (i:=j) (by lia);rw[xh b h];unfold gp;simp only[OJ,QH];by_cases e:i=p
 .subst e
  rw[OS rfl,OS (by rw[s.1];exact f),b];simp only[UA,QH];by_cases d:j=q
  .subst d
   rw[OS rfl,OS (by lia),OS ⟨trivial,rfl⟩,h];rfl
  .rw[OR d,OR (λz=>d z.2.symm),Rt]
 .rw[OR e,OR (λz=>e z.1.symm),Rt]
theorem rH{n j:Nat}{v:Int}(h:j<n):S n (λq=>if q=j then v else 0)=v:=by
 unfold S
 induction n with
 |zero=>lia
 |succ n a=>
  rw[Q9,Pw,TM,Vs,X9];by_cases e:j=n
  .subst e
   rw[OS rfl,Pk (g:=λ_=>(0:Int)) (λq b=>OR (by have:=O9.mp b;lia)),jP];lia
  .rw[a (by lia),OR (by lia),Rt]
theorem sS{n:Nat}{f:a0D}(h:∀i,i<n->f i=0):S n f=0:=by
 unfold S;rw[Pk (g:=λ_=>(0:Int)) (λq b=>h q<|O9.mp b),jP]
theorem xN{r c i j:Nat}{G:LI}{v:Int}(a:d4 r c G)(d:i<r)(b:j<c)(p:Nat):S c (gp (ci G i j v) p)=S c (gp G p)+(if p=i then v else 0):=by
 have:S c (gp (ci G i j v) p)=S c λq=>gp G p q+(if p=i/\q=j then v else 0):=bN λq _=>kd a d b p q;rw[this,iW];congr 1;by_cases e:p=i
 .rw[OS e]
  exact(bN λq _=>by simp[e]).trans<|rH (v:=v) b
 .rw[OR e]
  exact sS λq _=>OR λz=>e z.1
theorem yB{r c i j:Nat}{G:LI}{v:Int}(a:d4 r c G)(b:i<r)(d:j<c)(q:Nat):S r (λp=>gp (ci G i j v) p q)=S r (λp=>gp G p q)+(if q=j then v else 0):=by
 have:S r (λp=>gp (ci G i j v) p q)=S r λp=>gp G p q+(if p=i/\q=j then v else 0):=bN λp _=>kd a b d p q;rw[this,iW];congr 1;by_cases e:q=j
 .rw[OS e]
  exact(bN λp _=>by simp[e]).trans<|rH (v:=v) b
 .rw[OR e]
  exact sS λp _=>OR λz=>e z.2
def dr(x:Int):Int:=if x<0 then -x else x
def iu(r c:Nat)(G:LI):Int:=S r λp=>S c λq=>dr<|gp G p q
theorem yK{r c i j:Nat}{G:LI}{v:Int}(s:d4 r c G)(d:i<r)(e:j<c):iu r c (ci G i j v)=iu r c G+(dr (gp G i j+v)-dr (gp G i j)):=by
 have f:∀p q,dr (gp (ci G i j v) p q)=dr (gp G p q)+(if p=i then(if q=j then dr (gp G i j+v)-dr (gp G i j)else 0)else 0):=λp q=>by
  rw[kd s d e];by_cases a:p=i
  .by_cases b:q=j
   .rw[OS ⟨a,b⟩,OS a,OS b,a,b];lia
   .rw[OR (λz=>b z.2),OS a,OR b,Rt,Rt]
  .rw[OR (λz=>a z.1),OR a,Rt,Rt]
 unfold iu;have g:∀p,S c (λq=>dr<|gp (ci G i j v) p q)=S c (λq=>dr<|gp G p q)+(if p=i then dr (gp G i j+v)-dr (gp G i j)else 0):=λp=>by
  rw[bN λq _=>f p q,iW];congr 1;by_cases a:p=i
  .rw[OS a]
   exact(bN λq _=>by rw[OS a]).trans<|rH (v:=dr (gp G i j+v)-dr (gp G i j)) e
  .rw[OR a]
   exact sS λq _=>OR a
 rw[bN λp _=>g p,iW,rH d]
def nx:a0b->Nat->Nat
 |[],e=>e
 |p::_,_=>p.1
def ef:a0b->Nat->a0b
 |[],_=>[]
 |p::T,e=>p::(nx T e,p.2)::ef T e
theorem vY(T:a0b)(p q e:Nat):nx (T++[(p,q)]) e=nx T p:=by cases T<;>rfl
theorem xu:∀(T:a0b) (p q e:Nat),ef (T++[(p,q)]) e=ef T p++[(p,q),(e,q)]
 |[],p,q,e=>rfl
 |x::T,p,q,e=>by
  show x::(nx (T++[(p,q)]) e,x.2)::ef (T++[(p,q)]) e=x::(nx T p,x.2)::(ef T p++[(p,q),(e,q)]);rw[vY,xu T]
theorem uY:∀(s:Nat) (T:a0b) (e:Nat),(ef T e).drop (2*s)=ef (T.drop s) e
 |0,T,e=>rfl
 |s+1,[],e=>by rw[List.drop_nil];exact List.drop_nil
 |s+1,p::T,e=>by
  rw[List.drop_succ_cons,<-uY s T e,show 2*(s+1)=2*s+1+1 by lia];rfl
theorem u5(m:Int):∀(L:a0b) (k:Nat) (G:LI),bC m (k+2) L G=bC m k L G
 |[],k,G=>rfl
 |p::L,k,G=>by
  show bC m (k+2+1) L (ci G p.1 p.2 (if(k+2) % 2=0 then m else -m))=bC m (k+1) L (ci G p.1 p.2 (if k % 2=0 then m else -m));rw[show k+2+1=(k+1)+2 by lia,u5 m L<|k+1,show(k+2) % 2=k % 2 by lia]
theorem mK(m:Int)(p:Nat×Nat)(T:a0b)(e:Nat)(G:LI):bC (-m) 0 (ef (p::T) e) G=bC (-m) 0 (ef T e) (ci (ci G p.1 p.2<|-m) (nx T e) p.2 m):=by
 show bC (-m) (0+1+1) (ef T e) (ci (ci G p.1 p.2 (if 0 % 2=0 then -m else- -m)) (nx T e) p.2 (if(0+1) % 2=0 then -m else- -m))=_;rw[show 0+1+1=0+2 by rfl,u5,OS rfl,OR (by decide),XM]
def x3(r c:Nat):a0b->Nat->Prop
 |[],_=>True
 |p::T,e=>p.1<r/\p.2<c/\nx T e<r/\x3 r c T e
theorem pC{r c:Nat}(m:Int)(i:Nat):∀(T:a0b) (e:Nat) (G:LI),d4 r c G->x3 r c T e->S c (gp (bC (-m) 0 (ef T e) G) i)=S c (gp G i)-(if i=nx T e then m else 0)+(if i=e then m else 0)
 |[],e,G,sh,h=>by
  show S c (gp G i)=S c (gp G i)-(if i=e then m else 0)+(if i=e then m else 0);lia
 |p::T,e,G,sh,h=>by
  obtain⟨d,b,f,g⟩:=h;rw[mK,pC m i T e _ (cz<|cz sh) g,xN (cz sh) f b,xN sh d b];show _=S c (gp G i)-(if i=p.1 then m else 0)+_;have:(if i=p.1 then -m else 0)=-(if i=p.1 then m else(0:Int)):=by split<;>lia
  rw[this];lia
theorem pE{r c:Nat}(m:Int)(j:Nat):∀(T:a0b) (e:Nat) (G:LI),d4 r c G->x3 r c T e->S r (λp=>gp (bC (-m) 0 (ef T e) G) p j)=S r (λp=>gp G p j)
 |[],e,G,sh,h=>rfl
 |p::T,e,G,sh,h=>by
  obtain⟨d,b,f,g⟩:=h;rw[mK,pE m j T e _ (cz<|cz sh) g,yB (cz sh) f b,yB sh d b];split<;>lia
def oD(m:Int)(g:a0u):a0b->Nat->Prop
 |[],_=>True
 |p::T,e=>m<=g p.1 p.2/\g (nx T e) p.2<=-m/\oD m g T e
theorem w6{m:Int}(w:0<m){g s:a0u}{p q n:Nat}(o:m<=g p q)(D:g n q<=-m)(d:∀i j,¬(i=p/\j=q)->¬(i=n/\j=q)->s i j=g i j):∀(T:a0b) (e:Nat),p∉T.map (·.1)->n∉T.tail.map (·.1)->e≠n->oD m g T e->oD m s T e
 |[],e,_,_,_,_=>trivial
 |x::T,e,a,b,c,h=>by
  obtain⟨f,k,r⟩:=h;rw[O0,OQ,V0]at a;have l:n∉T.map (·.1):=b;have t:s x.1 x.2=g x.1 x.2:=d _ _ (λz=>a.1 z.1.symm) λz=>by rw[z.1,z.2]at f;lia
  have u:s (nx T e) x.2=g (nx T e) x.2:=d _ _ (λz=>by rw[z.1,z.2]at k;lia) λz=>by
   cases T with
   |nil=>exact c z.1
   |cons y T=>exact l (by rw[O0,OQ];exact .inl z.1.symm)
  refine⟨by rw[t];exact f,by rw[u];exact k,w6 w o D d T e a.2 (λz=>l ?_) c r⟩;obtain⟨y,v,e⟩:=OZ.mp z;exact OZ.mpr ⟨y,XA v,e⟩
theorem u7{r c:Nat}{m:Int}(D:0<m):∀(T:a0b) (e:Nat) (G:LI),d4 r c G->x3 r c T e->(T.map (·.1)).Nodup->e∉T.tail.map (·.1)->oD m (gp G) T e->iu r c (bC (-m) 0 (ef T e) G)=iu r c G-2*m*(T.length:Int)
 |[],e,G,sh,h,_,_,_=>by
  show iu r c G=iu r c G-2*m*((0:Nat):Int);simp
 |p::T,e,G,sh,h,nd,he,hb=>by
  obtain⟨g,d,k,n⟩:=h;obtain⟨E,l,b3⟩:=hb;rw[O0,Pz]at nd;have f:e∉T.map (·.1):=he;have K:¬(nx T e=p.1/\p.2=p.2):=λz=>by rw[z.1]at l;lia
  have o:gp (ci G p.1 p.2<|-m) (nx T e) p.2=gp G (nx T e) p.2:=by rw[kd sh g d,OR K,Rt]
  have s:oD m (gp<|ci (ci G p.1 p.2<|-m) (nx T e) p.2 m) T e:=by
   refine(show T=[]\/T≠[] by cases T<;>simp).elim (λz=>by rw[z];trivial) λz=>?_
   refine w6 D E l (λi j a b=>?_) T e nd.1 (λw=>?_) (λw=>?_) b3
   .rw[kd (cz sh) k d,OR b,kd sh g d,OR a,Rt,Rt]
   .cases T with
    |nil=>exact z rfl
    |cons y T=>rw[O0,Pz]at nd;exact nd.2.1 w
   .cases T with
    |nil=>exact z rfl
    |cons y T=>exact f (by rw[O0,OQ];exact .inl w)
  rw[mK,u7 D T e _ (cz<|cz sh) n nd.2 (λz=>f (by
   obtain⟨y,q,e⟩:=OZ.mp z;exact OZ.mpr ⟨y,XA q,e⟩)) s,yK (cz sh) k d,o,yK sh g d]
  have M:dr (gp G p.1 p.2+-m)=dr (gp G p.1 p.2)-m:=by unfold dr;split<;>split<;>lia
  have P:dr (gp G (nx T e) p.2+m)=dr (gp G (nx T e) p.2)-m:=by unfold dr;split<;>split<;>lia
  rw[M,P,O4];have:2*m*((T.length+1:Nat):Int)=2*m*(T.length:Int)+2*m:=by rw[Rq,Int.mul_add];simp
  rw[this];lia
theorem yL{f:FD}{g:FL}{s:Dn}{β β1 a:Bg}{ds w:a0e}{z:D}(b:f s β=on (.ok<|.lst ds,β1))(c:g s β1=on (.ok w,a))(d:wy ds w=on z):G3 f g s β=on (.ok z,a):=by
 unfold G3;rw[M.bind_ok b];simp only;rw[M.bind_ok c];simp only[M.ofO,d]
theorem wx{a:Type}(u:a->D)(y:D)(p:a->Bool)(d:dS y=OK)(f:∀x,dS (u x)=OK)(g:∀x,L3 (u x) y=p x){xs:List a}(h:∃x∈xs,p x=OK):∃(j:Nat) (x:a),wy (xs.map u) [y]=on (.int (j:Int))/\xs[j]?=on x/\p x=OK:=by
 unfold wy;simp only;rw[OS (by rw[d,RV,Re];intro z i;obtain⟨x,_,rfl⟩:=OZ.mp i;exact f x),List.findIdx?_map];have e:((λz=>L3 z y)∘u)=p:=funext g;rw[e];cases q:xs.findIdx? p with
 |none=>
  obtain⟨x,k,b⟩:=h;rw[List.findIdx?_eq_none_iff]at q;rw[q x k]at b;cases b
 |some j=>
  obtain⟨c,l,_⟩:=Vu.mp q;exact⟨j,xs[j],rfl,OE c,l⟩
theorem E5(b:Bool):L3 (.bl b) (.bl OK)=b:=by cases b<;>rfl
theorem EV{r c i:Nat}{G:LI}(w:d4 r c G)(E:c<=1000)(k:i<r)(h:∃j,j<c/\0<gp G i j):∃j:Nat,(kP K a).1 [ao G,.int (i:Int)] β=on (.ok<|.int (j:Int),β)/\j<c/\0<gp G i j:=by
 obtain⟨s,b,f⟩:=w.at k;obtain⟨l,m,n⟩:=h;have o:(gI G)[i]?=on (s.map D.int):=by rw[OI,b];rfl
 obtain⟨j,x,e,g,p⟩:=wx (λx:Int=>D.bl<|decide (0<x)) (.bl OK) (λx=>decide (0<x)) rfl (λ_=>rfl) (λx=>E5 _) (xs:=s) ⟨s.getD l 0,OW (lO (d:=(0:Int))<|by lia),by rw[fZ b];exact O3 n⟩;have q:j<s.length:=(OM.mp g).1;refine⟨j,aK<|am<|aO (yL (bo (nv:=1) (b0:=[]) s D.int (λx=>D.bl<|decide (0<x)) (cL (cc rfl rfl<|mh o) rfl) (λx _=>⟨_,rfl,cc rfl rfl Pu.gt_int⟩)<|bp<|by lia) rfl e) ⟨rfl,rfl⟩,by lia,?_⟩;rw[<-fZ b,OJ,g];exact QG p
theorem BO{r c j:Nat}{G:LI}(w:d4 r c G)(E:r<=1000)(l:j<c)(h:∃i,i<r/\gp G i j<0):∃i:Nat,(m5 K a).1 [ao G,.int (j:Int)] β=on (.ok<|.int (i:Int),β)/\i<r/\gp G i j<0:=by
 obtain⟨q,f,m⟩:=h;obtain⟨d,b,g⟩:=w.at f;have M:(gI G).map D.lst=G.map λs=>D.lst (s.map D.int):=by rw[OU];rfl
 obtain⟨i,s,e,k,n⟩:=wx (λs:a0c=>D.bl<|decide (s.getD j 0<0)) (.bl OK) (λs=>decide (s.getD j 0<0)) rfl (λ_=>rfl) (λx=>E5 _) (xs:=G) ⟨d,OW b,by rw[fZ b];exact O3 m⟩;have o:i<G.length:=(OM.mp k).1;refine⟨i,aK<|am<|aO (yL (bo (nv:=1) (b0:=[1]) G (λs=>D.lst<|s.map D.int) (λs=>D.bl<|decide (s.getD j 0<0)) (by show on (Qj<|(gI G).map D.lst,β)=_;rw[M]) (λs p=>⟨_,rfl,cc (cc rfl rfl<|oN<|by rw[w.2 s p];exact l) rfl Pu.lt_int⟩)<|bp<|by rw[w.1];exact E) rfl e) ⟨rfl,rfl⟩,by rw[<-w.1];exact o,?_⟩;rw[<-fZ k];exact QG n
theorem xk{n:Nat}{f:a0D}:(∀i,i<n->0<=f i)->0<=S n f/\∀j,j<n->f j<=S n f:=by
 induction n with
 |zero=>intro _;exact⟨Ux _,λj b=>Pf b<|QS _⟩
 |succ n a=>
  intro h;obtain⟨d,c⟩:=a λi g=>h i (by lia);have k:=h n<|Rz n;rw[fm];refine⟨by lia,λj b=>?_⟩;by_cases e:j=n
  .subst e;lia
  .have:=c j (by lia)
   lia
theorem vm{n j:Nat}{f:a0D}(h:S n f=0)(b:j<n)(e:0<f j):∃i,i<n/\f i<0:=by
 refine Q7 λz=>?_;have c:∀i,i<n->0<=f i:=λi d=>Int.not_lt.mp λw=>z ⟨i,d,w⟩;have:=(xk c).2 j b;lia
theorem vj{n j:Nat}{f:a0D}(h:S n f=0)(b:j<n)(e:f j<0):∃i,i<n/\0<f i:=by
 obtain⟨i,c,d⟩:=vm (f:=λi=>-f i) (by rw[uT,h];rfl) b (by show 0< -f j;lia);exact⟨i,c,by have g:-f i<0:=d;lia⟩
structure Zr (r c:Nat) (G:LI):Prop where
 shp:d4 r c G
 row:∀p,p<r->S c (gp G p)=0
 col:∀q,q<c->S r (λp=>gp G p q)=0
theorem pV:∀(r:Nat) (l:a0a),l.Nodup->(∀x∈l,x<r)->l.length<=r
 |0,l,_,h=>by
  cases l with
  |nil=>exact OX _
  |cons x l=>exact Pf (h x OL)<|QS _
 |r+1,l,nd,h=>by
  have:=pV r (l.erase r) (nd.erase r) λx b=>by
   have c:=(nd.mem_erase_iff).mp b;have:=h x c.2;lia
  rw[List.length_erase]at this;split at this<;>lia
theorem yG{g:a0u}{p q e:Nat}(b:0<g p q)(c:g e q<0):∀T:a0b,oD 1 g T p->oD 1 g (T++[(p,q)]) e
 |[],_=>⟨b,by show g e q<=-1;lia,trivial⟩
 |x::T,h=>⟨h.1,by rw[show(T.append [(p,q)])=T++[(p,q)]from rfl,vY];exact h.2.1,yG b c T h.2.2⟩
theorem xO{r c p q e:Nat}(b:p<r)(d:q<c)(f:e<r):∀T:a0b,x3 r c T p->x3 r c (T++[(p,q)]) e
 |[],_=>⟨b,d,f,trivial⟩
 |x::T,h=>⟨h.1,h.2.1,by rw[show(T.append [(p,q)])=T++[(p,q)]from rfl,vY];exact h.2.2.1,xO b d f T h.2.2.2⟩
theorem w8{m:Int}{g:a0u}{e:Nat}:∀(s:Nat) (T:a0b),oD m g T e->oD m g (T.drop s) e
 |0,T,h=>h
 |s+1,[],h=>h
 |s+1,x::T,h=>w8 s T h.2.2
theorem vM{r c e:Nat}:∀(s:Nat) (T:a0b),x3 r c T e->x3 r c (T.drop s) e
 |0,T,h=>h
 |s+1,[],h=>h
 |s+1,x::T,h=>vM s T h.2.2.2
theorem pQ{r c e:Nat}:∀(T:a0b),x3 r c T e->∀x∈T.map (·.1),x<r
 |[],_,x,hx=>by cases hx
 |p::T,h,x,hx=>by
  rw[O0,OQ]at hx;rcases hx with rfl|hx
  .exact h.1
  .exact pQ T h.2.2.2 x hx
theorem gZ{r c e:Nat}:∀(T:a0b),x3 r c T e->∀p∈ef T e,p.1<r/\p.2<c
 |[],_,p,hp=>by cases hp
 |x::T,h,p,hp=>by
  rcases OQ.mp hp with rfl|hp
  .exact⟨h.1,h.2.1⟩
  .rcases OQ.mp hp with rfl|hp
   .exact⟨h.2.2.1,h.2.1⟩
   .exact gZ T h.2.2.2 p hp
theorem k7:∀(T:a0b) (e:Nat),(ef T e).length=2*T.length
 |[],e=>rfl
 |x::T,e=>by
  show(ef T e).length+1+1=2*(T.length+1);rw[k7 T e];lia
abbrev Zz(G:LI)(T:a0b)(e:Nat)(b:a0E):Ds:=[on<|.sh<|ao G,on<|.sh<|.int (e:Int),on<|.own<|(nI<|T.map (·.1)).map D.int,on<|.own<|(ef T e).map bc,b]
structure Zc (r c:Nat) (G:LI) (C:a0b) (e:Nat):Prop where
 ne:C≠[]
 nx:nx C e=e
 rng:x3 r c C e
 big:oD 1 (gp G) C e
 nd:(C.map (·.1)).Nodup
 off:e∉C.tail.map (·.1)
theorem Go(s:Nat)(h:s<=1000):zA (.int 2) (.int (s:Int))=on (.int<|2*(s:Int)):=by
 have big:∀n:Nat,n<=1000->n<2^1000:=λn a=>Qp a (Pj (show 1000<2^10 by decide)<|TH (by decide)<|by decide);have b:e8 2=OK:=O3 (big 2<|by decide);have c:e8 (s:Int)=OK:=O3 (by rw[Uh];exact big s h);show(if(e8 2&&e8 (s:Int))=OK then on (D.int<|2*(s:Int))else OD)=_;rw[b,c,RV,OS rfl]
theorem JY(i j:Int):L3 (.int i) (.int j)=decide (i=j):=by
 show(i==j)=_;rw[Se];simp
theorem wf{r c i:Nat}{G:LI}(Z:Zr r c G)(r1:r<=100)(c1:c<=100)(R:i<r)(h:∃j,j<c/\0<gp G i j):∃(C:a0b) (e:Nat),(fU K a).1 [ao G,.int (i:Int)] β=on (.ok<|.lst<|(ef C e).map bc,β)/\Zc r c G C e:=by
 have w:∃q f,(fU K a).1 [ao G,.int (i:Int)] β=on (q,f)/\(f=β/\∃(C:a0b) (e:Nat),q= .ok (.lst<|(ef C e).map bc)/\Zc r c G C e):=by
  unfold fU
  dsimp only
  refine iq (S:=λq f=>f=β/\∃(C:a0b) (e:Nat),q= .ok (.lst<|(ef C e).map bc)/\Zc r c G C e) ?_;refine kz (ds:=[]) (β1:=β) rfl (Qf _)<|kz (ds:=[]) (β1:=β) rfl (Qf _) ?_;refine rO (λn P f=>β=f/\∃(T:a0b) (e:Nat) (J:a0E),n=r+1-T.length/\x3 r c T e/\oD 1 (gp G) T e/\e<r/\(T.map (·.1)).Nodup/\(∃j,j<c/\0<gp G e j)/\P=Zz G T e J) ?_ (r+1) _ _ ⟨rfl,[],i,OD,rfl,trivial,trivial,R,U5,h,rfl⟩;rintro n P _ ⟨rfl,T,e,J,rfl,L,H,N,E,U,rfl⟩;have lT:T.length<=r:=by
   have:=pV r _ E<|pQ T L;rw[OC]at this;exact this
  have t:∀b:Bool,(!decide (e∈T.map (·.1)))=b->fB (f2 (YK OK) (af 1)<|af 2) (gs<|Zz G T e J) β=on (.ok b,β):=λb H=>et (cc (x:= .int (e:Int)) (y:=nL<|T.map (·.1)) rfl rfl<|by rw[rh,<-H];rfl);have g:∀{k:Nat},k<=1000->k<Pe:=λ{k} h=>Qp h (by decide);by_cases q:e∈T.map (·.1)
  .left
   refine⟨β,t OO (by simp[q]),?_⟩;obtain⟨s,x,X,V,Y⟩:=wx (λn:Nat=>D.int (n:Int)) (.int (e:Int)) (λn=>decide ((n:Int)=(e:Int))) rfl (λ_=>rfl) (λx=>JY _ _) (xs:=T.map (·.1)) ⟨e,q,by simp⟩;have I:x=e:=by have:=QG Y;lia
   subst I;rw[OI]at V;obtain⟨p,O,F⟩:=S9.mp V;have M:T.drop s=p::T.drop (s+1):=by
    have:=PU (l:=T) (i:=s) (OM.mp O).1;rw[this,(OM.mp O).2]
   have m:((T.drop s).map (·.1)).Nodup:=by rw[Sj];exact E.sublist<|List.drop_sublist _ _
   refine am<|aO (d:= .lst<|(ef (T.drop s) x).map bc) (β1:=β) ?_ ⟨rfl,T.drop s,x,rfl,?_⟩
   .rw[<-uY,Sj,<-qc]
    refine mJ rfl<|cc (y:= .int (s:Int)) rfl (yL (ds:=(nI<|T.map (·.1)).map D.int) rfl rfl ?_) ?_
    .rw[show(nI<|T.map (·.1)).map D.int=(T.map (·.1)).map λn:Nat=>D.int (n:Int)from OU ..]
     exact X
    .rw[Go s (by have:=(OM.mp O).1;lia),Int.natCast_mul];rfl
   .refine⟨by rw[M];simp,by rw[M];exact F,vM s T L,w8 s T H,m,?_⟩
    rw[M]at m⊢;rw[O0,Pz,F]at m;exact m.1
  .right
   refine⟨β,t OK (by simp[q]),?_⟩;refine jx (cs:=(nI<|T.map (·.1)).map D.int) (d:= .int (e:Int)) (β1:=β) rfl rfl (g<|by simp only[OC];lia) ?_;obtain⟨j,W,o,u⟩:=EV (K:=K) (a:=a) (β:=β) Z.shp (by lia) N U;refine aE (d:= .int (j:Int)) (β1:=β) (ak rfl W) ?_;refine jx (cs:=(ef T e).map bc) (d:=bc (e,j)) (β1:=β) rfl rfl (g<|by rw[OC,k7];lia) ?_;obtain⟨v,ee,B,A⟩:=BO (K:=K) (a:=a) (β:=β) Z.shp (by lia) o<|vm (Z.col j o) N u;refine aE (d:= .int (v:Int)) (β1:=β) (ak rfl ee) ?_;refine am<|jx (cs:=(ef T e).map bc++[bc (e,j)]) (d:=bc (v,j)) (β1:=β) rfl rfl (g<|by rw[O8,OC,k7,PX];lia)<|aY ⟨_,rfl,r+1-(T++[(e,j)]).length,by rw[O8,PX];lia,rfl,T++[(e,j)],v,on<|.sh<|.int (j:Int),rfl,xO N o B T L,yG u A T H,B,?_,vj (Z.row v B) o A,?_⟩
   .rw[Pw,Uq]
    refine⟨E,by simp,λx I y Q z=>?_⟩;rw[Vs,PH]at Q;rw[z,Q]at I;exact q I
   .have e1:(nI<|(T++[(e,j)]).map (·.1)).map D.int=(nI<|T.map (·.1)).map D.int++[.int (e:Int)]:=by rw[Pw,nI,Pw,Pw];rfl
    have e2:(ef (T++[(e,j)]) v).map bc=((ef T e).map bc++[bc (e,j)])++[bc (v,j)]:=by rw[xu,Pw,Ql];rfl
    simp only[Zz,e1,e2];rfl
 obtain⟨q,f,e,rfl,C,v,rfl,h⟩:=w;exact⟨C,v,e,h⟩
theorem sZ:∀a:a0c,toPs (a.map D.int)=on (a.map Vg)
 |[]=>rfl
 |x::a=>by
  rw[O0];unfold toPs;rw[sZ a];rfl
theorem BN(a:a0c):lg (iL a)=on (.list<|a.map Vg):=by
 unfold lg;rw[sZ];rfl
theorem wO:∀a s:a0c,Qx (a.map .int) (s.map .int)=decide (a=s)
 |[],[]=>by simp[Qx]
 |[],y::s=>by simp[Qx]
 |x::a,[]=>by simp[Qx]
 |x::a,y::s=>by
  rw[Se];simp[Qx,Rb,wO a s]
theorem zj(n:Nat)(a:a0c):R_ (n+1) (iL a):=λz b=>by
 obtain⟨i,_,rfl⟩:=OZ.mp b;cases n<;>trivial
abbrev iP(a s:a0c):D:= .tup [iL a,iL s]
theorem BM(a s:a0c):lg (iP a s)=on (.tuple [.list<|a.map Vg,.list<|s.map Vg]):=by
 unfold lg toPs;rw[BN];unfold toPs;rw[BN];rfl
theorem ME{a s b c:a0c}:dI (iP a s) (iP b c)=on (.bl<|decide (a=b)&&decide (s=c)):=by
 have w:∀a s:a0c,R_ 2 (iP a s):=λa s z hz=>by
  rcases OQ.mp hz with rfl|hz
  .exact zj 0 a
  .rcases OQ.mp hz with rfl|hz
   .exact zj 0 s
   .cases hz
 have d:=gT 2 (w a s) (by decide);have e:=gT 2 (w b c) (by decide);unfold gF at d e;rw[BM]at d e;show(gU (iP a s)<|iP b c).map D.bl=_;unfold gU;simp only[BM,d,e,Ts,P8,QI];simp[Rb,Qx,wO]
theorem Jw{a:a0c}(h:a≠[]):qV [iL a]=on (.int<|h8 a):=by
 show uI (cS<|a.map D.int)=_;rw[mo];cases a with
 |nil=>exact Pf rfl h
 |cons x a=>rfl
theorem Jx{a:a0c}(h:a≠[]):uJ [iL a]=on (.int<|im a):=by
 unfold uJ;simp only[mo];cases a with
 |nil=>exact Pf rfl h
 |cons x a=>rfl
theorem tj{r c:Nat}{s:LI}(w:d4 r c s)(D:1<=r)(E:r<=30)(G:c<=30):(m6 K a).1 [ao s] β=on (.ok<|iP (s.map P0)<|(tp c s).map P0,β):=
 aK (am<|aO (ai (aa (qt (by rw[w.1];lia) rfl)<|aa (qt (by rw[(gX (d:=(0:Int)) (c:=c) w.1).1];lia)<|ak rfl<|qI w D E G) rfl) rfl) ⟨rfl,rfl⟩)
def d8(A B:LI):LI:=(A.zip B).map λp=>(p.1.zip p.2).map λz=>z.2-z.1
theorem JP{r c:Nat}{A B:LI}(b:d4 r c A)(h:d4 r c B)(E:r<=1000)(G:c<=1000):(iC K a).1 [ao A,ao B] β=on (.ok<|ao<|d8 A B,β):=by
 have w:∀A:LI,(gI A).map D.lst=A.map λs=>D.lst (s.map D.int):=λA=>by rw[OU];rfl
 unfold iC
 dsimp only
 refine aK<|am<|aO (d:=ao<|d8 A B) (β1:=β) ?_ ⟨rfl,rfl⟩;have e:=bo (nv:=2) (b0:=[]) (it:=pX<|ae (af 0)<|ae (af 1)<|az) (tg:=v_<|dn (fy 0)<|dn (fy 1) iB) (f:=cB 2 [] (pX<|ae (af 0)<|ae (af 1)<|az) (v_<|dn (fy 0)<|dn (fy 1) iB) (λ_=>M.ret OK)<|js<|f2 vh (af 1)<|af 0) (δ:=[on<|ao A,on<|ao B]) (β:=β) (A.zip B) (λp=>D.tup [.lst<|p.1.map D.int,.lst<|p.2.map D.int]) (λp=>D.lst<|(p.1.zip p.2).map λz=>D.int<|z.2-z.1)
  (ql (u:=λs:a0c=>D.lst<|s.map D.int) (v:=λs:a0c=>D.lst<|s.map D.int) (by show on (Qj<|D.lst<|(gI A).map D.lst,β)=_;rw[w]) (by show on (Qj<|D.lst<|(gI B).map D.lst,β)=_;rw[w]))
  (λp g=>⟨[on<|.lst<|p.1.map D.int,on<|.lst<|p.2.map D.int],rfl,bo (nv:=2) (b0:=[]) (p.1.zip p.2) (λz=>D.tup [.int z.1,.int z.2]) (λz=>D.int<|z.2-z.1) (ql (u:=D.int) (v:=D.int) rfl rfl) (λz _=>⟨_,rfl,rfl⟩)<|bp (by
   have:=b.2 p.1 (TL g).1;rw[RK];lia)⟩) (bp<|by rw[RK,b.1];lia)
 refine e.trans ?_;show _=on (Qj<|D.lst<|(gI<|d8 A B).map D.lst,β);rw[w];unfold d8;rw[OU];congr 4;refine Pk λp _=>?_;show D.lst _=D.lst _;rw[OU];rfl
theorem GY{r c:Nat}{A B:LI}(b:d4 r c A)(d:d4 r c B):d4 r c (d8 A B):=by
 refine⟨by unfold d8;rw[OC,RK,b.1,d.1,UU],λa e=>?_⟩;obtain⟨p,f,rfl⟩:=OZ.mp e;obtain⟨g,h⟩:=TL f;rw[OC,RK,b.2 _ g,d.2 _ h,UU]
theorem oS{r c i j:Nat}{A B:LI}(m:d4 r c A)(n:d4 r c B)(e:i<r)(o:j<c):gp (d8 A B) i j=gp B i j-gp A i j:=by
 obtain⟨b,f,p⟩:=m.at e;obtain⟨d,g,q⟩:=n.at e;obtain⟨x,h⟩:=mz (l:=b) (i:=j) (by lia);obtain⟨y,k⟩:=mz (l:=d) (i:=j) (by lia);rw[gE f h,gE g k];refine gE (row:=(b.zip d).map λz=>z.2-z.1) ?_ ?_
 .unfold d8
  rw[OI,RH (z:=(b,d))|>.mpr ⟨f,g⟩];rfl
 .rw[OI,RH (z:=(x,y))|>.mpr ⟨h,k⟩];rfl
theorem MV{n:Nat}{f:a0D}{k:Int}(h:∀i,i<n->f i<=k):S n f<=n*k:=by
 induction n with
 |zero=>simp[S]
 |succ n a=>
  have:=a λi b=>h i (by lia);have:=h n<|Rz n;rw[fm,Rq,Int.add_mul];simp only[Int.natCast_one,Int.one_mul];lia
theorem Ka(x:Int):0<=dr x:=by unfold dr;split<;>lia
theorem J9{r c:Nat}{G:LI}:0<=iu r c G:=(xk λp _=>(xk λq _=>Ka _).1).1
theorem xM{r c:Nat}{E:LI}(t:D2 r c E):(ie K a).1 [ao E] β=on (.ok .non,β):=by
 have S:=t.r0;have V:=t.r1;have W:=t.c0;have q:=t.c1;have i:=t.shp.1;unfold ie
 dsimp only
 refine aK ?_;have G:(gI E).map D.lst=E.map λs=>D.lst (s.map D.int):=by rw[OU];rfl
 refine bP (β1:=β) (c8 (c:=OK)<|(et<|n6 rfl (ai rfl<|ny (r:=E.length)<|by rw[OC]) rfl).trans ?_)<|aU ?_
 .rw[show(decide ((1:Int)<=(E.length:Int))&&decide ((E.length:Int)<=4))=OK by simp only[Pr,PR];lia]
 obtain⟨b,w,rfl⟩:∃x P,E=x::P:=by
  cases E with
  |nil=>simp at i;lia
  |cons x P=>exact⟨x,P,rfl⟩
 have j:=t.shp.2 b OL;have g:∀s∈b::w,s.length=b.length:=λs h=>(t.shp.2 s h).trans j.symm;refine aE (d:= .int (b.length:Int)) (β1:=β) (ai (aa (x:= .lst<|b.map D.int) (cc rfl rfl ix0) rfl)<|bG<|by rw[OC]) ?_;refine bP (β1:=β) (c8 (c:=OK)<|(et<|n6 rfl rfl rfl).trans ?_)<|aU ?_
 .rw[show(decide ((1:Int)<=(b.length:Int))&&decide ((b.length:Int)<=6))=OK by simp only[Pr,PR];lia]
 have k:cB 1 [1] (cQ<|af 0) (fy 0) (λ_=>M.ret OK) (js<|f2 (gh) (aV eJ<|ae (af 0)<|az)<|af 1) [on<|ao<|b::w,on<|.int (b.length:Int)] β=on (.ok<|.lst<|(b::w).map λs=>D.bl<|!decide ((s.length:Int)=(b.length:Int)),β):=
  bo (nv:=1) (b0:=[1]) (b::w) (λs=>D.lst<|s.map D.int) _ (by show on (Qj<|(gI<|b::w).map D.lst,β)=_;rw[G]) (λs _=>⟨_,rfl,cc (ai rfl<|bG (r:=s.length)<|by rw[OC]) rfl Pu.ne_int⟩) (bp<|by lia)
 refine bP (β1:=β) (c7 (ai (aa k rfl)<|any_map _ _) (by
  show on ((b::w).any λs=>!decide ((s.length:Int)=(b.length:Int)))=on OO;rw[Td.mpr λs h=>by simp[g s h]]))<|aU ?_
 have m:cB 2 [] (cQ<|af 0) (fy 0) (λ_=>M.ret OK) (YO (cQ<|af 0) (fy 1) (λ_=>M.ret OK)<|js<|f2 (S_) (af 1)<|fC<|.int 0) [on<|ao<|b::w,on<|.int (b.length:Int)] β=on (.ok<|.lst<|(b::w).flatMap λs=>s.map λx=>D.bl<|decide (x<0),β):=by
  refine yA (nv:=2) (b0:=[]) (b::w) (λs=>D.lst<|s.map D.int) _ (by show on (Qj<|(gI<|b::w).map D.lst,β)=_;rw[G]) (λs _=>⟨_,rfl,vX s D.int _ rfl (λx _=>⟨_,rfl,rfl⟩)⟩)<|bp ?_;have:=EY (f:=λs:a0c=>s.map λx=>D.bl<|decide (x<0)) (n:=30) (l:=b::w) λx e=>by rw[OC,g x e];lia
  lia
 refine bP (β1:=β) (c7 (ai (aa m rfl)<|MN _ _ _) (by
  show on ((b::w).any λs=>s.any λx=>decide (x<0))=on OO;rw[Td.mpr λs h=>by
   rw[Bool.not_eq_true,Td];intro x e;have:=t.nn s h x e;simp;lia]))<|aU<|am ?_
 have o:cB 1 [] (cQ<|af 0) (fy 0) (λ_=>M.ret OK) (js<|aV h9<|ae (af 0)<|az) [on<|ao<|b::w,on<|.int (b.length:Int)] β=on (.ok<|.lst<|(b::w).map λs=>D.int s.sum,β):=
  bo (nv:=1) (b0:=[]) (b::w) (λs=>D.lst<|s.map D.int) _ (by show on (Qj<|(gI<|b::w).map D.lst,β)=_;rw[G]) (λs _=>⟨_,rfl,ai rfl<|eB s⟩) (bp<|by lia)
 have p:h9 [.lst<|(b::w).map λs=>D.int s.sum]=on (.int<|tot<|b::w):=by
  have:=eB<|(b::w).map P0;rw[OU]at this;exact this
 have u:=t.tot;refine bP (β1:=β) (et (c:=OO)<|cc (ai (aa o rfl) p) rfl<|Pu.gt_int.trans<|by rw[Pt<|by lia])<|aU<|aY ⟨rfl,rfl⟩
theorem yF{m:Int}{g:a0u}{e:Nat}:∀T:a0b,oD 1 g T e->(∀p∈ef T e,m<=dr (g p.1 p.2))->oD m g T e
 |[],_,_=>trivial
 |x::T,h,hm=>by
  have c:=hm x OL;have d:=hm (nx T e,x.2)<|OF _ OL;have a:dr (g x.1 x.2)=g x.1 x.2:=by unfold dr;rw[OR (by have:=h.1;lia)]
  have s:dr (g (nx T e) x.2)=-g (nx T e) x.2:=by unfold dr;rw[OS (by have:=h.2.1;lia)]
  rw[a]at c;have b:m<=dr (g (nx T e) x.2):=d;rw[s]at b;exact⟨c,by lia,yF T h.2.2 λp f=>hm p<|OF _<|OF _ f⟩
theorem yE{g:a0u}{e:Nat}:∀T:a0b,oD 1 g T e->∀p∈ef T e,0<dr (g p.1 p.2)
 |[],_,p,hp=>by cases hp
 |x::T,h,p,hp=>by
  rcases OQ.mp hp with rfl|hp
  .unfold dr;have:=h.1;split<;>lia
  .rcases OQ.mp hp with rfl|hp
   .show 0<dr (g (nx T e) x.2)
    unfold dr;have:=h.2.1;split<;>lia
   .exact yE T h.2.2 p hp
theorem Fz{r c e:Nat}{m:Int}{G:LI}{C:a0b}(Z:Zr r c G)(W:Zc r c G C e)(a:0<m)(b:oD m (gp G) C e):Zr r c (bC (-m) 0 (ef C e) G)/\iu r c (bC (-m) 0 (ef C e) G)<iu r c G:=by
 refine⟨⟨iz _ _ _ _ Z.shp,λp d=>?_,λq f=>?_⟩,?_⟩
 .rw[pC m p C e G Z.shp W.rng,W.nx,Z.row p d];lia
 .rw[pE m q C e G Z.shp W.rng,Z.col q f]
 .rw[u7 a C e G Z.shp W.rng W.nd W.off b]
  have:1<=C.length:=by
   cases C with
   |nil=>exact Pf rfl W.ne
   |cons x C=>simp
  have:0<2*m*(C.length:Int):=Int.mul_pos (by lia) (by lia);lia
abbrev Zx(A B G:LI)(b:a0e)(a:D)(c d:a0E):Ds:=[on<|.sh<|ao A,on<|.sh<|ao B,on<|.own b,on<|.sh<|ao G,on<|.sh a,c,d]
theorem zU{r c i j:Nat}{G:LI}(s:d4 r c G)(e:i<r)(f:j<c):∃a:a0e,gt (ao G) (.int (i:Int))=on (.lst a)/\gt (.lst a) (.int (j:Int))=on (.int<|gp G i j):=by
 obtain⟨a,b,d⟩:=s.at e;refine⟨a.map D.int,mh (by rw[OI,b];rfl),?_⟩;rw[<-fZ b];exact oN (by lia)
def dl:Nat->a0b->Nat->Nat->Int
 |_,[],_,_=>0
 |k,p::L,i,j=>(if i=p.1/\j=p.2 then(if k % 2=0 then 1 else -1)else 0)+dl (k+1) L i j
theorem n9{r c:Nat}(m:Int)(i j:Nat):∀(L:a0b) (k:Nat) (G:LI),d4 r c G->(∀p∈L,p.1<r/\p.2<c)->gp (bC m k L G) i j=gp G i j+m*dl k L i j
 |[],k,G,sh,h=>by show gp G i j=gp G i j+m*0;lia
 |p::L,k,G,sh,h=>by
  obtain⟨b,d⟩:=h p OL;show gp (bC m (k+1) L<|ci G p.1 p.2 (if k % 2=0 then m else -m)) i j=_;rw[n9 m i j L (k+1) _ (cz sh) λx e=>h x<|OF _ e,kd sh b d];show _=gp G i j+m*((if i=p.1/\j=p.2 then(if k % 2=0 then 1 else -1)else 0)+dl (k+1) L i j);rw[Int.mul_add];by_cases q:i=p.1/\j=p.2
  .rw[OS q,OS q]
   split<;>lia
  .rw[OR q,OR q]
   lia
def Sg(m:Int)(g:a0u):Nat->a0b->Prop
 |_,[]=>True
 |k,p::L=>(if k % 2=0 then m<=g p.1 p.2 else g p.1 p.2<=-m)/\Sg m g (k+1) L
theorem Sg.at{m:Int}{g:a0u}:∀{L:a0b} {k n:Nat} {p:Nat×Nat},Sg m g k L->L[n]?=on p->if(k+n) % 2=0 then m<=g p.1 p.2 else g p.1 p.2<=-m
 |[],_,_,_,_,e=>by simp at e
 |x::L,k,0,p,h,e=>by
  simp at e;subst e;exact h.1
 |x::L,k,n+1,p,h,e=>by
  have:=Sg.at (n:=n) h.2 (by simpa using e);rwa[show k+1+n=k+(n+1) by lia]at this
theorem wR:∀{L:a0b} {k i j:Nat},(i,j)∉L->dl k L i j=0
 |[],_,_,_,_=>rfl
 |p::L,k,i,j,h=>by
  rw[OQ,V0]at h;show(if i=p.1/\j=p.2 then _ else(0:Int))+_=0;rw[OR λq=>h.1<|R3 q.1 q.2,wR h.2];rfl
theorem Wi{m:Int}{g:a0u}:∀{L:a0b} {k i j:Nat},Sg m g k L->L.Nodup->(i,j)∈L->(m<=g i j/\dl k L i j=1)\/(g i j<=-m/\dl k L i j=-1)
 |p::L,k,i,j,h,nd,hm=>by
  obtain⟨c,d⟩:=Pz.mp nd;show(_/\(if i=p.1/\j=p.2 then(if k % 2=0 then(1:Int)else -1)else 0)+dl (k+1) L i j=1)\/(_/\(if i=p.1/\j=p.2 then(if k % 2=0 then(1:Int)else -1)else 0)+dl (k+1) L i j=-1);rcases OQ.mp hm with e|hm
  .subst e
   have b:=h.1;rw[wR c,OS ⟨rfl,rfl⟩];by_cases q:k % 2=0
   .rw[OS q]at b⊢
    exact .inl ⟨b,rfl⟩
   .rw[OR q]at b⊢
    exact .inr ⟨b,rfl⟩
  .have ne:¬(i=p.1/\j=p.2):=λq=>c (by rw[show p=(i,j)from R3 q.1.symm q.2.symm];exact hm)
   rw[OR ne,Ru];exact Wi h.2 d hm
theorem Fj{m:Int}{g:a0u}{e:Nat}:∀(T:a0b) (k:Nat),k % 2=0->oD m g T e->Sg m g k (ef T e)
 |[],_,_,_=>trivial
 |p::T,k,hk,h=>by
  refine⟨?_,?_,Fj T (k+1+1) (by lia) h.2.2⟩
  .rw[OS hk];exact h.1
  .rw[OR<|by lia];exact h.2.1
theorem nj{g:a0u}{e:Nat}{x:Nat×Nat}:∀(T:a0b),oD 1 g T e->x∈ef T e->(x∈T/\1<=g x.1 x.2)\/(x.1∈T.tail.map (·.1)++[e]/\g x.1 x.2<=-1)
 |p::T,h,hx=>by
  rcases OQ.mp hx with rfl|hx
  .exact .inl ⟨OL,h.1⟩
  rcases OQ.mp hx with rfl|hx
  .refine .inr ⟨?_,h.2.1⟩
   cases T with
   |nil=>exact OL
   |cons y T=>exact OL
  .rcases nj T h.2.2 hx with q|q
   .exact .inl ⟨OF _ q.1,q.2⟩
   .refine .inr ⟨?_,q.2⟩
    cases T with
    |nil=>exact q.1
    |cons y T=>exact OF _ q.1
theorem AV{g:a0u}{e:Nat}:∀(T:a0b),oD 1 g T e->(T.map (·.1)).Nodup->e∉T.tail.map (·.1)->(ef T e).Nodup
 |[],_,_,_=>U5
 |p::T,h,nd,off=>by
  obtain⟨i,f⟩:=Pz.mp nd;have b:e∉T.map (·.1):=off;have c:e∉T.tail.map (·.1):=λq=>b (by
   cases T with
   |nil=>exact q
   |cons y T=>exact OF _ q)
  refine Pz.mpr ⟨λq=>?_,Pz.mpr ⟨λq=>?_,AV T h.2.2 f c⟩⟩
  .rcases OQ.mp q with q|q
   .have d:=h.1
    have j:g (nx T e) p.2<=-1:=h.2.1;rw[q]at d;have d:1<=g (nx T e) p.2:=d;lia
   .rcases nj T h.2.2 q with q|q
    .exact i (XO q.1)
    .have:=h.1;lia
  .rcases nj T h.2.2 q with z|z
   .have k:g (nx T e) p.2<=-1:=h.2.1
    have l:1<=g (nx T e) p.2:=z.2;lia
   .cases T with
    |nil=>cases q
    |cons y T=>
     obtain⟨a,s⟩:=Pz.mp f;rcases P4.mp z.1 with z|z
     .exact a z
     .have:y.1=e:=PH.mp z
      exact b (by rw[<-this];exact OL)
theorem xv:∀(T:a0b) (e k:Nat) (p q:Nat×Nat),(ef T e)[k]?=on p->(ef T e)[k+1]?=on q->if k % 2=0 then p.2=q.2 else p.1=q.1
 |a::T,e,0,p,q,h1,h2=>by
  have c:a=p:=by simpa[ef]using h1
  have d:(nx T e,a.2)=q:=by simpa[ef]using h2
  subst c;subst d;rfl
 |[a],e,1,p,q,h1,h2=>by simp[ef]at h2
 |a::b::T,e,1,p,q,h1,h2=>by
  have c:(b.1,a.2)=p:=by simpa[ef,nx]using h1
  have d:b=q:=by simpa[ef]using h2
  subst c;subst d;rfl
 |a::T,e,k+2,p,q,h1,h2=>by
  have:=xv T e k p q (by simpa[ef]using h1) (by simpa[ef]using h2);rwa[show(k+2) % 2=k % 2 by lia]
theorem uX:∀(T:a0b) (e k:Nat) (p:Nat×Nat),k+1=2*T.length->(ef T e)[k]?=on p->p.1=e
 |[a],e,k,p,hk,h=>by
  obtain rfl:k=1:=by simp at hk;lia
  have c:(e,a.2)=p:=by simpa[ef,nx]using h
  rw[<-c]
 |a::b::T,e,k,p,hk,h=>by
  obtain⟨k,rfl⟩:∃n,k=n+2:=⟨k-2,by simp at hk;lia⟩;exact uX (b::T) e k p (by simp at hk⊢;lia) (by simpa[ef]using h)
abbrev q_(A B:LI)(i j:Nat):Int:=gp B i j-gp A i j
structure Lp (r c:Nat) (A B:LI) (m:Int) (L:a0b):Prop where
 m0:0<m
 rng:∀p∈L,p.1<r/\p.2<c
 nd:L.Nodup
 sg:Sg m (q_ A B) 0 L
 n4:4<=L.length
 nl:L.length<=2*r
 ev:L.length % 2=0
 adj:∀(k:Nat) (p q:Nat×Nat),L[k]?=on p->L[(k+1) % L.length]?=on q->(if k % 2=0 then p.2=q.2 else p.1=q.1)/\p≠q
 fin:∃p∈L,dr (q_ A B p.1 p.2)=m
 row:∀G:LI,d4 r c G->∀p,S c (gp (bC m 0 L G) p)=S c (gp G p)
 col:∀G:LI,d4 r c G->∀q,S r (λp=>gp (bC m 0 L G) p q)=S r λp=>gp G p q
theorem NC{r c e:Nat}{m:Int}{A B G:LI}{C:a0b}(W:Zc r c G C e)(K:0<m)(o:oD m (gp G) C e)(n:∀i j,i<r->j<c->gp G i j=q_ A B i j)(y:C.length<=r)(t:∃p∈ef C e,dr (gp G p.1 p.2)=m):Lp r c A B m (ef C e):=by
 have g:=gZ C W.rng;have E:=AV C W.big W.nd W.off;have F:=k7 C e;have H:2<=C.length:=by
  match C,W.ne,W.nx,W.big with
  |[x],_,b,d=>
   exfalso
   have b:x.1=e:=b;have M:=d.1;have S:gp G e x.2<=-1:=d.2.1;rw[b]at M;lia
  |_::_::_,_,_,_=>simp
 refine⟨K,g,E,?_,by lia,by lia,by lia,λk p q b d=>⟨?_,λz=>?_⟩,?_,λG a p=>?_,λG a q=>?_⟩
 .have s:=Fj C 0 rfl o
  have D:∀(L:a0b) (k:Nat),(∀p∈L,p.1<r/\p.2<c)->Sg m (gp G) k L->Sg m (q_ A B) k L:=by
   intro L
   induction L with
   |nil=>intros;trivial
   |cons x L P=>
    intro k h s;have:=n x.1 x.2 (h x OL).1 (h x OL).2;exact⟨by rw[<-this];exact s.1,P _ (λp f=>h p<|OF _ f) s.2⟩
  exact D _ _ g s
 .have I:=(OM.mp b).1
  by_cases w:k+1=(ef C e).length
  .rw[w,Nat.mod_self]at d
   have l:=uX C e k p (by lia) b;rw[OR (by lia),l]
   match C,W.ne,W.nx with
   |x::C,_,h3=>
    have:x=q:=by simpa[ef]using d
    rw[<-this];exact h3.symm
  .rw[Nat.mod_eq_of_lt<|by lia]at d
   exact xv C e k p q b d
 .subst z
  obtain⟨J,u⟩:=OM.mp b;obtain⟨N,v⟩:=OM.mp d;have:=(List.getElem_inj E).mp<|u.trans v.symm;by_cases w:k+1=(ef C e).length
  .rw[w,Nat.mod_self]at this;lia
  .rw[Nat.mod_eq_of_lt<|by lia]at this;lia
 .obtain⟨p,f,l⟩:=t
  exact⟨p,f,by rw[<-n p.1 p.2 (g p f).1 (g p f).2];exact l⟩
 .have:=pC (-m) p C e G a W.rng
  rw[XM,W.nx]at this;rw[this];lia
 .have:=pE (-m) q C e G a W.rng
  rwa[XM]at this
theorem Lp.cell{r c:Nat}{A B:LI}{m:Int}{L:a0b}(h:Lp r c A B m L)(a:d4 r c A)(i j:Nat):
  ((i,j)∉L/\gp (bC m 0 L A) i j=gp A i j)\/((i,j)∈L/\((m<=q_ A B i j/\gp (bC m 0 L A) i j=gp A i j+m)\/(q_ A B i j<=-m/\gp (bC m 0 L A) i j=gp A i j-m))):=by
 rw[n9 m i j L 0 A a h.rng];by_cases q:(i,j)∈L
 .rcases Wi h.sg h.nd q with⟨w,e⟩|⟨w,e⟩
  .exact .inr ⟨q,.inl ⟨w,by rw[e];lia⟩⟩
  .exact .inr ⟨q,.inr ⟨w,by rw[e];lia⟩⟩
 .exact .inl ⟨q,by rw[wR q];lia⟩
def Y5(A B:LI)(c i:Nat):Nat:=(OV c).countP λj=>decide (gp A i j≠gp B i j)
def YU(r c:Nat)(A B:LI):Nat:=((OV r).map<|Y5 A B c).sum
theorem BV{a:Type}{f g:a->Nat}:∀{l:List a},(∀x∈l,f x<=g x)->(l.map f).sum<=(l.map g).sum
 |[],_=>OX _
 |x::l,h=>by
  have:=h x OL;have:=BV (l:=l) λy b=>h y<|OF _ b;simp only[O0,Pi];lia
theorem BU{s:Type}{f g:s->Nat}{i:s}:∀{l:List s},(∀x∈l,f x<=g x)->i∈l->f i<g i->(l.map f).sum<(l.map g).sum
 |x::l,h,hi,hl=>by
  have a:=h x OL;have b:∀y∈l,f y<=g y:=λy c=>h y<|OF _ c;simp only[O0,Pi];rcases OQ.mp hi with rfl|hi
  .have:=BV b;lia
  .have:=BU b hi hl;lia
theorem Lp.less{r c:Nat}{A B:LI}{m:Int}{L:a0b}(h:Lp r c A B m L)(D:d4 r c A):YU r c (bC m 0 L A) B<YU r c A B:=by
 have E:=h.m0;have a:∀i j,decide (gp (bC m 0 L A) i j≠gp B i j)=OK->decide (gp A i j≠gp B i j)=OK:=λi j q=>by
  have q:=QG q;refine O3 λz=>?_;rcases h.cell D i j with⟨_,e⟩|⟨_,⟨w,_⟩|⟨w,_⟩⟩
  .exact q (e.trans z)
  .have:q_ A B i j=0:=by show gp B i j-gp A i j=0;lia
   lia
  .have:q_ A B i j=0:=by show gp B i j-gp A i j=0;lia
   lia
 obtain⟨p,d,f⟩:=h.fin;obtain⟨g,k⟩:=h.rng p d;have s:gp (bC m 0 L A) p.1 p.2=gp B p.1 p.2/\gp A p.1 p.2≠gp B p.1 p.2:=by
  have b:(if q_ A B p.1 p.2<0 then -q_ A B p.1 p.2 else q_ A B p.1 p.2)=m:=f;rcases h.cell D p.1 p.2 with⟨n,_⟩|⟨_,⟨w,e⟩|⟨w,e⟩⟩
  .exact Pf d n
  .rw[OR<|by lia]at b
   have l:gp B p.1 p.2-gp A p.1 p.2=m:=b;lia
  .rw[OS<|by lia]at b
   have l:-(gp B p.1 p.2-gp A p.1 p.2)=m:=b;lia
 refine BU (i:=p.1) (λi _=>W6 λj _=>a i j) (O9.mpr g)<|Hs.count_lt (λj _=>a p.1 j) (O9.mpr k) (Pt λz=>z s.1)<|O3 s.2
def gf:a0F->LI->LI
 |[],A=>A
 |x::T,A=>gf T<|bC x.1 0 x.2 A
def rb(r c:Nat)(B:LI):a0F->LI->Prop
 |[],_=>True
 |x::T,A=>Lp r c A B x.1 x.2/\rb r c B T (bC x.1 0 x.2 A)
theorem tP(x:Int×a0b):∀(T:a0F) (A:LI),gf (T++[x]) A=bC x.1 0 x.2 (gf T A)
 |[],A=>rfl
 |y::T,A=>tP x T _
theorem rb.snoc{r c:Nat}{B:LI}{x:Int×a0b}:∀{T:a0F} {A:LI},rb r c B T A->Lp r c (gf T A) B x.1 x.2->rb r c B (T++[x]) A
 |[],A,_,h=>⟨h,trivial⟩
 |y::T,A,o,h=>⟨o.1,rb.snoc (T:=T) o.2 h⟩
theorem rb.len{r c:Nat}{B:LI}:∀{T:a0F} {A:LI},d4 r c A->rb r c B T A->T.length<=YU r c A B
 |[],A,_,_=>Qf _
 |x::T,A,sh,o=>by
  have:=rb.len (iz _ _ _ _ sh) o.2;have:=o.1.less sh;rw[O4];lia
abbrev cg(x:Int×a0b):D:= .tup [.int x.1,.lst<|x.2.map bc]
def FG(r c:Nat)(G:LI)(a:D):Prop:=(a= .non/\∀i j,i<r->j<c->gp G i j<=0)\/∃i:Nat,i<r/\a= .int (i:Int)/\∃j,j<c/\0<gp G i j
theorem wH{r c:Nat}{G:LI}(M:d4 r c G)(W:1<=c):∃d:D,(di K a).1 [ao G] β=on (.ok d,β)/\FG r c G d:=by
 have E:∃q f,(di K a).1 [ao G] β=on (q,f)/\(f=β/\∃d:D,q= .ok d/\FG r c G d):=by
  unfold di
  dsimp only
  refine iq (S:=λq f=>f=β/\∃d:D,q= .ok d/\FG r c G d) ?_;refine bH (ds:=cm 0<|(gI G).map D.lst) (β1:=β) rfl (λk P f=>β=f/\(∀i j,i<k->j<c->gp G i j<=0)/\∃n o,P=[on<|.sh<|ao G,n,o]) ⟨rfl,λ_ _ z=>Pf z<|QS _,OD,OD,rfl⟩ ?_ ?_
  .rintro k d P _ hd ⟨rfl,le,n,o,rfl⟩
   obtain⟨x,l,rfl⟩:=iI hd;rw[OI,OI]at l;cases b:G[k]? with
   |none=>rw[b]at l;cases l
   |some s=>
    rw[b]at l;cases l;have g:=M.2 s<|OW b;have t:k<r:=by rw[<-M.1];exact(OM.mp b).1
    have V:s≠[]:=λz=>by rw[z]at g;simp at g;lia
    refine⟨[on<|.sh<|ao G,on<|.sh<|.int (k:Int),on<|.sh<|iL s],rfl,am<|jM (c:=decide (0<im s)) (β1:=β) (et<|cc (ai rfl<|Jx V) rfl Pu.gt_int) ?_⟩;by_cases q:0<im s
    .rw[OS<|O3 q]
     obtain⟨j,m,e⟩:=mem_getD<|t7 V;exact aO (d:= .int (k:Int)) (β1:=β) rfl ⟨rfl,_,rfl,.inr ⟨k,t,rfl,j,by lia,by rw[<-fZ b,e];exact q⟩⟩
    .rw[OR<|by simpa using q]
     refine aU<|aY ⟨rfl,λi j p m=>?_,_,_,rfl⟩;by_cases w:i<k
     .exact le i j w m
     .obtain rfl:i=k:=by lia
      rw[<-fZ b,OJ,OE (show j<s.length by lia)];exact VI (wA<|PF _) (by lia)
  .rintro P _ ⟨rfl,le,n,o,rfl⟩
   refine am<|aO (d:= .non) (β1:=β) rfl ⟨rfl,_,rfl,.inl ⟨rfl,λi j p m=>le i j ?_ m⟩⟩;simp only[jd,OC,M.1];exact p
 obtain⟨q,f,e,rfl,d,rfl,h⟩:=E;exact⟨d,e,h⟩
theorem JA{r c:Nat}{A B:LI}{Q:a0A}(S:1<=c)(V:r<=100)(z:c<=100)(Y:d4 r c A)(hQ:∀T,rb r c B T A->(∀i j,i<r->j<c->gp (gf T A) i j=gp B i j)->Q (.rt<|.lst<|T.map cg) β):∀(n:Nat) (G:LI) (T:a0F) (s:D) (F g:a0E),Zr r c G->T.length+n<=10000->iu r c G<=n->rb r c B T A->(∀i j,i<r->j<c->gp G i j=q_ (gf T A) B i j)->FG r c G s->
  Gw (aW (YM (fB<|f2 (zt) (af 4)<|fC .non) (aW (eY 5<|bK (fU K a).1<|ae (af 3)<|ae (af 4)<|az)
  (aW (eY 6<|aV qV<|ae (cB 2 [3] (cQ<|af 5) (v_<|dn (fy 0)<|dn (fy 1) iB) (λ_=>M.ret OK)<|js<|aV xi<|ae (f2 gt (f2 gt (af 2)<|af 0)<|af 1)<|az)<|az)
  (aW (sI 2<|ae (aV gC<|ae (af 6)<|ae (af 5)<|az)<|az)
  (aW (eY 3<|bK (jW K a).1<|ae (af 3)<|ae (aV gC<|ae (f1 zu<|af 6)<|ae (af 5)<|az)<|az)
  (eY 4<|bK (di K a).1<|ae (af 3)<|az))))))
  (kg<|af 2)) (Zx A B G (T.map cg) s F g) β Q:=by
 intro n G T s F g Z J w I H b;refine rO (λn δ L=>β=L/\∃(G:LI) (T:a0F) (s:D) (F g:a0E),Zr r c G/\T.length+n<=10000/\iu r c G<=n/\rb r c B T A/\(∀i j,i<r->j<c->gp G i j=q_ (gf T A) B i j)/\FG r c G s/\δ=Zx A B G (T.map cg) s F g) ?_ n _ _ ⟨rfl,G,T,s,F,g,Z,J,w,I,H,b,rfl⟩
 clear Z J w b I H
 rintro n δ _ ⟨rfl,G,T,s,F,g,Z,J,w,I,H,b,rfl⟩;rcases b with⟨rfl,P⟩|⟨i,k,rfl,u⟩
 .refine .inl ⟨β,et<|cc (x:= .non) rfl rfl rfl,am<|aO (d:= .lst<|T.map cg) (β1:=β) rfl<|hQ T I λi j k u=>?_⟩
  have e0:gp G i j=0:=by
   by_cases q:gp G i j<0
   .obtain⟨j',N,l⟩:=vj (Z.row i k) u q
    have:=P i j' k N;lia
   .have:=P i j k u
    lia
  have:gp G i j=gp B i j-gp (gf T A) i j:=H i j k u;lia
 .refine .inr ⟨β,et<|cc (x:= .int (i:Int)) rfl rfl rfl,?_⟩
  obtain⟨C,e,ec,W⟩:=wf (K:=K) (a:=a) (β:=β) Z V z k u;refine aE (d:= .lst<|(ef C e).map bc) (β1:=β) (ak rfl ec) ?_;have E:(ef C e).map (λp=>dr<|gp G p.1 p.2)≠[]:=by
   cases C with
   |nil=>exact Pf rfl W.ne
   |cons x C=>simp[ef]
  have lC:C.length<=r:=by
   have:=pV r _ W.nd<|pQ C W.rng;rw[OC]at this;exact this
  have v:cB 2 [3] (cQ<|af 5) (v_<|dn (fy 0)<|dn (fy 1) iB) (λ_=>M.ret OK) (js<|aV xi<|ae (f2 gt (f2 gt (af 2)<|af 0)<|af 1)<|az) (vw<|Zx A B G (T.map cg) (.int (i:Int)) (on<|.sh<|.lst<|(ef C e).map bc) g) β=on (.ok<|iL<|(ef C e).map λp=>dr<|gp G p.1 p.2,β):=by
   have:=bo (nv:=2) (b0:=[3]) (it:=cQ<|af 5) (tg:=v_<|dn (fy 0)<|dn (fy 1) iB) (f:=aV xi<|ae (f2 gt (f2 gt (af 2)<|af 0)<|af 1)<|az) (δ:=vw<|Zx A B G (T.map cg) (.int (i:Int)) (on<|.sh<|.lst<|(ef C e).map bc) g) (β:=β) (ef C e) bc (λp=>D.int<|dr<|gp G p.1 p.2) rfl (λp l=>by
    obtain⟨h1,h2⟩:=gZ C W.rng p l;obtain⟨ab,x1,x2⟩:=zU Z.shp h1 h2;exact⟨[on<|.int (p.1:Int),on<|.int (p.2:Int),on<|ao G],rfl,ai (aa (cc (cc rfl rfl x1) rfl x2) rfl) rfl⟩) (bp<|by rw[k7];lia)
   refine this.trans ?_;show _=on (Qj<|D.lst<|((ef C e).map λp=>dr<|gp G p.1 p.2).map D.int,β);rw[OU];rfl
  refine aE (d:= .int<|h8<|(ef C e).map λp=>dr<|gp G p.1 p.2) (β1:=β) (ai (aa v rfl)<|Jw E) ?_;have o:∀p∈ef C e,h8 ((ef C e).map λp=>dr<|gp G p.1 p.2)<=dr (gp G p.1 p.2):=λp l=>yd<|OZ.mpr ⟨p,l,rfl⟩;have y:0<h8 ((ef C e).map λp=>dr<|gp G p.1 p.2):=by
   obtain⟨p,l,O⟩:=OZ.mp<|md E;rw[<-O];exact yE C W.big p l
  have t:∃p∈ef C e,dr (gp G p.1 p.2)=h8 ((ef C e).map λp=>dr<|gp G p.1 p.2):=by
   obtain⟨p,l,O⟩:=OZ.mp<|md E;exact⟨p,l,O⟩
  generalize h8 ((ef C e).map λp=>dr<|gp G p.1 p.2)=m at o y t;have U:=yF C W.big o;have lp:Lp r c (gf T A) B m (ef C e):=NC W y U H lC t;refine jx (cs:=T.map cg) (d:= .tup [.int m,.lst<|(ef C e).map bc]) (β1:=β) rfl rfl (Qp (show(T.map cg).length<=10000 by rw[OC];lia)<|by decide) ?_;obtain⟨X,lt⟩:=Fz Z W y U;refine aE (d:=ao<|bC (-m) 0 (ef C e) G) (β1:=β) (ak (aa rfl<|aa (ai (aa (ZO rfl rfl) rfl) rfl) rfl)<|sV (by lia) Z.shp<|gZ C W.rng) ?_;obtain⟨d,ed,hd⟩:=wH (K:=K) (a:=a) (β:=β) X.shp S;have R:∀(T:a0F) {A:LI},d4 r c A->d4 r c (gf T A):=λT=>by
   induction T with
   |nil=>exact λh=>h
   |cons x T ih=>exact λh=>ih<|iz _ _ _ _ h
  have nn:=J9 (r:=r) (c:=c) (G:=bC (-m) 0 (ef C e) G);refine am<|aE (d:=d) (β1:=β) (ak rfl ed)<|aY ⟨_,rfl,n-1,by lia,rfl,_,T++[(m,ef C e)],d,_,_,X,by rw[O8,PX];lia,by lia,I.snoc lp,λi j k u=>?_,hd,by rw[Pw];rfl⟩;rw[tP];show _=gp B i j-gp (bC m 0 (ef C e)<|gf T A) i j;rw[n9 (-m) i j _ 0 G Z.shp<|gZ C W.rng,n9 m i j _ 0 _ (R T Y)<|gZ C W.rng,H i j k u,Int.neg_mul];show gp B i j-gp (gf T A) i j+_=_;lia
theorem Gz{r c:Nat}{A B:LI}(b:D2 r c A)(tB:D2 r c B)(h:A.map P0=B.map P0/\(tp c A).map P0=(tp c B).map P0):∃T,(ox K a).1 [ao A,ao B] β=on (.ok<|.lst<|T.map cg,β)/\rb r c B T A/\∀i j,i<r->j<c->gp (gf T A) i j=gp B i j:=by
 have w:∃q g,(ox K a).1 [ao A,ao B] β=on (q,g)/\(g=β/\∃T,q= .ok (.lst<|T.map cg)/\rb r c B T A/\∀i j,i<r->j<c->gp (gf T A) i j=gp B i j):=by
  unfold ox
  dsimp only
  refine iq (S:=λq g=>g=β/\∃T,q= .ok (.lst<|T.map cg)/\rb r c B T A/\∀i j,i<r->j<c->gp (gf T A) i j=gp B i j) ?_;have E:=b.r0;have G:=b.r1;have M:=b.c0;have P:=b.c1;have V:=tB.r0;have X:=tB.r1;have b3:=tB.c0;have Y:=tB.c1;have L:=tj (K:=K) (a:=a) (β:=β) b.shp (by lia) (by lia) (by lia);have N:=tj (K:=K) (a:=a) (β:=β) tB.shp (by lia) (by lia) (by lia);refine jN (ak (aa rfl rfl)<|xM b)<|jN (ak (aa rfl rfl)<|xM tB) ?_;refine bP (β1:=β) (et (c:=OO)<|cc (ak rfl L) (ak rfl N)<|(pW ME).trans ?_)<|aU ?_
  .rw[h.1,h.2];simp
  refine kz (ds:=[]) (β1:=β) rfl (Qf _) ?_;refine aE (d:=ao<|d8 A B) (β1:=β) (ak rfl<|JP b.shp tB.shp (by lia)<|by lia) ?_;have I:=GY b.shp tB.shp;have Z:Zr r c (d8 A B):=by
   refine⟨I,λp m=>?_,λq v=>?_⟩
   .have C:S c (gp (d8 A B) p)=S c λj=>gp B p j+-gp A p j:=bN λj F=>by rw[oS b.shp tB.shp m F];lia
    rw[C,iW,uT,nY b.shp m,nY tB.shp m,h.1];lia
   .have C:S r (λp=>gp (d8 A B) p q)=S r λp=>gp B p q+-gp A p q:=bN λp m=>by rw[oS b.shp tB.shp m v];lia
    rw[C,iW,uT,nZ b.shp v,nZ tB.shp v,h.2];lia
  obtain⟨d,O,D⟩:=wH (K:=K) (a:=a) (β:=β) I b3;refine aE (d:=d) (β1:=β) (ak rfl O) ?_;have y:∀{A:LI},D2 r c A->∀p q,p<r->q<c->0<=gp A p q/\gp A p q<=40:=λ{A} t p q m v=>by
   obtain⟨s,u,J⟩:=t.shp.at m;obtain⟨x,H⟩:=mz (l:=s) (i:=q) (by lia);rw[gE u H];exact⟨t.nn s (OW u) x<|OW H,VI (EE t.nn s (OW u) x<|OW H) t.tot⟩
  have Q:iu r c (d8 A B)<=960:=by
   have R:∀p,p<r->S c (λq=>dr<|gp (d8 A B) p q)<=240:=λp m=>by
    have:=MV (n:=c) (f:=λq=>dr<|gp (d8 A B) p q) (k:=40) λq v=>by
     have W:=y b p q m v;have z:=y tB p q m v;rw[oS b.shp tB.shp m v];unfold dr;split<;>lia
    lia
   have:=MV R;unfold iu;lia
  exact JA (r:=r) (c:=c) b3 (by lia) (by lia) b.shp (λT o e=>⟨rfl,T,rfl,o,e⟩) 960 (d8 A B) [] d OD OD Z (by decide) (by lia) trivial (λi j U F=>oS b.shp tB.shp U F) D
 obtain⟨q,g,e,rfl,T,rfl,h⟩:=w;exact⟨T,e,h⟩
theorem uh{ac:a0r}(h:ac.length<=1000):(f8 K a).1 [lG ac] β=on (.ok<|lG ac,β):=
 aK (am<|aO (bo ac D.lst D.lst rfl (λx _=>⟨_,rfl,rfl⟩)<|bp h) ⟨rfl,rfl⟩)
theorem EA{r c:Nat}(d:r<=1000)(e:c<=1000):nu K a [.int (r:Int),.int (c:Int)] β=on (.ok<|gP<|oV r c,β):=by
 have b:∀x:Nat,i9 1 [] (cJ fS<|ae (af 1)<|az) (fy 0) (λ_=>M.ret OK) (js<|aV gC<|ae (fC<|.int 0)<|ae (fC<|.int 40)<|az) [on<|.int<|0+(x:Int),on<|.int (c:Int)] β=on (.ok<|(Pg c ((0:Int),(40:Int))).map pD,β):=λx=>by
  have h:=E7 (nv:=1) (b0:=[]) (it:=cJ fS<|ae (af 1)<|az) (tg:=fy 0) (f:=aV gC<|ae (fC<|.int 0)<|ae (fC<|.int 40)<|az) (δ:=[on<|.int<|0+(x:Int),on<|.int (c:Int)]) (β:=β) (OV c) (λi=>D.int<|0+(i:Int)) (λ_=>pD (0,40))
   (bQ rfl<|up (by lia)<|by lia) (λx _=>⟨_,rfl,ai rfl hZ⟩) (bp<|by rw[Ps];lia)
  rw[kR]at h;rw[R9];exact h
 have h:=nM (nv:=1) (b0:=[1]) (it:=cJ fS<|ae (af 0)<|az) (tg:=fy 0) (f:=i9 1 [] (cJ fS<|ae (af 1)<|az) (fy 0) (λ_=>M.ret OK)<|js<|aV gC<|ae (fC<|.int 0)<|ae (fC<|.int 40)<|az) (δ:=[on<|.int (r:Int),on<|.int (c:Int)]) (β:=β) (OV r) (λi=>D.int<|0+(i:Int)) (λ_=>(Pg c ((0:Int),(40:Int))).map pD)
  (bQ rfl<|up (by lia)<|by lia) (λx _=>⟨_,rfl,b x⟩) (bp<|by rw[Ps];lia)
 rw[kR]at h;refine J4<|am<|IA h ⟨rfl,?_⟩;show gP (oV r c)=_;show Qt _ _=_;rw[R9]
abbrev Y2(ac:LI)(b:LP)(c d e f g:a0E):Ds:=[on<|.sh .bag,on<|.sh<|ao ac,on<|.grd<|gP b,c,d,e,f,g]
def BdI(r c:Nat)(ac:LI)(d e:a0E)(a:Ds)(β:Bg):Prop:=β.ok/\∃(b:LP) (f g h:a0E),a=Y2 ac b d e f g h/\sB r c b/\Kp ac b
theorem zL{r c:Nat}{ac:LI}(t:D2 r c ac)(ok:β.ok):∃(b:LP) (f:Bg),(jC K a).1 [.bag,ao ac] β=on (.ok<|dE b,f)/\sB r c b/\Kp ac b/\f.ok:=by
 suffices h:∃g f,(jC K a).1 [.bag,ao ac] β=on (g,f)/\(∃(b:LP),g= .ok (dE b)/\sB r c b/\Kp ac b/\f.ok) by
  obtain⟨g,f,e,b,rfl,P,S⟩:=h;exact⟨b,f,e,P,S⟩
 have r1:=t.r1;have c1:=t.c1;have c0:=t.c0;have r0:=t.r0;obtain⟨F,H,I⟩:=t.shp.at (i:=0) (by lia);have V:(gI ac)[0]?=on (F.map D.int):=by rw[OI,H];rfl
 unfold jC
 dsimp only
 refine iq ?_;refine yN (β1:=β) (Iy (as:=[.int (r:Int),.int (c:Int)]) (β1:=β) (aa (ai rfl<|ny<|by rw[OC,t.shp.1])<|aa (ai (aa (x:= .lst<|F.map D.int) (cc rfl rfl<|mh V) rfl)<|bG<|by rw[OC,I]) rfl)<|EA (by lia)<|by lia) (Ll _) ?_;obtain⟨W,β1,p1,a0,a1,R⟩:=bM ok (lot:=3) (by decide) (by decide);refine jM (c:=decide (W=0)) (β1:=β1) (et<|cc (ak rfl p1) rfl Pu.eq_int) ?_;by_cases hw:W=0
 .rw[OS<|by simpa using hw]
  exact aO rfl ⟨_,rfl,sB.free r c,Kp.free t,R⟩
 rw[OR<|by simpa using hw];refine aU ?_;refine bH (ds:=cm 0<|(gI ac).map D.lst) (β1:=β1) rfl (λ_ E β=>∃z s4,BdI r c ac z s4 E β) ⟨OD,OD,R,oV r c,OD,OD,OD,rfl,sB.free r c,Kp.free t⟩ ?_ ?_
 .rintro i d E β2 hd ⟨z,s4,J,b,Y,Z,T,rfl,o,B⟩
  obtain⟨x,hx,rfl⟩:=iI hd;obtain⟨y,hy,rfl⟩:=bE hx;obtain⟨s,m,rfl⟩:=bE hy;have hi:i<r:=by rw[<-t.shp.1];exact(OM.mp m).1
  have U:s.length=c:=t.shp.2 s<|OW m;refine⟨Y2 ac b (on<|.sh<|.int i) (on<|.sh<|.lst<|s.map D.int) Y Z T,rfl,am ?_⟩;refine bH (ds:=cm 0<|s.map D.int) (β1:=β2) rfl (λ_=>BdI r c ac (on<|.sh<|.int i)<|on<|.sh<|.lst<|s.map D.int) ⟨J,b,Y,Z,T,rfl,o,B⟩ ?_ (λE β h=>aY ⟨_,_,h⟩);rintro j d E ag hd ⟨ab,b,Y,Z,T,rfl,o,B⟩;obtain⟨x,hx,rfl⟩:=iI hd;obtain⟨n,hn,rfl⟩:=bE hx;have hj:j<c:=by rw[<-U];exact(OM.mp hn).1
  have ae:=t.le40 s (OW m) n<|OW hn;obtain⟨q,l,L⟩:=o.shp.at hi;refine⟨Y2 ac b (on<|.sh<|.int i) (on<|.sh<|.lst<|s.map D.int) (on<|.sh<|.int j) (on<|.sh<|.int n) T,rfl,?_⟩;obtain⟨w,A,p4,W,w1,N⟩:=bM ab (lot:=4) (by decide) (by decide);refine aE (d:= .int w) (β1:=A) (ak rfl p4) ?_
  have M:∀(p:Int×Int) (E:Ds),oa p->p.1<=n->n<=p.2->∀{β5:Bg} {fv:FD} {h:G} {Q:a0A},fv (gs<|Y2 ac b (on<|.sh<|.int i) (on<|.sh<|.lst<|s.map D.int) (on<|.sh<|.int j) (on<|.sh<|.int n)<|on<|.sh<|.int w) A=on (.ok<|pD p,β5)->
    (∀b,sB r c b->Kp ac b->Gw h (Y2 ac b (on<|.sh<|.int i) (on<|.sh<|.lst<|s.map D.int) (on<|.sh<|.int j) (on<|.sh<|.int n)<|on<|.sh<|.int w) β5 Q)->
    Gw (aW (oU 2 (af 3) (af 5) fv) h) (Y2 ac b (on<|.sh<|.int i) (on<|.sh<|.lst<|s.map D.int) (on<|.sh<|.int j) (on<|.sh<|.int n)<|on<|.sh<|.int w) A Q:=λp E hp P S β5 fv h Q e k=>by
   refine Hv (d:=pD p) (ac:=gP b) (ds:=q.map pD) (ka:=i) (kb:=j) (ja:=i) (jb:=j) e rfl rfl rfl ?_ ?_ ?_ rfl ?_
   .rw[OC,o.shp.1];exact j8 (by lia) (by lia)
   .rw[OI,l];rfl
   .rw[OC,L];exact j8 (by lia) (by lia)
   .have X:(gP b).set i ((q.map pD).set j<|pD p)=gP (b.set i<|q.set j p):=by
     show _=Qt _ _;rw[SH,SH]
    rw[X];exact k _ (o.set l hp)<|B.set l (nW m hn) P S
  refine jM (c:=decide (w=0)) (β1:=A) (et<|cc rfl rfl Pu.eq_int) ?_;by_cases q0:w=0
  .rw[OS<|by simpa using q0]
   obtain⟨u,β5,p5,u0,u1,ad⟩:=bM N (lot:=n+1) (by lia) (by lia);obtain⟨v,C,p6,v0,v1,O⟩:=bM ad (lot:=3) (by decide) (by decide);refine M (n-u,SL 40<|n+v) [] ⟨by show 0<=n-u;lia,by show n-u<=SL 40 (n+v);lia,by show SL 40 (n+v)<=40;lia⟩ (by show n-u<=n;lia) (by show n<=SL 40 (n+v);lia) (β5:=C) ?_ λb o B=>?_
   .exact ai (aa (cc rfl (ak (aa rfl<|aa (cc rfl rfl rfl) rfl) p5) rfl)<|aa (ai (aa rfl<|aa (cc rfl (ak rfl p6) rfl) rfl) Gr) rfl) hZ
   .refine am (bP (β1:=C) ?_<|aU<|aY ⟨O,b,_,_,_,rfl,o,B⟩)
    rw[show(OO:Bool)=decide (w=1) by rw[q0];rfl];exact et<|cc rfl rfl Pu.eq_int
  .rw[OR<|by simpa using q0]
   refine aU<|am<|jM (c:=decide (w=1)) (β1:=A) (et<|cc rfl rfl Pu.eq_int) ?_;by_cases q1:w=1
   .rw[OS<|by simpa using q1]
    obtain⟨v,C,p6,v0,v1,O⟩:=bM N (lot:=3) (by decide) (by decide);refine M (0,Vi n v) [] ⟨by show(0:Int)<=0;lia,by show 0<=Vi n v;lia,by show Vi n v<=40;lia⟩ (by show 0<=n;lia) (by show n<=Vi n v;lia) (β5:=C) ?_ λb o B=>aY ⟨O,b,_,_,_,rfl,o,B⟩;exact ai (aa rfl<|aa (ai (aa rfl<|aa (ak rfl p6) rfl) Lx) rfl) hZ
   .rw[OR<|by simpa using q1]
    exact aU<|aY ⟨N,b,_,_,_,rfl,o,B⟩
 .rintro E β2 ⟨z,s4,J,b,Y,Z,T,rfl,o,B⟩
  exact am<|aO rfl ⟨b,rfl,o,B,J⟩
end
end Law
namespace L2.Nt
open L2.Pu
def LtF{w:Type}(R:w->w->Prop)(u v:List w):Prop:=∃I s t:List w,∃x y:w,u=I++x::s/\v=I++y::t/\R x y
theorem LtF.hd{w:Type}{R:w->w->Prop}{x y:w}{u v:List w}(h:R x y):LtF R (x::u) (y::v):=⟨[],u,v,x,y,rfl,rfl,h⟩
end L2.Nt
namespace Law
open L2 L2.Pu L2.Nt
section
variable{n:Nat}{s:a0n}
abbrev csC(s:a0n):a0a:=s.map P0
abbrev Iv(n:Nat)(s:a0n):LI:=tp n<|s.map nI
theorem HR(v:a0a)(j:Nat):(nI v).getD j 0=((v.getD j 0:Nat):Int):=by
 rw[OJ,OJ,OI];cases v[j]?<;>rfl
theorem vK(b:∀v∈s,v.length=n):(Iv n s).map P0=nI (sG n s):=by
 have e:sG n s=(OV n).map λj=>(sG n s).getD j 0:=QE (by rw[ou b,OC,Ps]) λi c d=>by
  rw[R1,R8,fF c]
 rw[e];unfold Iv tp ry;show Qt _ (Qt _ _)=Qt _ (Qt _ _);rw[OU,OU];refine Pk λj a=>?_;have a:=O9.mp a;show((s.map nI).map λw=>w.getD j 0).sum=(((sG n s).getD j 0:Nat):Int);rw[CO b a,<-gv,OU];show _=(Qt _<|Qt _ _).sum;rw[OU];exact Qr P0<|Pk λv _=>HR v j
theorem Z2(a:∀v∈s,v.length=n):d4 s.length n (s.map nI):=⟨OC _,λw b=>by
 obtain⟨v,c,rfl⟩:=OZ.mp b;rw[OC];exact a v c⟩
theorem KD(a:∀v∈s,v.length=n):tp s.length (Iv n s)=s.map nI:=Hz<|Z2 a
theorem IW:d4 n s.length (Iv n s):=gX<|OC _
theorem HS(s:a0n):(s.map nI).map P0=nI (csC s):=by
 show _=Qt _ (Qt _ _);rw[OU,OU];exact Pk λv _=>gv v
theorem CN{i:Nat}(a:i<n):(Iv n s)[i]?=on (nI<|s.map λv=>v.getD i 0):=by
 rw[Kl a];congr 1;show _=Qt _ (Qt _ _);rw[OU,OU];exact Pk λv _=>HR v i
variable{K:Pa}{a:Ad}{β:Bg}
structure O2 (ac:LI) (c:Nat) (rs:a0a):Prop where
 shp:d4 rs.length c ac
 nn:∀row∈ac,∀x∈row,0<=x
 sm:ac.map P0=nI rs
 c1:1<=c
 c6:c<=6
 nr:B4 rs
 wd:pr (rs.dropLast.map (·+1))<63
theorem qq:∀{xs:a0c},(∀x∈xs,0<=x)->∃l:a0a,xs=nI l
 |[],_=>⟨[],rfl⟩
 |x::xs,h=>by
  obtain⟨l,e⟩:=qq λy b=>h y<|OF _ b;have:=h x OL;exact⟨x.toNat::l,by rw[e];show _=((x.toNat:Nat):Int)::_;rw[Int.toNat_of_nonneg this]⟩
theorem few2:∀x<41,∀y<41-x,(x+1)*((y+1)*1)<=500/\(x+1)*1<63:=by decide
theorem few3:∀x<12,∀y<12-x,∀z<12-x-y,(x+1)*((y+1)*((z+1)*1))<=500/\(x+1)*((y+1)*1)<63:=by decide
theorem few4:∀x<9,∀y<9-x,∀z<9-x-y,∀w<9-x-y-z,(x+1)*((y+1)*((z+1)*((w+1)*1)))<=500/\(x+1)*((y+1)*((z+1)*1))<63:=by decide
theorem few:∀{rs:a0a},(rs.length=2/\rs.sum<=40)\/(rs.length=3/\rs.sum<=11)\/(rs.length=4/\rs.sum<=8)->B4 rs/\pr (rs.dropLast.map (·+1))<63
 |[x,y],h=>by
  have q:=few2 x (by simp at h;lia) y (by simp at h;lia);exact⟨⟨by show 1<=2;decide,by show 2<=4;decide,by simp at h⊢;lia,q.1⟩,q.2⟩
 |[x,y,z],h=>by
  have q:=few3 x (by simp at h;lia) y (by simp at h;lia) z (by simp at h;lia);exact⟨⟨by show 1<=3;decide,by show 3<=4;decide,by simp at h⊢;lia,q.1⟩,q.2⟩
 |[x,y,z,w],h=>by
  have q:=few4 x (by simp at h;lia) y (by simp at h;lia) z (by simp at h;lia) w (by simp at h;lia);exact⟨⟨by show 1<=4;decide,by show 4<=4;decide,by simp at h⊢;lia,q.1⟩,q.2⟩
 |[],h=>by simp at h
 |[_],h=>by simp at h
 |_::_::_::_::_::_,h=>by simp at h
abbrev gdS(r c t:Nat)(ac:LI)(b d e:a0E):Ds:=[on<|.sh .bag,on<|.sh<|.int (r:Int),on<|.sh<|.int (c:Int),on<|.sh<|.int (t:Int),on<|.grd<|gI ac,b,d,e]
theorem sF{r c t:Nat}(E:β.ok)(W:1<=r)(X:r<=4)(G:1<=c)(M:c<=6)(C:(r=2/\t<=40)\/(r=3/\t<=11)\/(r=4/\t<=8)):∃(ac:LI) (rs:a0a) (j:Bg),gR K a [.bag,.int (r:Int),.int (c:Int),.int (t:Int)] β=on (.ok<|ao ac,j)/\O2 ac c rs/\j.ok:=by
 suffices h:∃g j,gR K a [.bag,.int (r:Int),.int (c:Int),.int (t:Int)] β=on (g,j)/\(∃(ac:LI) (rs:a0a),g= .ok (ao ac)/\O2 ac c rs/\j.ok) by
  obtain⟨g,j,e,ac,rs,rfl,H,I⟩:=h;exact⟨ac,rs,j,e,H,I⟩
 refine iq ?_;unfold qb;refine yN (ac:=(OV r).map λ_=>Pg c<|D.int 0) (β1:=β) (nM (OV r) (λi=>D.int<|0+(i:Int)) _ (bQ (ds:=bu 0 r) rfl<|up (by lia)<|by lia) (λx _=>⟨_,rfl,Ny (x:= .int 0) (c:=c) rfl rfl<|by lia⟩)<|bp<|by rw[Ps];lia) ?_ ?_
 .rw[Re]
  intro x k;obtain⟨_,_,rfl⟩:=OZ.mp k;rw[<-R9 (f:=D.int)];exact np _
 have J:(OV r).map (λ_=>Pg c<|D.int 0)=gI (Pg r<|Pg c 0):=by
  show _=Qt _ _;rw[R9,List.map_const',R9,Ps]
 rw[J];refine bH (ds:=bu 0 t) (β1:=β) (bQ rfl<|up (by lia)<|by lia) (λi w β=>β.ok/\∃ac p q y,w=gdS r c t ac p q y/\d4 r c ac/\(∀row∈ac,∀x∈row,0<=x)/\tot ac=(i:Int)) ⟨E,Pg r<|Pg c 0,OD,OD,OD,rfl,⟨by simp,λrow h=>?_⟩,λrow h x k=>?_,?_⟩ ?_ ?_
 .rw[(Rf.mp h).2];simp
 .rw[(Rf.mp h).2]at k
  rw[(Rf.mp k).2];exact Ux _
 .unfold tot
  rw[R9];have z:∀n:Nat,(Pg n (0:Int)).sum=0:=λn=>by
   induction n with
   |zero=>rfl
   |succ n P=>rw[QN,Pi,P];rfl
  rw[z,z];rfl
 .rintro i d w j hd ⟨m,ac,p,q,y,rfl,sh,nn,C⟩
  obtain⟨v,β1,L,Q,R,A⟩:=bM m (lot:=(r:Int)) (by lia) (by lia);obtain⟨u,β2,N,T,U,B⟩:=bM A (lot:=(c:Int)) (by lia) (by lia);obtain⟨v,rfl⟩:∃n:Nat,v=(n:Int):=⟨v.toNat,by lia⟩;obtain⟨u,rfl⟩:∃n:Nat,u=(n:Int):=⟨u.toNat,by lia⟩;obtain⟨row,b,o⟩:=sh.at (i:=v) (by lia);obtain⟨x,k⟩:=mz (l:=row) (i:=u) (by lia);refine⟨_,rfl,aE (ak rfl L)<|aE (ak rfl N)<|am<|Hv (d:= .int<|x+1) (β1:=β2) (β2:=β2) (β3:=β2) (ac:=gI ac) (ds:=row.map D.int) (ka:=v) (kb:=u) (ja:=v) (jb:=u) (cc (cc (cc rfl rfl<|mh (row:=row.map D.int) ?_) rfl<|cf (d:= .int x) ?_) rfl rfl) rfl rfl rfl ?_ ?_ ?_ rfl<|aY ⟨B,ac.set v<|row.set u<|x+1,on<|.sh d,on<|.sh<|.int (v:Int),on<|.sh<|.int (u:Int),?_,sh.set b,Ln nn b ?_,?_⟩⟩
  .rw[OI,b];rfl
  .rw[OI,k];rfl
  .rw[OC,sh.1];exact j8 (by lia) (by lia)
  .rw[OI,b];rfl
  .rw[OC,o];exact j8 (by lia) (by lia)
  .show[_,_,_,_,on<|Sl.grd<|(gI ac).set v<|(row.map D.int).set u<|.int<|x+1,_,_,_]=_
   rw[show(gI ac).set v ((row.map D.int).set u<|.int<|x+1)=gI (ac.set v<|row.set u<|x+1) by show _=Qt _ _;rw[SH,SH]]
  .have:=nn row (OW b) x<|OW k
   lia
  .have:=IH (v:=x+1) b k
   lia
 .rintro w j ⟨m,ac,p,q,y,rfl,sh,nn,F⟩
  rw[qJ]at F;obtain⟨rs,e⟩:=qq (xs:=ac.map P0) λx k=>by
   obtain⟨row,O,rfl⟩:=OZ.mp k;exact mP<|nn row O
  have l:rs.length=r:=by rw[<-sh.1,<-OC (as:=ac) P0,e,OC]
  have s:rs.sum=t:=by
   have h:(ac.map P0).sum=(t:Int):=F;rw[e,gv]at h;lia
  obtain⟨S,V⟩:=few (rs:=rs) (by rw[l,s];exact C);exact am<|aO rfl ⟨ac,rs,rfl,⟨by rw[l];exact sh,nn,e,G,M,S,V⟩,m⟩
theorem Gy(P:β.ok):∃(s:LI) (E:a0a) (b:Bg),j4 K a [.bag] β=on (.ok<|ao s,b)/\O2 s 2 E/\b.ok:=by
 suffices h:∃g b,j4 K a [.bag] β=on (g,b)/\(∃(s:LI) (E:a0a),g= .ok (ao s)/\O2 s 2 E/\b.ok) by
  obtain⟨g,b,e,s,E,rfl,t,u⟩:=h;exact⟨s,E,b,e,t,u⟩
 refine iq ?_;unfold qa;refine kz (ds:=[]) (β1:=β) rfl (Qf _) ?_;obtain⟨c,β1,y,F,N,m⟩:=bM P (lot:=6) (by decide) (by decide);have o:∃l:a0a,gt (.lst [nL [40],nL [39,1],nL [30,10],nL [20,20],nL [24,15],nL [13,27]]) (.int c)=on (nL l)/\B4 l/\pr (l.dropLast.map (·+1))<63/\l.length<=2/\∀x∈l,x<=40:=by
  obtain rfl|rfl|rfl|rfl|rfl|rfl:c=0\/c=1\/c=2\/c=3\/c=4\/c=5:=by lia
  .exact⟨[40],rfl,⟨by decide,by decide,by decide,by decide⟩,by decide,by decide,by decide⟩
  .exact⟨[39,1],rfl,⟨by decide,by decide,by decide,by decide⟩,by decide,by decide,by decide⟩
  .exact⟨[30,10],rfl,⟨by decide,by decide,by decide,by decide⟩,by decide,by decide,by decide⟩
  .exact⟨[20,20],rfl,⟨by decide,by decide,by decide,by decide⟩,by decide,by decide,by decide⟩
  .exact⟨[24,15],rfl,⟨by decide,by decide,by decide,by decide⟩,by decide,by decide,by decide⟩
  .exact⟨[13,27],rfl,⟨by decide,by decide,by decide,by decide⟩,by decide,by decide,by decide⟩
 obtain⟨l,o,S,V,O,z⟩:=o;refine bH (ds:=(nI l).map D.int) (β1:=β1) (cL (cc (ai rfl rfl) (ak rfl y) o) rfl) (λi G β=>β.ok/\∃s p q,G=[on<|.sh .bag,on<|.own<|(gI s).map D.lst,p,q]/\s.length=i/\(∀w∈s,w.length=2/\∀x∈w,0<=x)/\s.map P0=nI (l.take i)) ⟨m,[],OD,OD,rfl,rfl,λ_ h=>(by cases h),rfl⟩ ?_ ?_
 .rintro i d G b hd ⟨f,s,p,q,rfl,j,k,hs⟩
  obtain⟨n,M,rfl⟩:=uH hd;have A:=z n<|OW M;have H:=(OM.mp M).1;obtain⟨v,L,B,I,J,r⟩:=bM f (lot:=(n:Int)+1) (by lia) (by lia);refine⟨_,rfl,aE (ak (aa rfl<|aa (cc rfl rfl rfl) rfl) B)<|am<|jx (cs:=(gI s).map D.lst) (d:= .lst [.int v,.int<|(n:Int)-v]) rfl (aa (ai (aa rfl<|aa (cc rfl rfl rfl) rfl) rfl) rfl) (Pj (show _<1000 by rw[OC,OC];lia)<|by decide)<|aY ⟨r,s++[[v,(n:Int)-v]],on<|.sh<|.int (n:Int),on<|.sh<|.int v,?_,by rw[O8,j];rfl,λw h=>?_,?_⟩⟩
  .show _=[_,on<|Sl.own<|Qt _<|Qt _<|s++_,_,_]
   rw[Pw,Pw];rfl
  .rcases P4.mp h with h|h
   .exact k w h
   .cases PH.mp h
    refine⟨rfl,λx C=>?_⟩;simp at C;lia
  .rw[Pw,hs,Ut,M]
   show _=Qt _ (_++_);rw[Pw];congr 1;simp;lia
 .rintro G b ⟨f,s,p,q,rfl,j,k,hs⟩
  rw[qU]at j;rw[qU,Rx]at hs;exact am<|aO rfl ⟨s,l,rfl,⟨⟨j,λw h=>(k w h).1⟩,λw h=>(k w h).2,hs,by decide,by decide,S,V⟩,f⟩
theorem GI(R:β.ok):∃(ac:LI) (c:Nat) (s:a0a) (b:Bg),kS K a [.bag] β=on (.ok<|ao ac,b)/\O2 ac c s/\b.ok:=by
 suffices h:∃g b,kS K a [.bag] β=on (g,b)/\(∃(ac:LI) (c:Nat) (s:a0a),g= .ok (ao ac)/\O2 ac c s/\b.ok) by
  obtain⟨g,b,e,ac,c,s,rfl,A,B⟩:=h;exact⟨ac,c,s,b,e,A,B⟩
 refine iq ?_;unfold nC;obtain⟨u,β1,C,J,T,l⟩:=bM R (lot:=6) (by decide) (by decide);refine jM (et<|cc (ak rfl C) rfl Pu.eq_int) ?_;by_cases q:u=0
 .obtain⟨ac,s,w,e,g,f⟩:=Gy (K:=K) (a:=a) l
  rw[OS<|O3 q];exact aO (ak rfl e) ⟨ac,2,s,rfl,g,f⟩
 rw[OR<|by simp[q]];refine aU ?_;obtain⟨y,w,F,L,U,f⟩:=bM l (lot:=5) (by decide) (by decide);refine aE (ak rfl F) ?_;refine jM (β1:=w) (et<|cc rfl rfl Pu.eq_int) ?_;by_cases M:y=0
 .rw[OS<|O3 M]
  obtain⟨c,E,m,P,S,i⟩:=bM f (lot:=5) (by decide) (by decide);obtain⟨t,o,p,V,x,j⟩:=bM i (lot:=25) (by decide) (by decide);obtain⟨c,rfl⟩:∃n:Nat,c=(n:Int):=⟨c.toNat,by lia⟩;obtain⟨t,rfl⟩:∃n:Nat,t=(n:Int):=⟨t.toNat,by lia⟩;obtain⟨ac,s,G,e,g,k⟩:=sF (K:=K) (a:=a) (r:=2) (c:=2+c) (t:=t) j (by decide) (by decide) (by lia) (by lia) (by lia);exact aO (ak (aa rfl<|aa rfl<|aa (cc (z:= .int ((2+c:Nat):Int)) rfl (ak rfl m) (by show on (D.int _)=_;rw[Rq];rfl))<|aa (ak rfl p) rfl) e) ⟨ac,2+c,s,rfl,g,k⟩
 rw[OR<|by simp[M]];refine aU ?_;refine jM (β1:=w) (et<|cc rfl rfl Pu.eq_int) ?_;by_cases Q:y=1
 .rw[OS<|O3 Q]
  obtain⟨c,E,m,P,S,i⟩:=bM f (lot:=2) (by decide) (by decide);obtain⟨t,o,p,V,x,j⟩:=bM i (lot:=9) (by decide) (by decide);obtain⟨c,rfl⟩:∃n:Nat,c=(n:Int):=⟨c.toNat,by lia⟩;obtain⟨t,rfl⟩:∃n:Nat,t=(n:Int):=⟨t.toNat,by lia⟩;obtain⟨ac,s,G,e,g,k⟩:=sF (K:=K) (a:=a) (r:=4) (c:=2+c) (t:=t) j (by decide) (by decide) (by lia) (by lia) (by lia);exact aO (ak (aa rfl<|aa rfl<|aa (cc (z:= .int ((2+c:Nat):Int)) rfl (ak rfl m) (by show on (D.int _)=_;rw[Rq];rfl))<|aa (ak rfl p) rfl) e) ⟨ac,2+c,s,rfl,g,k⟩
 rw[OR<|by simp[Q]];refine aU ?_;obtain⟨r,E,m,P,S,i⟩:=bM f (lot:=2) (by decide) (by decide);obtain⟨c,o,p,V,x,j⟩:=bM i (lot:=3) (by decide) (by decide);obtain⟨t,G,H,N,O,k⟩:=bM j (lot:=12) (by decide) (by decide);obtain⟨r,rfl⟩:∃n:Nat,r=(n:Int):=⟨r.toNat,by lia⟩;obtain⟨c,rfl⟩:∃n:Nat,c=(n:Int):=⟨c.toNat,by lia⟩;obtain⟨t,rfl⟩:∃n:Nat,t=(n:Int):=⟨t.toNat,by lia⟩;obtain⟨ac,s,I,e,g,v⟩:=sF (K:=K) (a:=a) (r:=2+r) (c:=2+c) (t:=t) k (by lia) (by lia) (by lia) (by lia) (by lia);refine aE (d:= .int ((2+r:Nat):Int)) (cc rfl (ak rfl m) (by show on (D.int _)=_;rw[Rq];rfl)) ?_;refine aE (d:= .int ((2+c:Nat):Int)) (cc rfl (ak rfl p) (by show on (D.int _)=_;rw[Rq];rfl)) ?_;exact am<|aO (ak (aa rfl<|aa rfl<|aa rfl<|aa (ak rfl H) rfl) e) ⟨ac,2+c,s,rfl,g,v⟩
theorem toB{r c:Nat}{b:LP}(h:sB r c b):∃B,b=dG B/\YT r c B:=by
 have e:b=dG (b.map λa=>a.map λp=>(p.1.toNat,p.2.toNat)):=by
  unfold dG;rw[OU];refine(VV b).symm.trans<|Pk λa g=>?_;show a=Qt _ (Qt _ a);rw[OU];refine(VV a).symm.trans<|Pk λp i=>?_;obtain⟨n,s,w⟩:=h.ok a g p i;exact R3 (show p.1=((p.1.toNat:Nat):Int) by lia) (show p.2=((p.2.toNat:Nat):Int) by lia)
 refine⟨_,e,h.shp.map,λa g p i=>?_⟩;obtain⟨d,j,rfl⟩:=OZ.mp g;obtain⟨f,k,rfl⟩:=OZ.mp i;obtain⟨n,s,w⟩:=h.ok d j f k;show f.1.toNat<=f.2.toNat/\f.2.toNat<=40;lia
theorem JC{ac:LI}{B:a0v}{n s:a0a}(h:ri ac B n s):(sd K a).1 [ao ac,la B] β=on (.ok<|Lr a B n s,β):=by
 obtain⟨e,g,_,_⟩:=h.nr;have w:=h.c6;have b:=lW (K:=K) (a:=a) (β:=β) (ac:=ac) (by rw[h.shp.1];lia);have c:=jt (K:=K) (a:=a) (β:=β) h.shp e (by lia) (by lia);rw[h.rw1]at b;rw[h.cl1]at c;have f:=uh (K:=K) (a:=a) (β:=β) (ac:=gP<|dG B) (by rw[OC,(jg h.bok.1).1];lia);unfold sd
 dsimp only
 refine aK<|am<|aO (d:=Lr a B n s) (β1:=β) ?_ ⟨rfl,rfl⟩;unfold E2;rw[M.bind_ok<|aa (ak rfl b)<|aa (ak rfl c) rfl,M.bind_ok<|aa (ak rfl f) rfl];exact(M.bind_ok<|Lq h).trans rfl
theorem DL:∀{a:a0b} {v:a0a},(∀(i:Nat) (p:Nat×Nat) (x:Nat),a[i]?=on p->v[i]?=on x->p.1<=x/\x<=p.2)->u_ a v=OK
 |[],_,_=>by unfold u_;rfl
 |_::_,[],_=>by unfold u_;rfl
 |p::a,x::v,h=>by
  have:=h 0 p x rfl rfl;show(decide (p.1<=x)&&decide (x<=p.2)&&u_ a v)=OK;rw[DL λi p x b c=>h (i+1) p x b c,O3 this.1,O3 this.2];rfl
theorem xA:∀{a:LI},(∀row∈a,∀x∈row,0<=x)->∃l:a0n,a=l.map nI
 |[],_=>⟨[],rfl⟩
 |x::a,h=>by
  obtain⟨l,e⟩:=xA λy b=>h y<|OF _ b;obtain⟨m,c⟩:=qq<|h x OL;exact⟨m::l,by rw[e,c];rfl⟩
abbrev T_(b:LI)(n s:a0c)(a:LP)(c d e f:a0E):Ds:=[on<|.sh<|ao b,on<|.sh<|iL n,on<|.sh<|iL s,on<|.sh<|dE a,c,d,e,f]
theorem GD{r c:Nat}{b:LI}{rs cs:a0c}{lim:LP}(w:d4 r c b)(E:1<=r)(G:r<=30)(M:c<=30)(N:rs.length=r)(O:cs.length=c)(W:d4 r c lim)(h:∀i<r,∀j<c,0<=(bI lim i j).1/\(bI lim i j).1<=gp b i j/\gp b i j<=(bI lim i j).2)(Q:b.map P0=rs)(R:(tp c b).map P0=cs):
  (lY K a).1 [ao b,iL rs,iL cs,dE lim] β=on (.ok<|.bl OK,β):=by
 have B:=w.1;unfold lY
 dsimp only
 refine aK ?_;refine bP (β1:=β) (cj (c8<|c7 (x:= .bl OK) (ai rfl rfl) rfl)<|et<|cc (ai rfl<|ny (r:=r)<|by rw[OC,w.1]) (ai rfl<|bG (r:=r)<|by rw[OC,N])<|Pu.ne_int.trans<|by simp)<|aU ?_;refine bH (ds:=(gI b).map D.lst) (β1:=β) rfl (λi s g=>β=g/\∃t f,s=T_ b rs cs lim t f OD OD) ⟨rfl,OD,OD,rfl⟩ ?_ ?_
 .rintro i d s _ hd ⟨rfl,t,f,rfl⟩
  obtain⟨y,T,rfl⟩:=bE hd;obtain⟨n,e,rfl⟩:=bE T;have C:i<r:=by rw[<-w.1];exact(OM.mp e).1
  have k:n.length=c:=w.2 n<|OW e;refine⟨T_ b rs cs lim (on<|.sh<|.lst<|n.map D.int) f OD OD,rfl,?_⟩;refine bP (β1:=β) (cj (c8<|c7 (x:= .bl OK) (ai rfl rfl) rfl)<|et<|cc (ai rfl<|bG (r:=c)<|by rw[OC,k]) (ai rfl<|bG (r:=c)<|by rw[OC,O])<|Pu.ne_int.trans<|by simp)<|aU<|am ?_;refine bH (ds:=n.map D.int) (β1:=β) rfl (λj s g=>β=g/\∃f,s=T_ b rs cs lim (on<|.sh<|.lst<|n.map D.int) f OD OD) ⟨rfl,f,rfl⟩ ?_ ?_
  .rintro j d s _ hd ⟨rfl,f,rfl⟩
   obtain⟨x,m,rfl⟩:=bE hd;have F:j<c:=by rw[<-k];exact(OM.mp m).1
   have H:=h i C j F;rw[gE e m]at H;refine⟨T_ b rs cs lim (on<|.sh<|.lst<|n.map D.int) (on<|.sh<|.int x) OD OD,rfl,?_⟩;refine am<|bP (β1:=β) (cj (c8<|c7 (x:= .bl OK) (ai rfl rfl) rfl)<|cj (c7 (x:= .bl OO) (ai rfl rfl) rfl)<|et<|cc rfl rfl ?_)<|aU<|aY ⟨rfl,_,rfl⟩;show on (D.bl<|decide _)=_;rw[Pt<|by lia]
  .rintro s _ ⟨rfl,f,rfl⟩
   exact aY ⟨rfl,_,_,rfl⟩
 rintro s _ ⟨rfl,t,f,rfl⟩;have A:∀xs:a0c,gh (iL xs) (iL xs)=on (.bl OO):=λxs=>Jt (gT 1 (λx m=>by
  obtain⟨i,_,rfl⟩:=OZ.mp m;trivial)<|by decide)
 refine bP (β1:=β) (cj (et<|cc (ak rfl<|lW<|by lia) rfl<|by rw[Q];exact A rs)<|et<|cc (ak rfl<|jt w E G M) rfl<|by rw[R];exact A cs)<|aU ?_;refine bH (ds:=(b.zip lim).map λp=>D.tup [.lst<|p.1.map D.int,.lst<|p.2.map pD]) (β1:=β) (ql (u:=λn:a0c=>D.lst<|n.map D.int) (v:=λn:a1b=>D.lst<|n.map pD) (xs:=b) (ys:=lim) (by show on (Qj<|D.lst<|(b.map _).map D.lst,β)=_;rw[OU];rfl) (by show on (Qj<|D.lst<|(lim.map _).map D.lst,β)=_;rw[OU];rfl)) (λi s g=>β=g/\∃t f I o,s=T_ b rs cs lim t f I o) ⟨rfl,_,_,_,_,rfl⟩ ?_ ?_
 .rintro i d s _ hd ⟨rfl,t,f,I,o,rfl⟩
  obtain⟨⟨n,l⟩,U,rfl⟩:=bE hd;obtain⟨e,q⟩:=RH.mp U;have C:i<r:=by rw[<-w.1];exact(OM.mp e).1
  have k:n.length=c:=w.2 n<|OW e;refine⟨T_ b rs cs lim (on<|.sh<|.lst<|n.map D.int) f (on<|.sh<|.lst<|l.map pD) o,rfl,am ?_⟩;refine bH (ds:=(n.zip l).map λp=>D.tup [.int p.1,pD p.2]) (β1:=β) (ql (u:=D.int) (v:=pD) (xs:=n) (ys:=l) rfl rfl) (λj s g=>β=g/\∃f o,s=T_ b rs cs lim (on<|.sh<|.lst<|n.map D.int) f (on<|.sh<|.lst<|l.map pD) o) ⟨rfl,_,_,rfl⟩ ?_ ?_
  .rintro j d s _ hd ⟨rfl,f,o,rfl⟩
   obtain⟨⟨x,p⟩,J,rfl⟩:=bE hd;obtain⟨m,L⟩:=RH.mp J;have F:j<c:=by rw[<-k];exact(OM.mp m).1
   have H:=h i C j F;have P:bI lim i j=p:=by
    simp only[bI,OJ];simp only at q L;rw[q,UA,L];rfl
   simp only at e m;rw[gE e m,P]at H;refine⟨T_ b rs cs lim (on<|.sh<|.lst<|n.map D.int) (on<|.sh<|.int x) (on<|.sh<|.lst<|l.map pD)<|on<|.sh<|pD p,rfl,?_⟩;refine am<|bP (β1:=β) (cj (et<|cc rfl (cc rfl rfl sC) ?_)<|et<|cc rfl (cc rfl rfl wn) ?_)<|aU<|aY ⟨rfl,_,_,rfl⟩
   .show on (D.bl<|decide (x<p.1))=_
    rw[Pt<|by lia]
   .show on (D.bl<|decide (p.2<x))=_
    rw[Pt<|by lia]
  .rintro s _ ⟨rfl,f,o,rfl⟩
   exact aY ⟨rfl,_,_,_,_,rfl⟩
 .rintro s _ ⟨rfl,t,f,I,o,rfl⟩
  exact am<|aO rfl ⟨rfl,rfl⟩
theorem O2.tab{ac:LI}{c:Nat}{a:a0a}(g:O2 ac c a):D2 a.length c ac:=by
 obtain⟨b,d,e,_⟩:=g.nr;refine⟨g.shp,g.nn,?_,b,d,g.c1,g.c6⟩;show(ac.map P0).sum<=40;rw[g.sm,gv];lia
theorem Ms{ac:LI}{c:Nat}{n:a0a}{b:LP}(g:O2 ac c n)(f:sB n.length c b)(w:Kp ac b):∃B a,b=dG B/\ri ac B n a/\a.length=c:=by
 obtain⟨B,rfl,ok⟩:=toB f;obtain⟨a,e⟩:=qq (xs:=(tp c ac).map P0) λx i=>by
  obtain⟨s,j,rfl⟩:=OZ.mp i;exact mP<|HA g.nn s j
 have k:a.length=c:=by rw[<-(gX (d:=(0:Int)) (c:=c) g.shp.1).1,<-OC (as:=ry 0 c ac) P0];exact(Qr U4 e).symm▸(OC _).symm
 have l:n.sum=a.sum:=by
  have h:tot (tp c ac)=tot ac:=BJ g.shp.2;unfold tot at h;rw[e,g.sm,gv,gv]at h;lia
 subst k;exact⟨B,a,rfl,⟨⟨g.nr,g.wd,l,g.c1,g.c6⟩,g.shp,g.sm,e,ok,w⟩,rfl⟩
theorem DM:∀{a:a0b} {v:a0a} {i x:Nat} {p:Nat×Nat},u_ a v=OK->a[i]?=on p->v[i]?=on x->p.1<=x/\x<=p.2
 |[],_,_,_,_,_,h,_=>by cases h
 |_::_,[],_,_,_,_,_,h=>by cases h
 |q::a,y::v,i,x,p,h,h1,h2=>by
  have n:(decide (q.1<=y)&&decide (y<=q.2)&&u_ a v)=OK:=h;simp only[Pr,PR]at n;cases i with
  |zero=>cases h1;cases h2;exact n.1
  |succ i=>exact DM n.2 (i:=i) h1 h2
theorem AZ{B:a0v}{a:a0a}:∀{s:a0n} {k j:Nat} {r v:a0a},Wk (wB B a) k r s->s[j]?=on v->u_ (nN B<|k+j) v=OK
 |[],_,_,_,_,_,h=>by cases h
 |u::s,k,0,r,v,h,e=>by cases e;exact(Q8.mp h.1).2
 |u::s,k,j+1,r,v,h,e=>by
  rw[show k+(j+1)=k+1+j by lia];exact AZ h.2 e
theorem G9(a:LI):gF (ao a)=OK:=gT 2 (λx b=>by
 obtain⟨y,c,rfl⟩:=OZ.mp b;obtain⟨n,_,rfl⟩:=OZ.mp c;intro z d;obtain⟨i,_,rfl⟩:=OZ.mp d;trivial) (by decide)
theorem neI{x y:Int}(h:x=y):gh (.int x) (.int y)=on (.bl OO):=by rw[Pu.ne_int,O3 h];rfl
theorem ZP{f:FD}{a:Dn}{c:Bool}(b:f a β=on (.ok<|.bl c,β)):G2 f a β=on (.ok<|.bl<|!c,β):=by unfold G2 M.bind;rw[b];rfl
theorem pB(i:Int):(i5 K a).1 [.int i] β=on (.ok<|.bl OK,β):=by
 unfold i5
 dsimp only
 refine aK ?_;exact am<|aO (d:= .bl OK) (β1:=β) (Iw (c:=OK) (e:=OK) (ai rfl rfl)<|ZP (c:=OO)<|ai rfl rfl) ⟨rfl,rfl⟩
theorem JX(p q:Nat×Nat):dI (bc p) (bc q)=on (.bl<|decide (p=q)):=by
 have b:∀p:Nat×Nat,lg (bc p)=on (.tuple [.int (p.1:Int),.int (p.2:Int)]):=λ_=>rfl;have c:∀p:Nat×Nat,gF (bc p)=OK:=λp=>gT 2 (λx d=>by
  simp only[OQ,PV,RB]at d;rcases d with rfl|rfl<;>trivial) (by decide)
 rw[ud rfl (b p) (b q) (c p)<|c q];congr 2;show Qx [.int (p.1:Int),.int (p.2:Int)] [.int (q.1:Int),.int (q.2:Int)]=_;rw[Qx,Qx,Qx,eqI,eqI,Se];simp only[Bool.and_true,Pr,PR,Te];lia
abbrev ZE(a n:D)(L:a0b)(b c d:a0E):Ds:=[on<|.sh a,on<|.sh n,on<|.sh<|.lst<|L.map bc,b,c,d]
theorem Y_{x y:Int}(h:y<=x):S_ (.int x) (.int y)=on (.bl OO):=by rw[Pu.lt_int,Pt<|by lia]
theorem zS(p:Nat×Nat):gt (bc p) (.int 0)=on (.int (p.1:Int)):=rfl
theorem zR(p:Nat×Nat):gt (bc p) (.int 1)=on (.int (p.2:Int)):=rfl
theorem zB(k:Nat):sr (.int (k:Int)) (.int 2)=on (.int ((k % 2:Nat):Int)):=rfl
theorem JS{r c:Nat}{A B:LI}{m:Int}{L:a0b}(e:Lp r c A B m L)(E:d4 r c A)(P:1<=r)(X:r<=4):(pT K a).1 [cg (m,L),ao A] β=on (.ok<|.bl OK,β):=by
 have G:=e.m0;have Y:=e.n4;have S:=e.ev;have Z:=e.nl;have b:eJ [.lst<|L.map bc]=on (.int (L.length:Int)):=bG (by rw[OC]);unfold pT
 dsimp only
 refine aK ?_;refine bP (β1:=β) (cj (c8<|c7 (x:= .bl OK) (ai rfl rfl) rfl)<|cj (et<|cc (x:= .int 2) (ai rfl rfl) rfl rfl)<|cj (c8<|c7 (x:= .bl OK) (ak (aa (cc (z:= .int m) rfl rfl rfl) rfl)<|pB m) rfl)<|et<|cc (x:= .int m) (cc rfl rfl rfl) rfl<|Y_<|by lia)<|aU ?_;refine aE (d:= .lst<|L.map bc) (β1:=β) (cc rfl rfl rfl) ?_;refine bP (β1:=β) (cj (c8<|c7 (x:= .bl OK) (ai rfl rfl) rfl)<|cj (et<|cc (ai rfl b) rfl<|Y_<|by lia)<|et<|cc (cc (ai rfl b) rfl<|zB _) rfl ?_)<|aU ?_
 .rw[S];rfl
 refine bH (ds:=L.map bc) (β1:=β) rfl (λk n f=>β=f/\∃g,n=ZE (cg (m,L)) (ao A) L g OD OD) ⟨rfl,OD,rfl⟩ ?_ ?_
 .rintro k d n _ hd ⟨rfl,g,rfl⟩
  obtain⟨p,t,rfl⟩:=bE hd;obtain⟨R,T⟩:=e.rng p<|OW t;refine⟨ZE (cg (m,L)) (ao A) L (on<|.sh<|bc p) OD OD,rfl,?_⟩;refine bP (β1:=β) (cj (c8<|c7 (x:= .bl OK) (ai rfl rfl) rfl)<|cj (et<|cc (x:= .int 2) (ai rfl rfl) rfl rfl)<|cj (c8<|c7 (x:= .bl OK) (ak (aa (cc rfl rfl<|zS p) rfl)<|pB _) rfl)<|c8<|c7 (x:= .bl OK) (ak (aa (cc rfl rfl<|zR p) rfl)<|pB _) rfl)<|aU ?_;obtain⟨V,l,o⟩:=E.at (i:=0) P;have C:qV [bc p]=on (.int<|h8 [(p.1:Int),(p.2:Int)]):=rfl;have G:0<=h8 [(p.1:Int),(p.2:Int)]:=by
   have:=md (ns:=[(p.1:Int),(p.2:Int)]) (by simp);simp only[OQ,PV,RB]at this;lia
  exact am<|bP (β1:=β) (cj (et<|cc (ai rfl C) rfl<|Y_ G)<|cj (et<|cc (cc rfl rfl<|zS p) (ai rfl<|ny (r:=r)<|by rw[OC,E.1])<|by rw[Pu.ge_int,Pt<|by lia])<|et<|cc (cc rfl rfl<|zR p) (ai (aa (cc rfl rfl<|mh<|by rw[OI,l];rfl) rfl)<|bG (r:=c)<|by rw[OC,o])<|by rw[Pu.ge_int,Pt<|by lia])<|aU<|aY ⟨rfl,_,rfl⟩
 rintro n _ ⟨rfl,g,rfl⟩;refine bH (ds:=cm 0<|L.map bc) (β1:=β) rfl (λk n f=>β=f/\∃g v u,n=ZE (cg (m,L)) (ao A) L g v u) ⟨rfl,_,_,_,rfl⟩ ?_ ?_
 .rintro k d n _ hd ⟨rfl,g,v,u,rfl⟩
  obtain⟨x,F,rfl⟩:=iI hd;obtain⟨p,t,rfl⟩:=bE F;have U:=(OM.mp t).1;have H:(k+1) % L.length<L.length:=Vv _ (by lia);have j:=OE H;obtain⟨s,M⟩:=e.adj k p _ t j;generalize L[(k+1) % L.length]=q at j s M;refine⟨ZE (cg (m,L)) (ao A) L (on<|.sh<|bc p) (on<|.sh<|.int (k:Int)) u,rfl,?_⟩;have I:sr (.int ((k+1:Nat):Int)) (.int (L.length:Int))=on (.int (((k+1) % L.length:Nat):Int)):=by
   show(if decide ((0:Int)<(L.length:Int))=OK then _ else _)=_;rw[OS<|O3<|by lia];rfl
  refine aE (d:=bc q) (β1:=β) (cc rfl (cc (cc (z:= .int ((k+1:Nat):Int)) rfl rfl rfl) (ai rfl b) I)<|cf<|by rw[OI,j];rfl) ?_;have y:vh (.int 1) (.int ((k % 2:Nat):Int))=on (.int ((1-k % 2:Nat):Int)):=by
   show on (D.int<|1-((k % 2:Nat):Int))=_;rw[show(1:Int)-((k % 2:Nat):Int)=((1-k % 2:Nat):Int) by lia]
  have J:∃z:Int,gt (bc p) (.int ((1-k % 2:Nat):Int))=on (.int z)/\gt (bc q) (.int ((1-k % 2:Nat):Int))=on (.int z):=by
   by_cases w:k % 2=0
   .rw[OS w]at s
    rw[w];exact⟨(p.2:Int),rfl,by rw[s];rfl⟩
   .rw[OR w]at s
    rw[show k % 2=1 by lia];exact⟨(p.1:Int),rfl,by rw[s];rfl⟩
  obtain⟨z,N,O⟩:=J;exact am<|bP (β1:=β) (cj (et<|cc (cc rfl (cc rfl (cc rfl rfl<|zB k) y) N) (cc rfl (cc rfl (cc rfl rfl<|zB k) y) O)<|neI rfl)<|et<|cc rfl rfl<|(JX p q).trans<|by rw[Pt M])<|aU<|aY ⟨rfl,_,_,_,rfl⟩
 rintro n _ ⟨rfl,g,v,u,rfl⟩;have Q:L.map bc=(L.map λp=>[(p.1:Int),(p.2:Int)]).map ix:=by rw[OU];rfl
 have W:(L.map λp=>[(p.1:Int),(p.2:Int)]).Nodup:=List.Pairwise.map _ (λp q h z=>h (by
  simp only[R4,and_true]at z;exact R3 (by lia)<|by lia)) e.nd
 refine am<|aO (cc (x:= .int (L.length:Int)) (ZO rfl ?_) (ai rfl b)<|Pu.eq_int.trans<|by rw[O3 rfl]) ⟨rfl,rfl⟩;rw[Q,EC W (by rw[OC];lia),OC]
abbrev twS(a n s:D)(b c d:a0E):Ds:=[on<|.sh a,on<|.sh n,on<|.sh s,b,c,d]
theorem BK{r c:Nat}{A B:LI}{m:Int}{L:a0b}(h:Lp r c A B m L)(o:d4 r c A)(q:d4 r c B):(lX K a).1 [cg (m,L),ao A,ao B] β=on (.ok<|.bl OK,β):=by
 unfold lX
 dsimp only
 refine aK ?_;refine bH (ds:=cm 0<|L.map bc) (β1:=β) rfl (λk s e=>β=e/\∃f g b,s=twS (cg (m,L)) (ao A) (ao B) f g b) ⟨rfl,_,_,_,rfl⟩ ?_ ?_
 .rintro k d s _ hd ⟨rfl,f,g,b,rfl⟩
  obtain⟨x,t,rfl⟩:=iI hd;obtain⟨p,i,rfl⟩:=bE t;obtain⟨j,l⟩:=h.rng p<|OW i;have n:=h.sg.at i;rw[Qi]at n;obtain⟨v,D,E⟩:=zU o j l;obtain⟨y,G,u⟩:=zU q j l;refine⟨twS (cg (m,L)) (ao A) (ao B) (on<|.sh<|.int (k:Int)) (on<|.sh<|bc p) b,rfl,?_⟩;refine aE (d:= .int<|gp B p.1 p.2-gp A p.1 p.2) (β1:=β) (cc (cc (cc rfl (cc rfl rfl<|zS p) G) (cc rfl rfl<|zR p) u) (cc (cc rfl (cc rfl rfl<|zS p) D) (cc rfl rfl<|zR p) E) rfl) ?_;refine jM (c:=decide (k % 2=1)) (β1:=β) (et<|cc (cc rfl rfl<|zB k) rfl<|Pu.eq_int.trans<|by congr 2;simp only[decide_eq_decide];lia) ?_;by_cases w:k % 2=1
  .rw[OS<|O3 w]
   rw[OR<|by lia]at n;have n:gp B p.1 p.2-gp A p.1 p.2<=-m:=n;exact aE (d:= .int<|0-(gp B p.1 p.2-gp A p.1 p.2)) (β1:=β) (cc rfl rfl rfl)<|am<|bP (β1:=β) (et<|cc rfl (cc (z:= .int m) rfl rfl rfl)<|Y_<|by lia)<|aU<|aY ⟨rfl,_,_,_,rfl⟩
  .rw[OR<|by simpa using w]
   rw[OS<|by lia]at n;have n:m<=gp B p.1 p.2-gp A p.1 p.2:=n;exact aU<|am<|bP (β1:=β) (et<|cc rfl (cc (z:= .int m) rfl rfl rfl)<|Y_<|by lia)<|aU<|aY ⟨rfl,_,_,_,rfl⟩
 rintro s _ ⟨rfl,f,g,b,rfl⟩;exact am<|aO (d:= .bl OK) (β1:=β) rfl ⟨rfl,rfl⟩
theorem GW{r c:Nat}{A B:LI}(b:d4 r c A)(e:d4 r c B)(h:∀i j,i<r->j<c->gp A i j=gp B i j):A=B:=by
 refine QE (b.1.trans e.1.symm) λi d f=>?_;have g:=b.2 _<|PF d;have l:=e.2 _<|PF f;refine QE (g.trans l.symm) λj k m=>?_;have:=h i j (by rw[<-b.1];exact d) (by rw[<-g];exact k);rwa[gE (OE d)<|OE k,gE (OE f)<|OE m]at this
structure Bk (B:a0v) (rs cs:a0a) (ac:LI):Prop where
 shp:d4 rs.length cs.length ac
 rw1:ac.map P0=nI rs
 cl1:(tp cs.length ac).map P0=nI cs
 bd:∀i j,i<rs.length->j<cs.length->0<=(bI (dG B) i j).1/\(bI (dG B) i j).1<=gp ac i j/\gp ac i j<=(bI (dG B) i j).2
theorem Bk.nt{g ac:LI}{B:a0v}{rs cs:a0a}(h:Bk B rs cs ac)(n:ri g B rs cs):ri ac B rs cs:=by
 refine⟨n.toNt0,h.shp,h.rw1,h.cl1,n.bok,λi j x p c d=>?_⟩;unfold vl at c d;obtain⟨a,b,e⟩:=Wz.mp c;obtain⟨s,f1,f2⟩:=Wz.mp d;have f:i<rs.length:=by rw[<-h.shp.1];exact(OM.mp b).1
 have k:j<cs.length:=by rw[<-h.shp.2 a (OW b)];exact(OM.mp e).1
 have:=h.bd i j f k;have m:bI (dG B) i j=p:=by
  unfold bI;rw[OJ (l:=dG B),f1,OJ];show(s[j]?).getD _=p;rw[f2];rfl
 rw[gE b e,m]at this;exact this.2
theorem Bk.nn{ac:LI}{B:a0v}{rs cs:a0a}(h:Bk B rs cs ac):∀row∈ac,∀x∈row,0<=x:=λrow b x e=>by
 obtain⟨i,c,rfl⟩:=RY b;obtain⟨j,d,rfl⟩:=RY e;have f:=h.shp.2 _ b;have:=h.bd i j (by rw[<-h.shp.1];exact c) (by rw[<-f];exact d);rw[gE (OE c)<|OE d]at this;lia
theorem Bk.tab{g ac:LI}{B:a0v}{a n:a0a}(h:Bk B a n ac)(s:ri g B a n):D2 a.length n.length ac:=by
 obtain⟨b,c,d,_⟩:=s.nr;refine⟨h.shp,h.nn,?_,b,c,s.c1,s.c6⟩;show(ac.map P0).sum<=40;rw[h.rw1,gv];lia
theorem OB{g:LI}{B:a0v}{a n:a0a}{s:a0n}(h:ri g B a n)(e:Wk (wB B n) 0 a s)(c:s.length=n.length):Bk B a n (Iv a.length s):=by
 obtain⟨f,m,d⟩:=rN (yO B n) e (by rw[c,Qi]) h.sm;rw[List.drop_zero]at f;refine⟨by rw[<-c];exact IW,by rw[vK d,<-m],by rw[<-c,KD d,HS];show nI (s.map P0)=_;rw[f],λi j k t=>?_⟩;have b:j<s.length:=by lia
 have w:=OE b;have u:=d _<|PF b;have hB:i<B.length:=by rw[h.bok.1.1];exact k
 have v:=h.bok.1.2 _<|PF hB;have q:=DM (i:=i) (p:=B[i][j]'(by lia)) (x:=s[j][i]'(by lia)) (AZ e w) (by
  unfold nN;rw[OI,OE hB,Qi];show on (B[i].getD j (0,0))=_;rw[fF<|by lia])<|OE _
 have o:bI (dG B) i j=(((B[i][j]'(by lia)).1:Int),((B[i][j]'(by lia)).2:Int)):=by
  have l:j<B[i].length:=by lia
  simp[bI,dG,OJ,hB,l]
 have r:gp (Iv a.length s) i j=((s[j][i]'(by lia):Nat):Int):=gE (CN k) (by
  rw[OI,OI,w];show on ((s[j].getD i 0:Nat):Int)=_;rw[fF<|by lia])
 rw[o,r];exact⟨Ys _,Int.ofNat_le.mpr q.1,Int.ofNat_le.mpr q.2⟩
theorem Bk.step{A D:LI}{B:a0v}{s a:a0a}{m:Int}{L:a0b}(b:Bk B s a A)(p:Bk B s a D)(k:Lp s.length a.length A D m L):Bk B s a (bC m 0 L A):=by
 have n:=iz m L 0 A b.shp;refine⟨n,?_,?_,λi j g h=>?_⟩
 .rw[<-b.rw1]
  refine QE (by rw[OC,OC,n.1,b.shp.1]) λi f l=>?_;have g:i<s.length:=by rw[OC,n.1]at f;exact f
  have e:=k.row A b.shp i;rw[nY n g,nY b.shp g,fF f,fF l]at e;exact e
 .rw[<-b.cl1]
  have o:=gX (d:=(0:Int)) (c:=a.length) n.1;have q:=gX (d:=(0:Int)) (c:=a.length) b.shp.1;refine QE (by rw[OC,OC,o.1,q.1]) λj f l=>?_;have h:j<a.length:=by rw[OC,o.1]at f;exact f
  have e:=k.col A b.shp j;rw[nZ n h,nZ b.shp h,fF f,fF l]at e;exact e
 .have x:=b.bd i j g h
  have y:=p.bd i j g h;have E:=k.m0;rcases k.cell b.shp i j with⟨_,e⟩|⟨_,⟨w,e⟩|⟨w,e⟩⟩
  .rw[e];exact x
  .have w:m<=gp D i j-gp A i j:=w
   rw[e];lia
  .have w:gp D i j-gp A i j<=-m:=w
   rw[e];lia
theorem CW{W:Wy}:∀{s:a0n} {k:Nat} {r:a0a},Wk W k r s->s∈YY W s.length k r
 |[],_,_,_=>PH.mpr rfl
 |v::s,k,r,h=>Q4.mpr ⟨v,h.1,OZ.mpr ⟨s,CW h.2,rfl⟩⟩
theorem DO{ac:LI}{B:a0v}{n a:a0a}(h:ri ac B n a)(D:∀row∈ac,∀x∈row,0<=x):∃s,ac=Iv n.length s/\tp a.length ac=s.map nI/\Wk (wB B a) 0 n s/\s.length=a.length:=by
 obtain⟨s,e⟩:=xA<|HA (c:=a.length) D;have w:=gX (d:=(0:Int)) (c:=a.length) h.shp.1;have t:s.length=a.length:=by rw[<-OC (f:=nI),<-e];exact w.1
 have k:∀v∈s,v.length=n.length:=λv g=>by
  rw[<-OC (f:=λ(i:Nat)=>(i:Int))];refine w.2 (nI v) ?_;show nI v∈tp a.length ac;rw[e];exact OZ.mpr ⟨v,g,rfl⟩
 have l:ac=Iv n.length s:=by rw[<-Hz h.shp,e]
 have E:n=sG n.length s:=i6 (by rw[<-vK k,<-l,h.rw1]);have u:a=csC s:=i6 (by rw[<-HS,<-e,h.cl1]);refine⟨s,l,e,?_,t⟩;rw[E];refine Hu k λi r v g G=>?_;rw[Qi];have A:=(OM.mp g).1;refine Q8.mpr ⟨?_,DL λj p x m o=>?_⟩
 .have q:a.getD i 0=v.sum:=by rw[u,OJ,OI,g];rfl
  rw[q];exact ma G
 .unfold nN at m
  obtain⟨row,b,rfl⟩:=bE m;have C:=h.bok.1.2 row<|OW b;have y:j<n.length:=by rw[<-k v (OW g)];exact(OM.mp o).1
  have K:vl ac j i=on (x:Int):=nW (by rw[l];exact CN y) (by rw[OI,OI,g];show on ((v.getD j 0:Nat):Int)=_;rw[OJ,o];rfl);have M:vl (dG B) j i=on (((row.getD i (0,0)).1:Int),((row.getD i (0,0)).2:Int)):=nW (row:=row.map λp=>((p.1:Int),(p.2:Int))) (by rw[OI,b];rfl) (by rw[OI,fF (by lia),OE<|by lia];rfl);have:=h.kp j i _ _ K M;simp only at this;lia
theorem MM{g ac:LI}{B:a0v}{w n:a0a}(D:ri g B w n)(h:Bk B w n ac):∃k:Nat,(∀β,(dW K a).1 [cY a (wB B n) (la B) w n,.int (k:Int)] β=on (.ok<|ao ac,β))/\∀β,(iS K a).1 [cY a (wB B n) (la B) w n,ao ac] β=on (.ok<|.int (k:Int),β):=by
 have c:ni K a w n (wB B n) (la B):=D.nt;have G:∀k r,(wB B n k r).Nodup:=λk r=>(rP _ _).filter _;obtain⟨s,i,j,d,f⟩:=DO (h.nt D) h.nn;have E:=CW d;rw[f]at E;obtain⟨k,b,e⟩:=RY E;obtain⟨l,m⟩:=v5 G<|OM.mpr ⟨b,e⟩;rw[lF]at b;refine⟨k,λβ=>?_,λβ=>?_⟩
 .have:=EH (K:=K) (a:=a) (β:=β) c b
  rw[l]at this;rw[i];exact this
 .have:=Lk (K:=K) (a:=a) (β:=β) c h.shp j d f
  rw[m]at this;exact this
theorem J5{g ac:LI}{B:a0v}{rs cs:a0a}(n:ri g B rs cs)(h:Bk B rs cs ac):(lY K a).1 [ao ac,nL rs,nL cs,la B] β=on (.ok<|.bl OK,β):=by
 have s:=n.nr.1;have e:=n.nr.2.1;have w:=n.c6;exact GD (r:=rs.length) (c:=cs.length) (rs:=nI rs) (cs:=nI cs) (lim:=dG B) h.shp s (by lia) (by lia) (OC _) (OC _) (jg n.bok.1) (λi b j d=>h.bd i j b d) h.rw1 h.cl1
theorem yt(A:LI):dI (ao A) (ao A)=on (.bl OK):=by
 unfold dI;show(gU _ _).map D.bl=_;rw[nP<|G9 A];rfl
abbrev YJ(g l n o t h w:D)(u:Nat)(b c d e:a0E):Ds:=[OD,on<|.sh .bag,on<|.sh g,on<|.sh l,on<|.sh n,on<|.sh o,on<|.sh t,on<|.sh h,on<|.sh w,on<|.sh<|.int (u:Int),b,c,d,e]
abbrev two(A B:LI):D:= .lst [ao A,ao B]
theorem MD(A B:LI):dI (two A B) (two A B)=on (.bl OK):=by
 have a:∀C:LI,R_ 2 (ao C):=λC y d=>by
  obtain⟨n,b,rfl⟩:=OZ.mp d;obtain⟨e,_,rfl⟩:=OZ.mp b;exact zj 0 e
 have h:R_ 3 (two A B):=λx c=>by
  simp only[OQ,PV,RB]at c;rcases c with rfl|rfl<;>exact a _
 unfold dI;show(gU _ _).map D.bl=_;rw[nP<|gT 3 h<|by decide];rfl
theorem rgL(c:Nat):bu 0 c=(OV c).map λj:Nat=>D.int (j:Int):=by
 unfold bu;exact Pk λj _=>by rw[Ru]
theorem addN(x y:Nat):ir (.int (x:Int)) (.int (y:Int))=on (.int ((x+y:Nat):Int)):=rfl
theorem BD{r c:Nat}{A b:LI}{g l n h w:D}{B:G}{Q:a0A}(C:d4 r c A)(F:d4 r c b)(E:r<=30)(K:c<=30)(k:∀m o,Gw B (YJ g l n (ao A) (ao b) h w (YU r c A b) m o OD OD) β Q):
  Gw (aW (wD (pX<|ae (af 5)<|ae (af 6)<|az) (Zv<|mS (PC 10)<|mS (PC 11) vq)<|eY 9<|f2 ir (af 9)<|aV eJ<|ae (cB 1 [10,11] (cJ fS<|ae (aV eJ<|ae (af 10)<|az)<|az) (fy 0) (fB<|f2 (gh) (f2 gt (af 1)<|af 0)<|f2 gt (af 2)<|af 0)<|js<|af 0)<|az) B) (YJ g l n (ao A) (ao b) h w 0 OD OD OD OD) β Q:=by
 have s:∀A:LI,(gI A).map D.lst=A.map λa=>D.lst (a.map D.int):=λA=>by rw[OU];rfl
 refine bH (β1:=β) (ql (xs:=A) (ys:=b) (u:=λa:a0c=>D.lst<|a.map D.int) (v:=λa:a0c=>D.lst<|a.map D.int) (by show on (Qj<|D.lst<|(gI A).map D.lst,β)=_;rw[s]) (by show on (Qj<|D.lst<|(gI b).map D.lst,β)=_;rw[s])) (λi δ y=>β=y/\∃m o,δ=YJ g l n (ao A) (ao b) h w ((OV i).map<|Y5 A b c).sum m o OD OD) ⟨rfl,OD,OD,rfl⟩ ?_ ?_
 .rintro i d δ _ hd ⟨rfl,m,o,rfl⟩
  obtain⟨p,L,rfl⟩:=bE hd;obtain⟨q,t⟩:=p;obtain⟨H,I⟩:=RH.mp L;have N:=C.2 q<|OW H;have R:=F.2 t<|OW I;have O:=kh (nv:=1) (b0:=[10,11]) (it:=cJ fS<|ae (aV eJ<|ae (af 10)<|az)<|az) (tg:=fy 0) (tt:=fB<|f2 (gh) (f2 gt (af 1)<|af 0)<|f2 gt (af 2)<|af 0) (f:=af 0) (δ:=vw<|YJ g l n (ao A) (ao b) h w ((OV i).map<|Y5 A b c).sum (on<|.sh<|.lst<|q.map D.int) (on<|.sh<|.lst<|t.map D.int) OD OD) (β:=β) (OV c) (λj:Nat=>D.int (j:Int)) (λj=>D.int (j:Int)) (λj=>decide (gp A i j≠gp b i j))
   (by rw[<-rgL];exact bQ (aa (ai rfl<|bG (r:=c)<|by rw[OC,N]) rfl)<|(up (Ys _)<|by lia).trans<|by rw[Qu])
   (λj J=>by
    have J:=O9.mp J;refine⟨[on<|.int (j:Int),on<|.lst<|q.map D.int,on<|.lst<|t.map D.int],rfl,et<|cc (cc rfl rfl<|oN<|by lia) (cc rfl rfl<|oN<|by lia) ?_,λ_=>rfl⟩;rw[fZ H,fZ I,Pu.ne_int];simp only[ne_eq,decide_not]) (by rw[Ps];exact bp<|by lia)
  refine⟨YJ g l n (ao A) (ao b) h w ((OV i).map<|Y5 A b c).sum (on<|.sh<|.lst<|q.map D.int) (on<|.sh<|.lst<|t.map D.int) OD OD,rfl,?_⟩;refine am<|aE (d:= .int ((((OV<|i+1).map<|Y5 A b c).sum:Nat):Int)) (β1:=β) (cc rfl (ai (aa O rfl)<|bG rfl) ?_)<|aY ⟨rfl,_,_,rfl⟩;refine(addN _ _).trans ?_;rw[Q9,Pw,TM,OC,<-List.countP_eq_length_filter,Vs,X9];rfl
 .rintro δ _ ⟨rfl,m,o,rfl⟩
  have e:((A.zip b).map λp=>D.tup [.lst<|p.1.map D.int,.lst<|p.2.map D.int]).length=r:=by rw[OC,RK,C.1,F.1,UU]
  rw[e];exact k m o
theorem GG(β:Bg)(ok:β.ok):∃b,(qM K a).1 [OD,on<|.sh .bag,OD,OD,OD,OD,OD,OD,OD,OD,OD,OD,OD,OD] β=on (.rt<|.bl OK,b):=by
 suffices h:Gw (qM K a).1 [OD,on<|.sh .bag,OD,OD,OD,OD,OD,OD,OD,OD,OD,OD,OD,OD] β (λo _=>o= .rt (.bl OK)) by
  obtain⟨o,b,e,rfl⟩:=h;exact⟨b,e⟩
 obtain⟨g,c,E,β1,e1,U,Y⟩:=GI (K:=K) (a:=a) ok;obtain⟨l,ab,e2,bl,kl,Z⟩:=zL (K:=K) (a:=a) U.tab Y;obtain⟨B,n,rfl,G,lc⟩:=Ms U bl kl;have ad:0<jm (wB B n) n.length 0 E:=by
  obtain⟨s,_,_,hw,hl⟩:=DO G U.nn;exact uZ hw hl
 have r1:=G.nr.1;have r4:=G.nr.2.1;have c1:=G.c1;have c6:=G.c6;have x1:∀β,(gn K a).1 [ao g] β=on (.ok<|nL E,β):=λβ=>by
  have:=lW (K:=K) (a:=a) (β:=β) (ac:=g) (by rw[G.shp.1];lia);rwa[G.rw1]at this
 have x2:∀β,(eD K a).1 [ao g] β=on (.ok<|nL n,β):=λβ=>by
  have:=jt (K:=K) (a:=a) (β:=β) G.shp r1 (by lia) (by lia);rwa[G.cl1]at this
 have ae:jm (wB B n) n.length 0 E<1073741824:=by
  obtain⟨m,hm⟩:∃m,n.length=m+1:=⟨n.length-1,by lia⟩;rw[hm];have:=HB (yO B n) G.wd m 0 E (by rw[hm,Qi]) G.sm<|i4.refl _;exact Qp (Pl this<|TH (by decide) (show m<=5 by lia)) (by decide)
 have tW:∀β,(fV K a).1 [cY a (wB B n) (la B) E n] β=on (.ok<|.int ((jm (wB B n) n.length 0 E:Nat):Int),β):=λβ=>xB;have kt:∀k:Nat,k<jm (wB B n) n.length 0 E->∃A,Bk B E n A/\∀β,(dW K a).1 [cY a (wB B n) (la B) E n,.int (k:Int)] β=on (.ok<|ao A,β):=λk Q=>by
  rw[<-lF (W:=wB B n) (k:=0)]at Q;obtain⟨q1,q2⟩:=vQ<|PF Q;refine⟨_,OB G q1 q2,λβ=>?_⟩;have:=EH (K:=K) (a:=a) (β:=β) (G.nt (K:=K) (a:=a)) (n0:=k) (by rwa[lF]at Q);rw[(v5 (W:=wB B n) (λk r=>(rP _ _).filter _)<|OE Q).1]at this;exact this
 have C:∀{A:LI},Bk B E n A->∀β,(f8 K a).1 [ao A] β=on (.ok<|ao A,β):=λ{A} h β=>uh (by rw[OC,h.shp.1];lia);obtain⟨u,af,pu,u0,u1,P⟩:=bM Z (lot:=((jm (wB B n) n.length 0 E:Nat):Int)) (by lia) (by lia);obtain⟨u,rfl⟩:∃k:Nat,u=(k:Int):=⟨u.toNat,by lia⟩;obtain⟨v,ag,pv,v0,v1,S⟩:=bM P (lot:=((jm (wB B n) n.length 0 E:Nat):Int)) (by lia) (by lia);obtain⟨v,rfl⟩:∃k:Nat,v=(k:Int):=⟨v.toNat,by lia⟩;obtain⟨w,D,pw,w0,w1,ah⟩:=bM S (lot:=6) (by decide) (by decide);obtain⟨A,j,kA⟩:=kt u (by lia);obtain⟨D0,V,kD⟩:=kt v (by lia);unfold qM
 dsimp only
 refine aE (ak rfl e1)<|aE (ak rfl e2)<|aE (ak rfl<|JC G) ?_;refine aE (ak (aa rfl<|aa (ak (aa rfl<|aa (eZ rfl rfl<|tW _) rfl) pu) rfl)<|kA _)<|aE (ak (aa rfl<|aa (ak (aa rfl<|aa (eZ rfl rfl<|tW _) rfl) pv) rfl)<|kD _) ?_;refine M0 (λM b=>D=b/\∃f,Bk B E n f/\M=[OD,on<|.sh .bag,on<|.sh<|ao g,on<|.sh<|la B,on<|.sh<|cY a (wB B n) (la B) E n,on<|.sh<|ao A,on<|.sh<|ao f,OD,OD,OD,OD,OD,OD,OD]) ?_ ?_
 .refine am (jM (β1:=D) (et<|cc (ak rfl pw) rfl Pu.eq_int) ?_)
  by_cases q:w=0
  .rw[OS<|O3 q]
   exact aE (ak rfl<|C j _)<|BB ⟨rfl,A,j,rfl⟩
  .rw[OR<|by simpa using q]
   exact aU<|BB ⟨rfl,D0,V,rfl⟩
 rintro M _ ⟨rfl,f,t,rfl⟩;have tA:=j.tab G;have tD:=t.tab G;obtain⟨T,eT,oT,fT⟩:=Gz (K:=K) (a:=a) (β:=D) tA tD ⟨j.rw1.trans t.rw1.symm,j.cl1.trans t.cl1.symm⟩;refine aE (d:=two A f) (β1:=D) (ai (aa (ak rfl<|C j _)<|aa (ak rfl<|C t _) rfl) rfl) ?_;refine aE (d:= .lst<|T.map cg) (β1:=D) (ak (aa (cc rfl rfl rfl)<|aa (cc rfl rfl rfl) rfl) eT) ?_;refine bP (β1:=D) (cj (et<|cc (y:=two A f) rfl (ai rfl rfl)<|pW<|MD A f)<|c8 (c:=OK)<|c7 (x:= .bl OK) (ai rfl rfl) rfl)<|aU ?_;refine aE (d:= .int 0) (β1:=D) rfl ?_;refine BD j.shp t.shp (by lia) (by lia) λI J=>?_;refine bP (β1:=D) (et<|cc (ai rfl<|bG (r:=T.length)<|by rw[OC]) rfl<|Pu.gt_int.trans<|by rw[Pt (by have:=rb.len j.shp oT;lia)])<|aU ?_;refine aE (d:=ao A) (β1:=D) rfl ?_;refine bH (ds:=T.map cg) (β1:=D) rfl (λi M b=>D=b/\∃X F,Bk B E n X/\rb E.length n.length f (T.drop i) X/\(∀p q,p<E.length->q<n.length->gp (gf (T.drop i) X) p q=gp f p q)/\M=YJ (ao g) (la B) (cY a (wB B n) (la B) E n) (ao A) (ao f) (two A f) (.lst<|T.map cg) (YU E.length n.length A f) I J (on<|.sh<|ao X) F) ⟨rfl,A,OD,j,oT,fT,rfl⟩ ?_ ?_
 .rintro i d M _ hd ⟨rfl,X,F,H,N,O,rfl⟩
  obtain⟨x,hx,rfl⟩:=bE hd;have hi:=(OM.mp hx).1;rw[PU hi,(OM.mp hx).2]at N O;obtain⟨m,L⟩:=x;obtain⟨R,N⟩:=N;have z:=H.step t R;obtain⟨kn,k1,k2⟩:=MM (K:=K) (a:=a) G z;refine⟨YJ (ao g) (la B) (cY a (wB B n) (la B) E n) (ao A) (ao f) (two A f) (.lst<|T.map cg) (YU E.length n.length A f) I J (on<|.sh<|ao X)<|on<|.sh<|cg (m,L),rfl,?_⟩;refine bP (β1:=D) (cj (c8 (c:=OK)<|c7 (x:= .bl OK) (ak rfl<|JS R H.shp r1 r4) rfl)<|c8 (c:=OK)<|c7 (x:= .bl OK) (ak rfl<|BK R H.shp t.shp) rfl)<|aU ?_;refine aE (d:=ao<|bC m 0 L X) (β1:=D) (ak rfl<|sV (by lia) H.shp R.rng) ?_;refine bP (β1:=D) (c8 (c:=OK)<|c7 (x:= .bl OK) (ak (aa rfl<|aa (ak rfl<|x1 _)<|aa (ak rfl<|x2 _)<|aa rfl rfl)<|J5 G z) rfl)<|aU ?_;exact am<|bP (β1:=D) (et<|cc (ak (aa rfl<|aa (ak rfl<|k2 _) rfl)<|k1 _) rfl<|pW<|yt _)<|aU<|aY ⟨rfl,_,_,z,N,O,rfl⟩
 rintro M _ ⟨rfl,X,F,H,N,O,rfl⟩;rw[OC,SF]at O;have e:X=f:=GW H.shp t.shp O;subst e;exact am<|aO (cc rfl rfl<|yt _) rfl
end
end Law
namespace L2.Pu
open PySem.W
section
variable{j:String->Option Builtin}{p:Py}{w:PD}{f:Nat}{g:Option OP}{i:V3}{q:TF}
theorem bn(k:Nat){n N:Nat}{s E r:OT}{b:a0R}{c:Code}{D a:TF}(h:segRun j p w f g 1 n s (piecesOf (b.take k) i c D [Xo q])=on (.next,E,c,a))
  (d:topRun j p w f g N E (restOf (b.drop k) i c a [Xo q])=on r):topRun j p w f g (n+N) s (restOf b i c D [Xo q])=on r:=by
 have:=piece_app h d;rwa[Sn]at this
theorem GV{N:Nat}{s r:OT}{b:a0R}{c:Code}{D:TF}(e:b=[])(k:topRun j p w f g N s ⟨doneF .next,c,D,[Xo q]⟩=on r):topRun j p w f g N s (restOf b i c D [Xo q])=on r:=by
 subst e;exact piece_nil k
end
end L2.Pu
namespace Law
open L2 L2.Pu
noncomputable abbrev E(P:WA)(n:PP)(t:Nat)(v:OP):Ti:=⟨PyData.keyHash P<|n,.str (n) t,v⟩
noncomputable abbrev FN(x q:PP)(s:Qd)(b c a d:OP)(e:a0X)(w D:OP):Pd:=S6 x q (jK s) (cI s) (ag s) b c a d e w D
noncomputable abbrev fO(f:Pd):Qk:=⟨.type "function",OD,.func f,#[]⟩
noncomputable abbrev tO(l:a0g):Qk:=⟨.type "tuple",OD,.seq l.toArray 0,#[]⟩
noncomputable abbrev cO(l:a0g):Qk:=⟨.type "code",OD,.fields l.toArray,#[]⟩
noncomputable abbrev eR(P:WA)(n:PP)(t r:Nat):Ti:=E P n t<|.ref r
noncomputable abbrev nO(l:a0g):Qk:=⟨.none,OD,.fields l.toArray,#[]⟩
noncomputable abbrev fB(x q:PP)(s:Qd):Qk:=⟨.none,OD,.func ⟨x,q,jK s,.stmts<|cI s,ag s,0,[],.none,.none,.none,.none,OD,.none,.none,0⟩,#[]⟩
noncomputable abbrev cC(n q:PP)(t l a D c fl r:Nat)(b:Bool)(d e:Nat)(x y z w:OP)(u f v:Nat):Qk:=cO [.str n t,.str q<|t+1,.str "/claim/cut.py"<|t+2,.int l 0,.int a 0,.int D 0,.int c 0,.int fl 0,.ref r,.bool b,.int d 0,.ref e,x,y,z,w,.int u 0,.int f 0,.str "/claim/cut.py" v]
abbrev eTt:a0g:=[(.ref 38),(.type "ValueError"),(.type "Exception"),(.type "BaseException"),(.type "object")]
noncomputable abbrev xOo(x:PP)(a d b t u:Nat):Qk:=⟨(.type "type"),OD,(.cls ⟨x,[(.ref 38)],(.ref a)::eTt,d,x,OK,[],[],OO,OD,OO⟩),#[(on<|.ref b),OD,(on<|.str x t),(on<|.str x u),(on<|.builtin "ValueError.__new__"),(on<|.bool OK)]⟩
noncomputable abbrev iSs(n:Nat):Qk:=⟨(.type "builtin_function_or_method"),OD,(.fields #[(.builtin "object.__init_subclass__"),(.ref n)]),#[]⟩
noncomputable abbrev p_:OP:= .str "edgetally.errors" 194
noncomputable abbrev B_:OP:= .str "edgetally.net" 584
noncomputable abbrev H_:OP:= .str "EdgeError" 204
noncomputable abbrev O_:OP:= .str "EdgeError" 196
noncomputable abbrev tx4:OP:= .str "__main__" 164
noncomputable def trL:a0a->a0g
 |a::b::c::l=> .int a 0:: .int b 0:: .ref c::trL l
 |_=>[]
noncomputable abbrev nT(l:a0a):Qk:=nO<|trL l
noncomputable def stL:Nat->a0h->a0g
 |_,[]=>[]
 |t,x::l=> .str x t::stL (t+1) l
noncomputable abbrev tS(t:Nat)(l:a0h):Qk:=tO<|stL t l
noncomputable def fD(o:Qk):Pd:=match o.data with
 | .func f=>f
 |_=>FN "" "" (c4 0) .none .none .none .none OD .none .none
abbrev T5:=PP×PP×Nat×Nat×a0h
noncomputable abbrev h5(x:PP)(l a:Nat)(n:a0h):T5:=(x,x,l,a,n)
def zN:a0h->Nat
 |[]=>4
 |_=>6
def uN(d k:OP)(b:Nat)(v:OP)(s:Qd)(x q:PP)(r t l a:Nat)(n:a0h):a0K:=[tO [],nO []]++(match n with|[]=>[]|_=>[tS (t+3) n,tO []])++[fB x q s,match n with|[]=>cC x q t l a 0 b 3 r OK 181 (r+1) .none .none .none (.ref<|r+2) (t+3) l (t+4)|_=>cC x q t l a 0 b 3 r OK 181 (r+1) .none (.ref<|r+2) (.ref<|r+3) (.ref<|r+4) (t+3+n.length) l<|t+4+n.length,fO<|FN x q s d k .none v OD (.ref<|r+zN n-1) .none]
def gO(v:OP)(s:Nat->Qd):Nat->Nat->Nat->List T5->a0K
 |i,r,t,(x,q,l,a,n)::L=>uN .none .none 0 v (s i) x q r t l a n++gO v s (i+1) (r+zN n+1) (t+n.length+6) L
 |_,_,_,_=>[]
def gM(P:WA):Nat->Nat->List T5->List Ti
 |r,t,(x,_,_,_,n)::L=>E P x (t+n.length+5) (.ref<|r+zN n)::gM P (r+zN n+1) (t+n.length+6) L
 |_,_,_=>[]
def gA:Nat->List T5->a0o
 |r,(_,_,_,_,n)::L=>(r+zN n-1)::(r+zN n)::gA (r+zN n+1) L
 |_,_=>[]
noncomputable def fk(L:a0K)(i:Nat):Pd:=fD<|L.getD i<|tO []
noncomputable abbrev ZD(a b:Nat)(v:OP):Qk:=⟨(.type "frame"),OD,.plain,#[(on<|.ref a),(on<|.ref 3),(on<|.ref b),OD,(on v),OD,(on<|.ref 0)]⟩
noncomputable abbrev ZZ(a:Nat):Qk:=⟨(.type "super"),OD,(.fields #[(.ref a),(.ref a),(.ref a)]),#[]⟩
noncomputable def b23:Qk:=⟨(.type "builtin_function_or_method"),OD,(.fields #[(.builtin "type.__prepare__"),(.type "type")]),#[]⟩
def uE(P:WA)(i R T l:Nat)(x q:PP)(d n c:a0h):a0K:=let M:=R+7+d.length;let t:=T+12+d.length;let u:=t+5+n.length;let y:=E P "__module__" (T+7) p_;let z:=[E P "__firstlineno__" (T+11)<|.int l<|T+10,eR P "__init__" u<|M+6,eR P "__static_attributes__" (u+1+c.length)<|M+7];[tO [.ref 38],b23,⟨.type "dict",OD,.dict (y::E P "__qualname__" (T+9) (.str x<|T+8)::z).toArray 5,#[]⟩,tO [],nT [l+2,4,M+5],cC x x (T+2) l 0 0 0 0 (R+3) OO 181 (R+4) .none .none .none .none (T+5) l<|T+6,ZD (R+5) (R+2) p_]++(match d with|[]=>[]|_=>[tS (T+12) d])++uN (match d with|[]=> .none|_=> .ref<|R+7) .none 0 p_ (eL (c4 i) 0) "__init__" q M t (l+2) n.length n++[tS (u+1) c,⟨.type "dict",OD,.dict (y::z++[E P "__doc__" (u+2+c.length) .none]).toArray 2,#[]⟩,xOo x (M+9) (M+8) R T<|T+8,ZZ<|M+9,iSs<|M+9]
section
variable(P:WA)
def llA:List T5:=[h5 "_wall" 1 1 ["k"]]
def rrA:a0K:=gO tx4 c4 0 15 187 llA
def Zy:List T5:=[("__init__","EdgeError.__init__",7,3,["self","word","why"])]
def rrB:a0K:=gO p_ (eL<|c4 2) 0 29 208 Zy
def llD:List T5:=[h5 "check_rows" 48 1 [],h5 "check_sums" 60 2 [],h5 "check_pair" 71 1 ["pair","low","high"],h5 "settled_bounds" 75 3 [],h5 "rows_turned" 84 1 []]
def YX:a0K:=gO (.str "edgetally.bounds" 401) c4 16 187 418 llD
def llE:List T5:=[h5 "sums_of" 87 1 [],h5 "gaps_between" 89 2 [],h5 "first_giving" 91 1 ["gaps","row","cells"],h5 "giving_column" 96 2 [],h5 "taking_row" 98 2 [],h5 "loop_cells" 100 2 ["gaps","row","come_to","cells","column"],h5 "walked" 110 2 [],h5 "loops" 116 2 []]
def I_:a0K:=gO (.str "edgetally.loops" 451) c4 22 214 453 llE
def llF:List T5:=[h5 "factorial" 132 1 ["number","product","factor"],h5 "ways" 137 1 ["parts","part","told"],h5 "fillings" 145 3 []]
def Zw:a0K:=gO (.str "edgetally.counts" 509) c4 31 258 511 llF
def llG:List T5:=[h5 "need_of" 155 2 [],h5 "room_inside" 157 4 [],h5 "room_beside" 160 3 [],h5 "room_of" 162 4 [],h5 "narrowest" 164 3 [],h5 "choices" 166 1 [],h5 "check_fit" 171 3 ["rowsums","columnsums","bounds","over","into"]]
def Q_:a0K:=gO (.str "edgetally.fits" 535) c4 35 277 537 llG
def llH:List T5:=[h5 "check_wide" 178 1 ["rowsums","wide","many"],h5 "settled_for_net" 184 3 ["rowsums","columnsums","bounds","settled"],h5 "column_fillings" 189 4 [],h5 "rests_behind" 191 2 [],h5 "nodes_by_level" 193 3 [],h5 "node_counts" 201 3 ["rests","filled","behind","tables","dealings","counts","tables_behind","dealings_behind"],h5 "counted_nodes" 209 3 []]
def P_:a0K:=gO B_ c4 44 314 588 llH
def llJ:List T5:=[("__eq__","Net.__eq__",229,2,["self","other"]),("__len__","Net.__len__",232,1,["self"]),("rowsums","Net.rowsums",235,1,["self"]),("columnsums","Net.columnsums",238,1,["self"]),("bounds","Net.bounds",241,1,[]),("counts_at","Net.counts_at",244,3,["self","level","rests"]),("tables","Net.tables",247,1,["self"]),("dealings","Net.dealings",250,1,["self"]),("steps","Net.steps",253,3,[]),("paper","Net.paper",258,1,["self"])]
def YW:a0K:=gO B_ (eL<|c4 51) 1 370 669 llJ
def llK:List T5:=[h5 "check_number" 261 2 ["k","many"],h5 "steps_counted" 264 3 ["net","level","rests","told","counts","tables","dealings"],h5 "falls_to" 270 2 ["numbered","k","at"],h5 "kth_table" 276 2 [],h5 "columns_asked" 286 2 [],h5 "counted_ahead" 291 4 ["net","level","rests","filling","tables_ahead","dealings_ahead","counts","tables","dealings"],h5 "number_of" 300 2 ["net","rows","rests","number","level","filling"]]
def PJ:a0K:=gO (.str "edgetally.order" 753) c4 53 443 755 llK
def llL:List T5:=[h5 "_law_bag" 308 1 [],h5 "_law_pull" 310 2 ["_law_bag_here","_law_lot","_law_cells","_law_at","_law_cell"],h5 "_law_grid" 320 4 [],h5 "_law_wide" 327 1 ["_law_bag_here","_law_grid_here","_law_lot","_law_first"],h5 "_law_large" 333 1 ["_law_bag_here","_law_way","_law_block","_law_columns"],h5 "_law_turned" 344 1 [],h5 "_law_rowsums" 346 1 [],h5 "_law_columnsums" 348 1 [],h5 "_law_free" 350 2 [],h5 "_law_bounds" 352 2 ["_law_bag_here","_law_grid_here","_law_told","_law_at","_law_row","_law_to","_law_count","_law_way"],h5 "_law_copied" 364 1 [],h5 "_law_net" 366 2 ["_law_grid_here","_law_limits"],h5 "_law_good" 368 4 ["_law_block","_law_rowsums_here","_law_columnsums_here","_law_limits","_law_row","_law_count","_law_pairs","_law_duo"],h5 "_law_whole" 384 1 ["_law_found"],h5 "_law_form" 386 2 ["_law_loop","_law_block","_law_cells","_law_cell","_law_k","_law_other"],h5 "_law_toward" 402 3 ["_law_loop","_law_one","_law_other","_law_k","_law_cell","_law_apart"],h5 "law" 410 1 []]
def oX:a0K:=gO (.str "law_edgetally_k47_whole_loops_lead_there" 824) c4 61 488 826 llL
def rrC:a0K:=uN .none (.ref 181) 1 (.str "edgetally.bounds" 401) (c4 15) "free" "free" 182 412 46 2 []
def rrI:a0K:=uN .none (.ref 362) 1 B_ (eL (c4 51) 0) "__init__" "Net.__init__" 363 658 221 3 ["self","rowsums","columnsums","bounds","settled"]
def mL:List Ti:=(E P "__name__" 165<|.str "law_edgetally_k47_whole_loops_lead_there" 824)::((match(XT P).data with| .dict e _=>e.toList|_=>[]).drop 1)++gM P 15 187 llA++[(eR P "EdgeError" 223 38),(eR P "BadTable" 248 59),(eR P "BadSums" 273 79),(eR P "BadBounds" 298 99),(eR P "TooWide" 323 118),(eR P "Barred" 350 137),(eR P "BadNumber" 375 157),(eR P "NoTable" 400 177),(E P "MOST" 404<|.int 40 403),(E P "MOST_ROWS" 406<|.int 4 405),(E P "MOST_COLUMNS" 408<|.int 6 407),(eR P "FREE" 410 180),(eR P "free" 417 186)]++gM P 187 418 llD++gM P 214 453 llE++gM P 258 511 llF++gM P 277 537 llG++[(E P "WIDE" 587<|.int 500 586)]++gM P 314 588 llH++[(eR P "Net" 752 438)]++gM P 443 755 llK++gM P 488 826 llL
def lK(n:Nat)(v:OP):Qk:=⟨.type "dict",OD,.dict (((mL P).take n).set 0<|E P "__name__" 165 v).toArray n,#[]⟩
noncomputable def b3:Qk:=⟨(.type "dict"),OD,(.dict (mL P).toArray 79),#[]⟩
def b7:Qk:=tO []
def j0:a0a:=[1,0,20,5,0,27,10,0,47,14,0,67,18,0,87,22,0,107,27,0,126,33,0,145,37,0,165,46,0,185,48,0,190,60,0,195,71,0,202,75,0,207,84,0,212,87,0,217,89,0,222,91,0,229,96,0,234,98,0,239,100,0,246,110,0,251,116,0,256,132,0,263,137,0,270,145,0,275,155,0,280,157,0,285,160,0,290,162,0,295,164,0,300,166,0,305,171,0,312,178,0,319,184,0,326,189,0,331,191,0,336,193,0,341,201,0,348,209,0,353,219,0,360,261,0,448,264,0,455,270,0,462,276,0,467,286,0,472,291,0,479,300,0,486,308,0,491,310,0,498,320,0,503,327,0,510,333,0,517,344,0,522,346,0,527,348,0,532,350,0,537,352,0,544,364,0,549,366,0,556,368,0,563,384,0,570,386,0,577,402,0,584,410,0,589]
def b12:Qk:=nT j0
def b13:Qk:=cC "<module>" "<module>" 182 1 0 0 0 0 11 OO 181 12 .none .none .none .none 185 1 186
def b14:Qk:=ZD 13 3 tx4
def b22:Qk:=tO [(.type "ValueError")]
def b24:Qk:=⟨(.type "dict"),OD,(.dict ([(E P "__module__" 203 p_),(E P "__qualname__" 205 H_),(E P "__firstlineno__" 207<|.int 5 206)]++gM P 29 208 Zy++[(eR P "__static_attributes__" 218 36)]).toArray 5),#[]⟩
def b26:Qk:=nT [7,4,34]
def b27:Qk:=cC "EdgeError" "EdgeError" 198 5 0 0 0 0 25 OO 181 26 .none .none .none .none 201 5 202
def b28:Qk:=ZD 27 24 p_
def b36:Qk:=tS 217 ["word"]
def b37:Qk:=⟨(.type "dict"),OD,(.dict ([(E P "__module__" 203 p_),(E P "__firstlineno__" 207<|.int 5 206)]++gM P 29 208 Zy++[(eR P "__static_attributes__" 218 36),(eR P "__weakref__" 220 39),(E P "__doc__" 221 .none)]).toArray 3),#[]⟩
def b38:Qk:=⟨(.type "type"),OD,(.cls ⟨"EdgeError",[(.type "ValueError")],[(.ref 38),(.type "ValueError"),(.type "Exception"),(.type "BaseException"),(.type "object")],37,"EdgeError",OK,[],[(.ref 59),(.ref 79),(.ref 99),(.ref 118),(.ref 137),(.ref 157),(.ref 177)],OO,OD,OO⟩),#[(on<|.ref 22),OD,(on O_),(on H_),(on<|.builtin "ValueError.__new__"),(on<|.bool OK)]⟩
noncomputable def b39:Qk:=⟨(.type "getset_descriptor"),OD,(.fields #[(.str "__weakref__" 219),(.ref 38),(.builtin "ExceptionGroup.__weakref__"),.none]),#[]⟩
def b40:Qk:=ZZ 38
def b41:Qk:=iSs 38
def b180:Qk:=tO [(.int 0 409),(.int 40 403)]
def b181:Qk:=⟨(.type "dict"),OD,(.dict #[(eR P "pair" 411 180)] 1),#[]⟩
def b357:Qk:=⟨(.type "dict"),OD,(.dict ([(E P "__module__" 652 B_),(E P "__qualname__" 654<|.str "Net" 653),(E P "__firstlineno__" 656<|.int 219 655),(eR P "__init__" 668 369)]++gM P 370 669 llJ++[(eR P "__static_attributes__" 744 436)]).toArray 15),#[]⟩
def b359:Qk:=nT [221,4,368,229,4,375,232,4,382,235,4,389,238,4,396,241,4,401,244,4,408,247,4,415,250,4,422,253,4,427,258,4,434]
def b360:Qk:=cC "Net" "Net" 647 219 0 0 0 0 358 OO 181 359 .none .none .none .none 650 219 651
def b361:Qk:=ZD 360 357 B_
def b362:Qk:=⟨(.type "dict"),OD,(.dict #[(E P "bounds" 657 .none)] 1),#[]⟩
def b436:Qk:=tS 740 ["column_list","counted","pairs","row_list"]
def b437:Qk:=⟨(.type "dict"),OD,(.dict ([(E P "__module__" 652 B_),(E P "__firstlineno__" 656<|.int 219 655),(eR P "__init__" 668 369)]++gM P 370 669 llJ++[(eR P "__static_attributes__" 744 436),(eR P "__dict__" 746 439),(eR P "__weakref__" 748 440),(E P "__doc__" 749 .none),(E P "__hash__" 750 .none)]).toArray 5),#[]⟩
noncomputable def b438:Qk:=⟨(.type "type"),OD,(.cls ⟨"Net",[(.type "object")],[(.ref 438),(.type "object")],437,"Net",OK,[],[],OO,OD,OO⟩),#[OD,OD,(on<|.str "Net" 645),(on<|.str "Net" 653),(on<|.builtin "object.__new__"),(on<|.bool OK)]⟩
noncomputable def b439:Qk:=⟨(.type "getset_descriptor"),OD,(.fields #[(.str "__dict__" 745),(.ref 438),(.builtin "function.__dict__"),(.builtin "function.__dict__#set")]),#[]⟩
noncomputable def b440:Qk:=⟨(.type "getset_descriptor"),OD,(.fields #[(.str "__weakref__" 747),(.ref 438),(.builtin "ExceptionGroup.__weakref__"),.none]),#[]⟩
def b441:Qk:=ZZ 438
def b442:Qk:=iSs 438
def N8:Qk:=nT<|j0.take 3
def k1_3:Qk:=lK P 10 p_
def N0:Qk:=nT<|j0.take 6
def k2_3:Qk:=lK P 11 p_
def NZ:Qk:=⟨(.type "type"),OD,(.cls ⟨"EdgeError",[(.type "ValueError")],[(.ref 38),(.type "ValueError"),(.type "Exception"),(.type "BaseException"),(.type "object")],37,"EdgeError",OK,[],[],OO,OD,OO⟩),#[(on<|.ref 22),OD,(on O_),(on H_),(on<|.builtin "ValueError.__new__"),(on<|.bool OK)]⟩
def NY:Qk:=nT<|j0.take 9
def k3_3:Qk:=lK P 12 p_
def NX:Qk:=⟨(.type "type"),OD,(.cls ⟨"EdgeError",[(.type "ValueError")],[(.ref 38),(.type "ValueError"),(.type "Exception"),(.type "BaseException"),(.type "object")],37,"EdgeError",OK,[],[(.ref 59)],OO,OD,OO⟩),#[(on<|.ref 22),OD,(on O_),(on H_),(on<|.builtin "ValueError.__new__"),(on<|.bool OK)]⟩
def NW:Qk:=nT<|j0.take 12
def k4_3:Qk:=lK P 13 p_
def NV:Qk:=⟨(.type "type"),OD,(.cls ⟨"EdgeError",[(.type "ValueError")],[(.ref 38),(.type "ValueError"),(.type "Exception"),(.type "BaseException"),(.type "object")],37,"EdgeError",OK,[],[(.ref 59),(.ref 79)],OO,OD,OO⟩),#[(on<|.ref 22),OD,(on O_),(on H_),(on<|.builtin "ValueError.__new__"),(on<|.bool OK)]⟩
def NU:Qk:=nT<|j0.take 15
def k5_3:Qk:=lK P 14 p_
def NT:Qk:=⟨(.type "type"),OD,(.cls ⟨"EdgeError",[(.type "ValueError")],[(.ref 38),(.type "ValueError"),(.type "Exception"),(.type "BaseException"),(.type "object")],37,"EdgeError",OK,[],[(.ref 59),(.ref 79),(.ref 99)],OO,OD,OO⟩),#[(on<|.ref 22),OD,(on O_),(on H_),(on<|.builtin "ValueError.__new__"),(on<|.bool OK)]⟩
def NS:Qk:=nT<|j0.take 18
def k6_3:Qk:=lK P 15 p_
def NR:Qk:=⟨(.type "type"),OD,(.cls ⟨"EdgeError",[(.type "ValueError")],[(.ref 38),(.type "ValueError"),(.type "Exception"),(.type "BaseException"),(.type "object")],37,"EdgeError",OK,[],[(.ref 59),(.ref 79),(.ref 99),(.ref 118)],OO,OD,OO⟩),#[(on<|.ref 22),OD,(on O_),(on H_),(on<|.builtin "ValueError.__new__"),(on<|.bool OK)]⟩
def NQ:Qk:=nT<|j0.take 21
def k7_3:Qk:=lK P 16 p_
def NP:Qk:=⟨(.type "type"),OD,(.cls ⟨"EdgeError",[(.type "ValueError")],[(.ref 38),(.type "ValueError"),(.type "Exception"),(.type "BaseException"),(.type "object")],37,"EdgeError",OK,[],[(.ref 59),(.ref 79),(.ref 99),(.ref 118),(.ref 137)],OO,OD,OO⟩),#[(on<|.ref 22),OD,(on O_),(on H_),(on<|.builtin "ValueError.__new__"),(on<|.bool OK)]⟩
def NO:Qk:=nT<|j0.take 24
def k8_3:Qk:=lK P 17 p_
def NN:Qk:=⟨(.type "type"),OD,(.cls ⟨"EdgeError",[(.type "ValueError")],[(.ref 38),(.type "ValueError"),(.type "Exception"),(.type "BaseException"),(.type "object")],37,"EdgeError",OK,[],[(.ref 59),(.ref 79),(.ref 99),(.ref 118),(.ref 137),(.ref 157)],OO,OD,OO⟩),#[(on<|.ref 22),OD,(on O_),(on H_),(on<|.builtin "ValueError.__new__"),(on<|.bool OK)]⟩
def NM:Qk:=nT<|j0.take 27
def k9_3:Qk:=lK P 18 p_
def Mi:Qk:=nT<|j0.take 33
noncomputable def Oi:Qk:=lK P 24<|.str "edgetally.bounds" 401
def Mg:Qk:=nT<|j0.take 45
noncomputable def Oh:Qk:=lK P 28<|.str "edgetally.loops" 451
def Me:Qk:=nT<|j0.take 57
noncomputable def Og:Qk:=lK P 32<|.str "edgetally.loops" 451
def Mc:Qk:=nT<|j0.take 69
noncomputable def Of:Qk:=lK P 36<|.str "edgetally.counts" 509
def Ma:Qk:=nT<|j0.take 78
noncomputable def Oe:Qk:=lK P 39<|.str "edgetally.fits" 535
def L8:Qk:=nT<|j0.take 90
noncomputable def Od:Qk:=lK P 43<|.str "edgetally.fits" 535
def L6:Qk:=nT<|j0.take 99
def Oc:Qk:=lK P 47 B_
def L0:Qk:=nT<|j0.take 111
def Ob:Qk:=lK P 51 B_
def LY:Qk:=nT<|j0.take 120
def Oa:Qk:=lK P 54 B_
def LW:Qk:=nT<|j0.take 123
def N9:Qk:=lK P 55 B_
def LU:Qk:=nT<|j0.take 132
noncomputable def N7:Qk:=lK P 58<|.str "edgetally.order" 753
def LS:Qk:=nT<|j0.take 141
noncomputable def N6:Qk:=lK P 61<|.str "edgetally.order" 753
def LQ:Qk:=nT<|j0.take 150
noncomputable def N5:Qk:=⟨(.type "dict"),OD,(.dict ((mL P).take 64).toArray 64),#[]⟩
def LN:Qk:=nT<|j0.take 162
noncomputable def N4:Qk:=⟨(.type "dict"),OD,(.dict ((mL P).take 68).toArray 68),#[]⟩
def LL:Qk:=nT<|j0.take 174
noncomputable def N3:Qk:=⟨(.type "dict"),OD,(.dict ((mL P).take 72).toArray 72),#[]⟩
def LJ:Qk:=nT<|j0.take 183
noncomputable def N2:Qk:=⟨(.type "dict"),OD,(.dict ((mL P).take 75).toArray 75),#[]⟩
def LG:Qk:=nT<|j0.take 192
noncomputable def N1:Qk:=⟨(.type "dict"),OD,(.dict ((mL P).take 78).toArray 78),#[]⟩
def kL:a0K:=((XD P).objs.toList.set 3<|b3 P)++[b7,b12,b13,b14]++rrA++[b22,b23,b24 P,b7,b26,b27,b28]++rrB++[b36,b37 P,b38,b39,b40,b41]++uE P 3 42 224 10 "BadTable" "BadTable.__init__" ["these rows are no table's"] ["self","why"] []++uE P 4 62 249 14 "BadSums" "BadSums.__init__" ["these sums are no table's"] ["self","why"] []++uE P 5 82 274 18 "BadBounds" "BadBounds.__init__" ["these bounds are no table's"] ["self","why"] []++uE P 6 102 299 22 "TooWide" "TooWide.__init__" [] ["self","wide"] ["wide"]++uE P 7 121 324 27 "Barred" "Barred.__init__" [] ["self","over","into"] ["into","over"]++uE P 8 140 351 33 "BadNumber" "BadNumber.__init__" ["this number is out of its bounds"] ["self","why"] []++uE P 9 160 376 37 "NoTable" "NoTable.__init__" ["the net has no such table"] ["self","why"] []++[b180,b181 P]++rrC++YX++I_++Zw++Q_++P_++[b7,b23,b357 P,b7,b359,b360,b361,b362 P]++rrI++YW++[b436,b437 P,b438,b439,b440,b441,b442]++PJ++oX
abbrev YL:PZ:=XD P
def ZC:PZ:=⟨⟨(((kL P).take 15).set 3<|XT P).set 12<|nO []⟩,{}⟩
def k1H:PZ:=⟨⟨(((kL P).take 22).set 3<|k1_3 P).set 12<|N8⟩,{}⟩
def k2H:PZ:=⟨⟨((((kL P).take 42).set 3<|k2_3 P).set 12<|N0).set 38<|NZ⟩,{}⟩
def k3H:PZ:=⟨⟨((((kL P).take 62).set 3<|k3_3 P).set 12<|NY).set 38<|NX⟩,{}⟩
def k4H:PZ:=⟨⟨((((kL P).take 82).set 3<|k4_3 P).set 12<|NW).set 38<|NV⟩,{}⟩
def k5H:PZ:=⟨⟨((((kL P).take 102).set 3<|k5_3 P).set 12<|NU).set 38<|NT⟩,{}⟩
def k6H:PZ:=⟨⟨((((kL P).take 121).set 3<|k6_3 P).set 12<|NS).set 38<|NR⟩,{}⟩
def k7H:PZ:=⟨⟨((((kL P).take 140).set 3<|k7_3 P).set 12<|NQ).set 38<|NP⟩,{}⟩
def k8H:PZ:=⟨⟨((((kL P).take 160).set 3<|k8_3 P).set 12<|NO).set 38<|NN⟩,{}⟩
def k9H:PZ:=⟨⟨(((kL P).take 180).set 3<|k9_3 P).set 12<|NM⟩,{}⟩
def Mj:PZ:=⟨⟨(((kL P).take 192).set 3<|Oi P).set 12<|Mi⟩,{}⟩
def Mh:PZ:=⟨⟨(((kL P).take 214).set 3<|Oh P).set 12<|Mg⟩,{}⟩
def Mf:PZ:=⟨⟨(((kL P).take 236).set 3<|Og P).set 12<|Me⟩,{}⟩
def Md:PZ:=⟨⟨(((kL P).take 258).set 3<|Of P).set 12<|Mc⟩,{}⟩
def Mb:PZ:=⟨⟨(((kL P).take 277).set 3<|Oe P).set 12<|Ma⟩,{}⟩
def L9:PZ:=⟨⟨(((kL P).take 297).set 3<|Od P).set 12<|L8⟩,{}⟩
def L7:PZ:=⟨⟨(((kL P).take 314).set 3<|Oc P).set 12<|L6⟩,{}⟩
def L5:PZ:=⟨⟨(((kL P).take 338).set 3<|Ob P).set 12<|L0⟩,{}⟩
def LZ:PZ:=⟨⟨(((kL P).take 355).set 3<|Oa P).set 12<|LY⟩,{}⟩
def LX:PZ:=⟨⟨(((kL P).take 443).set 3<|N9 P).set 12<|LW⟩,{}⟩
def LV:PZ:=⟨⟨(((kL P).take 464).set 3<|N7 P).set 12<|LU⟩,{}⟩
def LT:PZ:=⟨⟨(((kL P).take 481).set 3<|N6 P).set 12<|LS⟩,{}⟩
def LR:PZ:=⟨⟨(((kL P).take 500).set 3<|N5 P).set 12<|LQ⟩,{}⟩
def LO:PZ:=⟨⟨(((kL P).take 524).set 3<|N4 P).set 12<|LN⟩,{}⟩
def LM:PZ:=⟨⟨(((kL P).take 546).set 3<|N3 P).set 12<|LL⟩,{}⟩
def LK:PZ:=⟨⟨(((kL P).take 565).set 3<|N2 P).set 12<|LJ⟩,{}⟩
def LH:PZ:=⟨⟨(((kL P).take 586).set 3<|N1 P).set 12<|LG⟩,{}⟩
noncomputable def wl:PZ:=⟨⟨kL P⟩,{}⟩
end
noncomputable def aH:a0o:=[2,3]++gA 29 Zy++[37,38,180,181,185,186]++gA 187 llD++gA 214 llE++gA 258 llF++gA 277 llG++gA 314 llH++[362,368,369,389,390,396,397,408,409,415,416,427,428,437,438]++gA 443 llK++gA 488 llL
def KH(P:WA):Pa:=aH.map λi=>(i,(kL P).getD i<|tO [])
theorem eH:∀P,aH=(KH P).map (·.1):=λ_=>by kernel_rfl
noncomputable def qH:Py:={PySem.Challenge.pw_edgetally_k47_whole_loops_lead_there with main:={PySem.Challenge.pw_edgetally_k47_whole_loops_lead_there.main with body:=[c4 0,c4 2,c4 3,c4 4,c4 5,c4 6,c4 7,c4 8,c4 9,c4 11,c4 12,c4 13,c4 14,c4 16,c4 17,c4 18,c4 19,c4 20,c4 22,c4 23,c4 24,c4 25,c4 26,c4 27,c4 28,c4 29,c4 31,c4 32,c4 33,c4 35,c4 36,c4 37,c4 38,c4 39,c4 40,c4 41,c4 43,c4 44,c4 45,c4 46,c4 47,c4 48,c4 49,c4 50,c4 51,c4 53,c4 54,c4 55,c4 56,c4 57,c4 58,c4 59,c4 61,c4 62,c4 63,c4 64,c4 65,c4 66,c4 67,c4 68,c4 69,c4 70,c4 71,c4 72,c4 73,c4 74,c4 75,c4 76,c4 77]}}
noncomputable abbrev lvH:List (PP×PySem.W.WData):=[("FREE",PySem.W.WData.tuple [Wu 0,Wu 40])]
noncomputable abbrev loH:a0h:=["BadTable","BadSums","BadBounds","BadNumber","NoTable","FREE","free","Net"]
abbrev hkH:=PySem.W.kHook KH aH eH
def xtH(s:OT):Bool:=PySem.W.xlAt qH lvH s&&PySem.W.recOk (PySem.W.RowW.records<|Rl<|RA PM) s
noncomputable abbrev pH:Py:=WB<|Rl<|RA PM
noncomputable def i0:a0R:=PySem.W.behindTheImports pH
noncomputable def jn:V3:={scope:=pH.main.scope,locals:=mainNs,globals:=mainNs,cells:=[],code:=(.ref 13),frame:=(on 14)}
def cH:Code:= .body i0 jn
noncomputable abbrev i_:List Frame:=[PySem.W.topFrame ⟨0,0,0,0⟩]
theorem opH(w:PD):(PySem.W.fencedOpening Pp pH w 8582).map (λs=>(s.heap,s.gens,s.drawn,s.toks))=on (YL w.params,#[],{},181):=by kernel_rfl
theorem szH(w:PD):((YL w.params).isNs Rh&&(#[]:Array GenState).size==0,(YL w.params).objs.size,(YL w.params).nsMap Rh "__annotations__")=(OK,11,(on<|.ref 6)):=by kernel_rfl
theorem r1H(w:PD)(D:QO):PySem.W.topGo Pp pH w 11 (on<|.ref 6) 12 ⟨YL w.params,#[],{},181,D⟩ (Yi pH)=on (⟨ZC w.params,#[],{},187,D⟩,⟨denote Pp<|.body i0 jn,cH,⟨0,0,0,0⟩,i_⟩):=by kernel_rfl
theorem r2H(w:PD)(D:QO):PN Pp pH w 11 (on<|.ref 6) 1 1 ⟨ZC w.params,#[],{},187,D⟩ (PySem.W.blockOf i0 jn cH ⟨0,0,0,0⟩ i_)=on (.next,⟨ZC w.params,#[],{},187,D⟩,cH,⟨0,0,0,0⟩):=by kernel_rfl
theorem c1H(w:PD)(D:QO):PN Pp pH w 11 (on<|.ref 6) 1 39 ⟨ZC w.params,#[],{},187,D⟩ (Px (i0.take 2) jn cH ⟨0,0,0,0⟩ i_)=on (.next,⟨k1H w.params,#[],{},196,D⟩,cH,⟨4,0,4,8⟩):=by kernel_rfl
theorem c2H(w:PD)(D:QO):PN Pp pH w 11 (on<|.ref 6) 1 220 ⟨k1H w.params,#[],{},196,D⟩ (Px ((i0.drop 2).take 1) jn cH ⟨4,0,4,8⟩ i_)=on (.next,⟨k2H w.params,#[],{},224,D⟩,cH,⟨5,0,9,24⟩):=by kernel_rfl
theorem c3H(w:PD)(D:QO):PN Pp pH w 11 (on<|.ref 6) 1 247 ⟨k2H w.params,#[],{},224,D⟩ (Px (((i0.drop 2).drop 1).take 1) jn cH ⟨5,0,9,24⟩ i_)=on (.next,⟨k3H w.params,#[],{},249,D⟩,cH,⟨10,0,13,46⟩):=by kernel_rfl
theorem c4H(w:PD)(D:QO):PN Pp pH w 11 (on<|.ref 6) 1 247 ⟨k3H w.params,#[],{},249,D⟩ (Px ((((i0.drop 2).drop 1).drop 1).take 1) jn cH ⟨10,0,13,46⟩ i_)=on (.next,⟨k4H w.params,#[],{},274,D⟩,cH,⟨14,0,17,45⟩):=by kernel_rfl
theorem c5H(w:PD)(D:QO):PN Pp pH w 11 (on<|.ref 6) 1 247 ⟨k4H w.params,#[],{},274,D⟩ (Px (((((i0.drop 2).drop 1).drop 1).drop 1).take 1) jn cH ⟨14,0,17,45⟩ i_)=on (.next,⟨k5H w.params,#[],{},299,D⟩,cH,⟨18,0,21,47⟩):=by kernel_rfl
theorem c6H(w:PD)(D:QO):PN Pp pH w 11 (on<|.ref 6) 1 246 ⟨k5H w.params,#[],{},299,D⟩ (Px ((((((i0.drop 2).drop 1).drop 1).drop 1).drop 1).take 1) jn cH ⟨18,0,21,47⟩ i_)=on (.next,⟨k6H w.params,#[],{},324,D⟩,cH,⟨22,0,26,24⟩):=by kernel_rfl
theorem c7H(w:PD)(D:QO):PN Pp pH w 11 (on<|.ref 6) 1 248 ⟨k6H w.params,#[],{},324,D⟩ (Px (((((((i0.drop 2).drop 1).drop 1).drop 1).drop 1).drop 1).take 1) jn cH ⟨22,0,26,24⟩ i_)=on (.next,⟨k7H w.params,#[],{},351,D⟩,cH,⟨27,0,32,30⟩):=by kernel_rfl
theorem c8H(w:PD)(D:QO):PN Pp pH w 11 (on<|.ref 6) 1 247 ⟨k7H w.params,#[],{},351,D⟩ (Px ((((((((i0.drop 2).drop 1).drop 1).drop 1).drop 1).drop 1).drop 1).take 1) jn cH ⟨27,0,32,30⟩ i_)=on (.next,⟨k8H w.params,#[],{},376,D⟩,cH,⟨33,0,36,47⟩):=by kernel_rfl
theorem c9H(w:PD)(D:QO):PN Pp pH w 11 (on<|.ref 6) 1 247 ⟨k8H w.params,#[],{},376,D⟩ (Px (((((((((i0.drop 2).drop 1).drop 1).drop 1).drop 1).drop 1).drop 1).drop 1).take 1) jn cH ⟨33,0,36,47⟩ i_)=on (.next,⟨k9H w.params,#[],{},401,D⟩,cH,⟨37,0,40,45⟩):=by kernel_rfl
theorem c10H(w:PD)(D:QO):PN Pp pH w 11 (on<|.ref 6) 1 109 ⟨k9H w.params,#[],{},401,D⟩ (Px ((((((((((i0.drop 2).drop 1).drop 1).drop 1).drop 1).drop 1).drop 1).drop 1).drop 1).take 7) jn cH ⟨37,0,40,45⟩ i_)=on (.next,⟨Mj w.params,#[],{},424,D⟩,cH,⟨48,0,59,60⟩):=by kernel_rfl
theorem c11H(w:PD)(D:QO):PN Pp pH w 11 (on<|.ref 6) 1 119 ⟨Mj w.params,#[],{},424,D⟩ (Px (((((((((((i0.drop 2).drop 1).drop 1).drop 1).drop 1).drop 1).drop 1).drop 1).drop 1).drop 7).take 5) jn cH ⟨48,0,59,60⟩ i_)=on (.next,⟨Mh w.params,#[],{},453,D⟩,cH,⟨86,0,86,8⟩):=by kernel_rfl
theorem c12H(w:PD)(D:QO):PN Pp pH w 11 (on<|.ref 6) 1 110 ⟨Mh w.params,#[],{},453,D⟩ (Px ((((((((((((i0.drop 2).drop 1).drop 1).drop 1).drop 1).drop 1).drop 1).drop 1).drop 1).drop 7).drop 5).take 4) jn cH ⟨86,0,86,8⟩ i_)=on (.next,⟨Mf w.params,#[],{},480,D⟩,cH,⟨96,0,97,53⟩):=by kernel_rfl
theorem c13H(w:PD)(D:QO):PN Pp pH w 11 (on<|.ref 6) 1 121 ⟨Mf w.params,#[],{},480,D⟩ (Px (((((((((((((i0.drop 2).drop 1).drop 1).drop 1).drop 1).drop 1).drop 1).drop 1).drop 1).drop 7).drop 5).drop 4).take 5) jn cH ⟨96,0,97,53⟩ i_)=on (.next,⟨Md w.params,#[],{},511,D⟩,cH,⟨131,0,131,8⟩):=by kernel_rfl
theorem c14H(w:PD)(D:QO):PN Pp pH w 11 (on<|.ref 6) 1 98 ⟨Md w.params,#[],{},511,D⟩ (Px ((((((((((((((i0.drop 2).drop 1).drop 1).drop 1).drop 1).drop 1).drop 1).drop 1).drop 1).drop 7).drop 5).drop 4).drop 5).take 4) jn cH ⟨131,0,131,8⟩ i_)=on (.next,⟨Mb w.params,#[],{},537,D⟩,cH,⟨154,0,154,8⟩):=by kernel_rfl
theorem c15H(w:PD)(D:QO):PN Pp pH w 11 (on<|.ref 6) 1 105 ⟨Mb w.params,#[],{},537,D⟩ (Px (((((((((((((((i0.drop 2).drop 1).drop 1).drop 1).drop 1).drop 1).drop 1).drop 1).drop 1).drop 7).drop 5).drop 4).drop 5).drop 4).take 4) jn cH ⟨154,0,154,8⟩ i_)=on (.next,⟨L9 w.params,#[],{},561,D⟩,cH,⟨162,0,163,157⟩):=by kernel_rfl
theorem c16H(w:PD)(D:QO):PN Pp pH w 11 (on<|.ref 6) 1 104 ⟨L9 w.params,#[],{},561,D⟩ (Px ((((((((((((((((i0.drop 2).drop 1).drop 1).drop 1).drop 1).drop 1).drop 1).drop 1).drop 1).drop 7).drop 5).drop 4).drop 5).drop 4).drop 4).take 5) jn cH ⟨162,0,163,157⟩ i_)=on (.next,⟨L7 w.params,#[],{},588,D⟩,cH,⟨177,0,177,4⟩):=by kernel_rfl
theorem c17H(w:PD)(D:QO):PN Pp pH w 11 (on<|.ref 6) 1 116 ⟨L7 w.params,#[],{},588,D⟩ (Px (((((((((((((((((i0.drop 2).drop 1).drop 1).drop 1).drop 1).drop 1).drop 1).drop 1).drop 1).drop 7).drop 5).drop 4).drop 5).drop 4).drop 4).drop 5).take 4) jn cH ⟨177,0,177,4⟩ i_)=on (.next,⟨L5 w.params,#[],{},619,D⟩,cH,⟨191,0,192,70⟩):=by kernel_rfl
theorem c18H(w:PD)(D:QO):PN Pp pH w 11 (on<|.ref 6) 1 89 ⟨L5 w.params,#[],{},619,D⟩ (Px ((((((((((((((((((i0.drop 2).drop 1).drop 1).drop 1).drop 1).drop 1).drop 1).drop 1).drop 1).drop 7).drop 5).drop 4).drop 5).drop 4).drop 4).drop 5).drop 4).take 3) jn cH ⟨191,0,192,70⟩ i_)=on (.next,⟨LZ w.params,#[],{},645,D⟩,cH,⟨209,0,218,112⟩):=by kernel_rfl
theorem c19H(w:PD)(D:QO):PN Pp pH w 11 (on<|.ref 6) 1 547 ⟨LZ w.params,#[],{},645,D⟩ (Px (((((((((((((((((((i0.drop 2).drop 1).drop 1).drop 1).drop 1).drop 1).drop 1).drop 1).drop 1).drop 7).drop 5).drop 4).drop 5).drop 4).drop 4).drop 5).drop 4).drop 3).take 1) jn cH ⟨209,0,218,112⟩ i_)=on (.next,⟨LX w.params,#[],{},753,D⟩,cH,⟨219,0,259,16⟩):=by kernel_rfl
theorem c20H(w:PD)(D:QO):PN Pp pH w 11 (on<|.ref 6) 1 106 ⟨LX w.params,#[],{},753,D⟩ (Px ((((((((((((((((((((i0.drop 2).drop 1).drop 1).drop 1).drop 1).drop 1).drop 1).drop 1).drop 1).drop 7).drop 5).drop 4).drop 5).drop 4).drop 4).drop 5).drop 4).drop 3).drop 1).take 4) jn cH ⟨219,0,259,16⟩ i_)=on (.next,⟨LV w.params,#[],{},785,D⟩,cH,⟨270,0,275,31⟩):=by kernel_rfl
theorem c21H(w:PD)(D:QO):PN Pp pH w 11 (on<|.ref 6) 1 90 ⟨LV w.params,#[],{},785,D⟩ (Px (((((((((((((((((((((i0.drop 2).drop 1).drop 1).drop 1).drop 1).drop 1).drop 1).drop 1).drop 1).drop 7).drop 5).drop 4).drop 5).drop 4).drop 4).drop 5).drop 4).drop 3).drop 1).drop 4).take 3) jn cH ⟨270,0,275,31⟩ i_)=on (.next,⟨LT w.params,#[],{},812,D⟩,cH,⟨291,0,299,82⟩):=by kernel_rfl
theorem c22H(w:PD)(D:QO):PN Pp pH w 11 (on<|.ref 6) 1 103 ⟨LT w.params,#[],{},812,D⟩ (Px ((((((((((((((((((((((i0.drop 2).drop 1).drop 1).drop 1).drop 1).drop 1).drop 1).drop 1).drop 1).drop 7).drop 5).drop 4).drop 5).drop 4).drop 4).drop 5).drop 4).drop 3).drop 1).drop 4).drop 3).take 4) jn cH ⟨291,0,299,82⟩ i_)=on (.next,⟨LR w.params,#[],{},843,D⟩,cH,⟨310,0,319,44⟩):=by kernel_rfl
theorem c23H(w:PD)(D:QO):PN Pp pH w 11 (on<|.ref 6) 1 117 ⟨LR w.params,#[],{},843,D⟩ (Px (((((((((((((((((((((((i0.drop 2).drop 1).drop 1).drop 1).drop 1).drop 1).drop 1).drop 1).drop 1).drop 7).drop 5).drop 4).drop 5).drop 4).drop 4).drop 5).drop 4).drop 3).drop 1).drop 4).drop 3).drop 4).take 4) jn cH ⟨310,0,319,44⟩ i_)=on (.next,⟨LO w.params,#[],{},875,D⟩,cH,⟨344,0,345,100⟩):=by kernel_rfl
theorem c24H(w:PD)(D:QO):PN Pp pH w 11 (on<|.ref 6) 1 115 ⟨LO w.params,#[],{},875,D⟩ (Px ((((((((((((((((((((((((i0.drop 2).drop 1).drop 1).drop 1).drop 1).drop 1).drop 1).drop 1).drop 1).drop 7).drop 5).drop 4).drop 5).drop 4).drop 4).drop 5).drop 4).drop 3).drop 1).drop 4).drop 3).drop 4).drop 4).take 4) jn cH ⟨344,0,345,100⟩ i_)=on (.next,⟨LM w.params,#[],{},907,D⟩,cH,⟨352,0,363,20⟩):=by kernel_rfl
theorem c25H(w:PD)(D:QO):PN Pp pH w 11 (on<|.ref 6) 1 93 ⟨LM w.params,#[],{},907,D⟩ (Px (((((((((((((((((((((((((i0.drop 2).drop 1).drop 1).drop 1).drop 1).drop 1).drop 1).drop 1).drop 1).drop 7).drop 5).drop 4).drop 5).drop 4).drop 4).drop 5).drop 4).drop 3).drop 1).drop 4).drop 3).drop 4).drop 4).drop 4).take 3) jn cH ⟨352,0,363,20⟩ i_)=on (.next,⟨LK w.params,#[],{},935,D⟩,cH,⟨368,0,383,15⟩):=by kernel_rfl
theorem c26H(w:PD)(D:QO):PN Pp pH w 11 (on<|.ref 6) 1 98 ⟨LK w.params,#[],{},935,D⟩ (Px ((((((((((((((((((((((((((i0.drop 2).drop 1).drop 1).drop 1).drop 1).drop 1).drop 1).drop 1).drop 1).drop 7).drop 5).drop 4).drop 5).drop 4).drop 4).drop 5).drop 4).drop 3).drop 1).drop 4).drop 3).drop 4).drop 4).drop 4).drop 3).take 3) jn cH ⟨368,0,383,15⟩ i_)=on (.next,⟨LH w.params,#[],{},966,D⟩,cH,⟨402,0,409,15⟩):=by kernel_rfl
theorem c27H(w:PD)(D:QO):PN Pp pH w 11 (on<|.ref 6) 1 27 ⟨LH w.params,#[],{},966,D⟩ (Px (((((((((((((((((((((((((((i0.drop 2).drop 1).drop 1).drop 1).drop 1).drop 1).drop 1).drop 1).drop 1).drop 7).drop 5).drop 4).drop 5).drop 4).drop 4).drop 5).drop 4).drop 3).drop 1).drop 4).drop 3).drop 4).drop 4).drop 4).drop 3).drop 3).take 1) jn cH ⟨402,0,409,15⟩ i_)=on (.next,⟨wl w.params,#[],{},972,D⟩,cH,⟨410,0,437,35⟩):=by kernel_rfl
theorem e0H:(((((((((((((((((((((((((((i0.drop 2).drop 1).drop 1).drop 1).drop 1).drop 1).drop 1).drop 1).drop 1).drop 7).drop 5).drop 4).drop 5).drop 4).drop 4).drop 5).drop 4).drop 3).drop 1).drop 4).drop 3).drop 4).drop 4).drop 4).drop 3).drop 3).drop 1)=[]:=by kernel_rfl
theorem r9H(w:PD)(D:QO):Yv Pp pH w 11 (on<|.ref 6) 2 ⟨wl w.params,#[],{},972,D⟩ ⟨PySem.W.doneF .next,cH,⟨410,0,437,35⟩,i_⟩=on ⟨wl w.params,#[],{},972,D⟩:=by kernel_rfl
theorem rnH(w:PD)(D:QO):Yv Pp pH w 11 (on<|.ref 6) (12+(1+(39+(220+(247+(247+(247+(246+(248+(247+(247+(109+(119+(110+(121+(98+(105+(104+(116+(89+(547+(106+(90+(103+(117+(115+(93+(98+(27+2))))))))))))))))))))))))))))) ⟨YL w.params,#[],{},181,D⟩ (Yi pH)=on ⟨wl w.params,#[],{},972,D⟩:=PySem.W.go_top (r1H w D)<|PySem.W.piece_block (r2H w D)<|bn 2 (c1H w D)<|bn 1 (c2H w D)<|bn 1 (c3H w D)<|bn 1 (c4H w D)<|bn 1 (c5H w D)<|bn 1 (c6H w D)<|bn 1 (c7H w D)<|bn 1 (c8H w D)<|bn 1 (c9H w D)<|bn 7 (c10H w D)<|bn 5 (c11H w D)<|bn 4 (c12H w D)<|bn 5 (c13H w D)<|bn 4 (c14H w D)<|bn 4 (c15H w D)<|bn 5 (c16H w D)<|bn 4 (c17H w D)<|bn 3 (c18H w D)<|bn 1 (c19H w D)<|bn 4 (c20H w D)<|bn 3 (c21H w D)<|bn 4 (c22H w D)<|bn 4 (c23H w D)<|bn 4 (c24H w D)<|bn 3 (c25H w D)<|bn 3 (c26H w D)<|bn 1 (c27H w D)<|GV e0H<|r9H w D
theorem hlH:PySem.W.LeftO pH qH loH xtH (PySem.W.Hook.obs hkH) (PySem.W.Hook.val hkH) 8582:=PySem.W.LeftO.of_pieces (H₀:=YL) (H₁:=wl) opH szH rnH (by decide +kernel) λw=>by kernel_rfl
theorem okH:(PySem.W.chainsOk qH&&PySem.W.opensWell (WB<|Rl<|RA PM)&&(PySem.W.frees (Rl<|RA PM)&&(PySem.W.RowW.within<|Rl<|RA PM).isEmpty))=OK:=by decide +kernel
abbrev adH:Ad:=⟨38,35,fk rrB 6,438,186,fk rrC 4,191,fk YX 4,196,fk YX 9,203,fk YX 16,208,fk YX 21,213,fk YX 26,218,fk I_ 4,223,fk I_ 9,230,fk I_ 16,235,fk I_ 21,240,fk I_ 26,247,fk I_ 33,252,fk I_ 38,257,fk I_ 43,264,fk Zw 6,271,fk Zw 13,276,fk Zw 18,281,fk Q_ 4,286,fk Q_ 9,291,fk Q_ 14,296,fk Q_ 19,301,fk Q_ 24,306,fk Q_ 29,313,fk Q_ 36,320,fk P_ 6,327,fk P_ 13,332,fk P_ 18,337,fk P_ 23,342,fk P_ 28,349,fk P_ 35,354,fk P_ 40,449,fk PJ 6,456,fk PJ 13,463,fk PJ 20,468,fk PJ 25,473,fk PJ 30,480,fk PJ 37,487,fk PJ 44,492,fk oX 4,499,fk oX 11,504,fk oX 16,511,fk oX 23,518,fk oX 30,523,fk oX 35,528,fk oX 40,533,fk oX 45,538,fk oX 50,545,fk oX 57,550,fk oX 62,557,fk oX 69,564,fk oX 76,571,fk oX 83,578,fk oX 90,585,fk oX 97,369,fk rrI 6,416,fk YW 46,409,fk YW 39,390,fk YW 20,397,fk YW 27,428,fk YW 58,590,fk oX 102⟩
section
variable{P:WA}{h:PZ}{l:a0j}
theorem fH{x q:PP}{s:Qd}{f:ON}{a b d e h w:OP}{g:a0X}(l:(KH P).lookup f=on (fO<|FN x q s a b d e g h w):=by kernel_rfl)(c:TV (KH P) h q=OK:=by kernel_rfl)(k:UF (KH P) (.ref f)=OK:=by kernel_rfl):hL (KH P) x q s f (FN x q s a b d e g h w):=JR l c k
theorem mO(X:(KH P).In h)(G:h.Ns Rh l){n:PP}{v:OP}(e:PySem.W.nsIn (KH P) Rh n=on (on v):=by kernel_rfl):l n=on v:=mg_of X G e
theorem mN(X:(KH P).In h)(G:h.Ns Rh l){n:PP}(e:PySem.W.nsIn (KH P) Rh n=on OD:=by kernel_rfl):l n=OD:=PySem.W.mg_none_of X G e
theorem nH(X:(KH P).In h)(G:h.Ns Rh l):vu (KH P) l adH where
 Ee:=MP (aD (rD (u:=(.int 40 403)) (mO X G) oh)<|aD (rD (u:=(.int 6 407)) (mO X G) oh)<|aD (rD (u:=(.int 4 405)) (mO X G) oh)<|aD (rD (u:=(.int 500 586)) (mO X G) oh)<|aD (fH)<|aD (mO X G)<|aD (MI (us:=[(.ref 180)]) 2 rfl (λs us a b=>by obtain⟨c,d,rfl⟩:=lU2 b;exact PySem.W.kp_binds a λS=>by kernel_rfl)<|J0 (IC (p:=180) (q1:=(.type "tuple")) (q2:=OD) (q3:=#[(.int 0 409),(.int 40 403)]) (q4:=0) (q5:=#[]) (by kernel_rfl) rfl (by decide)<|by repeat (first|exact trivial|refine⟨rfl,?_⟩)) MG) (aD (⟨fH,mO X G,.all (na λ_=>rfl)⟩)<|aD (⟨fH,mO X G,.all<|n_ λ_ _=>rfl⟩)<|aD (⟨fH,mO X G,.all<|na λ_=>rfl⟩)<|aD (⟨fH,mO X G,.all<|s_ λ_ _ _=>rfl⟩)<|aD (⟨fH,mO X G,.all<|na λ_=>rfl⟩)<|aD (⟨fH,mO X G,.all<|na λ_=>rfl⟩)<|aD (⟨fH,mO X G,.all<|n_ λ_ _=>rfl⟩)<|aD (⟨fH,mO X G,.all<|na λ_=>rfl⟩)<|aD (⟨fH,mO X G,.all<|n_ λ_ _=>rfl⟩)<|aD (⟨fH,mO X G,.all<|n_ λ_ _=>rfl⟩)<|aD (⟨fH,mO X G,.all<|n_ λ_ _=>rfl⟩)<|aD (⟨fH,mO X G,.all<|n_ λ_ _=>rfl⟩)<|aD (⟨fH,mO X G,.all<|n_ λ_ _=>rfl⟩)<|aD (⟨fH,mO X G,.all<|na λ_=>rfl⟩)<|aD (⟨fH,mO X G,.all<|na λ_=>rfl⟩)<|aD (⟨fH,mO X G,.all<|s_ λ_ _ _=>rfl⟩)<|aD (⟨fH,mO X G,.all<|n_ λ_ _=>rfl⟩)<|aD (⟨fH,mO X G,.all<|Y3 λ_ _ _ _=>rfl⟩)<|aD (⟨fH,mO X G,.all<|s_ λ_ _ _=>rfl⟩)<|aD (⟨fH,mO X G,.all<|Y3 λ_ _ _ _=>rfl⟩)<|aD (⟨fH,mO X G,.all<|s_ λ_ _ _=>rfl⟩)<|aD (⟨fH,mO X G,.all<|na λ_=>rfl⟩)<|aD (⟨fH,mO X G,.all<|s_ λ_ _ _=>rfl⟩)<|aD (⟨fH,mO X G,.all<|na λ_=>rfl⟩)<|aD (⟨fH,mO X G,.all<|s_ λ_ _ _=>rfl⟩)<|aD (⟨fH,mO X G,.all<|Y3 λ_ _ _ _=>rfl⟩)<|aD (⟨fH,mO X G,.all<|n_ λ_ _=>rfl⟩)<|aD (⟨fH,mO X G,.all<|s_ λ_ _ _=>rfl⟩)<|aD (⟨fH,mO X G,.all<|s_ λ_ _ _=>rfl⟩)<|aD (⟨fH,mO X G,.all<|s_ λ_ _ _=>rfl⟩)<|aD (⟨fH,mO X G,.all<|n_ λ_ _=>rfl⟩)<|aD (⟨fH,mO X G,.all<|s_ λ_ _ _=>rfl⟩)<|aD (⟨fH,mO X G,.all<|n_ λ_ _=>rfl⟩)<|aD (⟨fH,mO X G,.all<|n_ λ_ _=>rfl⟩)<|aD (⟨fH,mO X G,.all<|n_ λ_ _=>rfl⟩)<|aD (⟨fH,mO X G,.all<|Y3 λ_ _ _ _=>rfl⟩)<|aD (⟨fH,mO X G,.all<|n_ λ_ _=>rfl⟩)<|aD (⟨fH,mO X G,.all<|na λ_=>rfl⟩)<|aD (⟨fH,mO X G,.all<|n_ λ_ _=>rfl⟩)<|aD (⟨fH,mO X G,.all<|Y3 λ_ _ _ _=>rfl⟩)<|aD (⟨fH,mO X G,.all<|na λ_=>rfl⟩)<|aD (⟨fH,mO X G,.all<|na λ_=>rfl⟩)<|aD (⟨fH,mO X G,.all<|na λ_=>rfl⟩)<|aD (⟨fH,mO X G,.all<|na λ_=>rfl⟩)<|aD (⟨fH,mO X G,.all<|na λ_=>rfl⟩)<|aD (⟨fH,mO X G,.all<|n_ λ_ _=>rfl⟩)<|aD (⟨fH,mO X G,.all<|n_ λ_ _=>rfl⟩)<|aD (⟨fH,mO X G,.all<|na λ_=>rfl⟩)<|aD (⟨fH,mO X G,.all<|n_ λ_ _=>rfl⟩)<|aD (⟨fH,mO X G,.all<|Y3 λ_ _ _ _=>rfl⟩)<|aD (⟨fH,mO X G,.all<|na λ_=>rfl⟩)<|aD (⟨fH,mO X G,.all<|n_ λ_ _=>rfl⟩)<|aD (⟨fH,mO X G,.all<|s_ λ_ _ _=>rfl⟩)<|aD (fH)<|aD (⟨by kernel_rfl,by kernel_rfl,by kernel_rfl,by kernel_rfl⟩)<|aD (NL (sv:=[.kw 0]) (.kw .nil) rfl (by decide) λs us g a e f=>by obtain⟨c,d,i,rfl⟩:=lU3 e;obtain⟨j,rfl⟩:=lU1 f;exact .of_eq rfl)<|aD (fH)<|aD (⟨by kernel_rfl,by kernel_rfl,by kernel_rfl⟩)<|aD (.all<|na λ_=>rfl)<|aD (fH)<|aD (⟨by kernel_rfl,by kernel_rfl,by kernel_rfl⟩)<|aD (.all<|s_ λ_ _ _=>rfl)<|aD (fH)<|aD (⟨by kernel_rfl,by kernel_rfl,by kernel_rfl⟩)<|aD (.all<|na λ_=>rfl)<|aD (fH)<|aD (⟨by kernel_rfl,by kernel_rfl,by kernel_rfl⟩)<|aD (.all<|na λ_=>rfl)<|aD (fH)<|aD (⟨by kernel_rfl,by kernel_rfl,by kernel_rfl⟩)<|aD (.all<|s_ λ_ _ _=>rfl)<|aD (⟨by kernel_rfl,by kernel_rfl,by kernel_rfl,by kernel_rfl⟩)<|aD (mO X G)<|aD (show Th (KH P) _ _=_ by kernel_rfl)<|aD (show Th (KH P) _ _=_ by kernel_rfl)<|aD (show Th (KH P) _ _=_ by kernel_rfl)<|aD (show Th (KH P) _ _=_ by kernel_rfl)<|aD (fH)<|aD (.all<|s_ λ_ _ _=>rfl)<|aD (mO X G)<|aD (⟨by kernel_rfl,by kernel_rfl,by kernel_rfl,by kernel_rfl⟩) trivial))
 Ef:=mN X G
 Eg:=mN X G
 Eh:=mN X G
 Ei:=mN X G
 Ej:=mN X G
 Ek:=mN X G
 El:=mN X G
 Em:=mN X G
 En:=mN X G
 Eo:=mN X G
 Ep:=mN X G
 Er:=mN X G
 Es:=mN X G
 Et:=mN X G
 Eu:=mN X G
 Ev:=mN X G
 Ew:=mN X G
 Ex:=mN X G
theorem wlkH:PySem.W.WalkO qH loH (PySem.W.XL qH lvH) (PySem.W.Hook.says hkH) (Rl<|RA PM) (Option.get (PySem.W.defOf qH "law") rfl).1 [] (λf D=>XV f D):=
 L2.walk_of (n:=63) (k:=9) (x:="_law_script") (CX:=λw=>hE _ w) (sp:=λw=>HF<|KH w.params) rfl (by decide) rfl ⟨rfl,by decide,by decide,rfl⟩ (λw h Y=>PySem.W.kIn_of Y) (λw l i h c G b=>by
  have e:=b.symm.trans (mg_of c G (v:= .ref 590)<|by kernel_rfl);cases e;exact⟨FN "law" "law" (c4 77) .none .none .none (.str "law_edgetally_k47_whole_loops_lead_there" 824) OD (.ref 589) .none,λs v=> .of_eq rfl,λbase _ _=>Li (a:=adH) (fH (by kernel_rfl) (by kernel_rfl)<|by kernel_rfl) (nH c G) λE M=>GG (K:=KH w.params) (a:=adH)  E M⟩) (λ_ _ a P d _ g=>⟨a,P,rfl,g,d,λ_=>rfl⟩) λ_ _ _ _ _ h=>by obtain⟨x,C,j,_,fl⟩:=h;obtain⟨_,_,z⟩:=fl.wish;all_goals exact z
end
end Law
open PySem.W
set_option maxHeartbeats 0 in
theorem PySem.Challenge.cw_edgetally_k47_whole_loops_lead_there_holds : PySem.Challenge.rw_edgetally_k47_whole_loops_lead_there.Holds := by
 w_on
 refine holds_law Law.wsH λsaid=>?_;refine holds_open (q:=Law.qH) (loose:=Law.loH) (Xt:=Law.xtH) (XP:=XL Law.qH Law.lvH) (Yf:=Hook.obs Law.hkH) (Ya:=Hook.val Law.hkH) (YP:=Hook.says Law.hkH) (N:=8582) Law.hlH (Hook.of Law.hkH) (Hook.keeps Law.hkH) (λs e=>xl_of s (Xv.mp e).1) XL.keeps (by rfl) (by rfl) (by rfl) (λs e=>recFacts_of (Xv.mp e).2) (by rfl) said Law.okH ⟨rfl,rfl,rfl,rfl,rfl,by decide +kernel⟩ ?hw ?hc
 case hw=>w_witness2
 exact Law.wlkH
