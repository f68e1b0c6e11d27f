import PyProof.Rows.All
import Wide.All
import OpenK.AllK
import Wide.FinOn
import Lean
import PyProof.EqAt
import PyProof.EqKinds
import PyProof.TupleCall
import PyProof.NsDelKeeps
import PyProof.ListRange
import PyProof.ExcArgsOwn
import PySem.Challenge.RW_edgetally_k21_papers_of_no_table
set_option Elab.async false
set_option linter.all false
set_option genSizeOf false
set_option compiler.extract_closed false
set_option bootstrap.genMatcherCode false
set_option maxHeartbeats 8000000
set_option maxRecDepth 100000
noncomputable section
open And renaming intro->RB
open Array renaming length_toList->KG,getElem?_eq_some_iff->K4,getElem?_eq_none->Mv,getElem?_toList->MC,getElem_toList->MJ,getD->MP,getElem?_eq_getElem->Ny,forIn_toList->NP,getElem?_extract->Rt,getElem?_push->Sa,append_assoc->Sk,size_extract->Sm,toList_push->SO
open Bool renaming true->JW,false->JZ,false_ne_true->J7,false_eq_true->Kn,and_eq_true->Kz,not_true->Mx,and_self->Od,true_and->Oe,false_and->OJ,eq_iff_iff->QJ,not_false->Q3,and_eq_true_iff->Sc
open Classical renaming byContradiction->LK
open Except renaming ok->M3
open False renaming elim->MB
open ForInStep renaming yield->Pa
open Function renaming comp->PQ
open Int renaming toNat_natCast->Lm,emod_nonneg->Ou,emod_lt_of_pos->OQ,fdiv_eq_ediv_of_nonneg->OR,natCast_add->PL,natAbs_natCast->Qg
open List renaming length_map->JS,getElem?_eq_getElem->JX,mem_cons_of_mem->J1,mem_cons_self->J2,mem_map->J5,getElem?_map->J9,range->Ka,map_map->Kb,getElem?_eq_some_iff->Kc,getD_eq_getElem?_getD->Kd,length_append->Kg,size_toArray->Kh,mem_cons->Kk,length_cons->Kq,replicate->Ks,map_cons->Kv,mem_range->Kw,mem_of_getElem?->KA,map_append->KC,length_range->KD,nodup_cons->KM,mem_singleton->KN,length_set->KO,length_singleton->KQ,append_nil->KW,sum_cons->KY,mem_append_right->K3,getElem_mem->K5,map_congr_left->K9,append_assoc->Lg,flatMap_cons->Lh,getElem?_range->Li,length_take->Lk,mem_append->Ll,drop_eq_getElem_cons->Ls,mem_flatMap->Lx,not_mem_nil->Ly,take_length->Lz,map_flatMap->LN,take_of_length_le->LO,filterMap_cons->LS,flatMap_append->LU,getElem?_set->LV,length_replicate->LX,getElem?_append_right->Ma,replicate_succ->Mc,mem_or_eq_of_mem_set->Mf,zip_cons_cons->MD,take_append_drop->MG,pairwise_iff_getElem->MH,nil_append->MK,flatten_cons->MM,mem_append_left->MN,pairwise_map->MO,all_eq_true->MS,getElem?_replicate->MT,map->MU,pairwise_singleton->MV,drop_eq_nil_of_le->M2,find?_cons->M9,forIn_cons->Na,range_succ->Nb,map_drop->Nd,forIn_nil->Nq,cons_append->Nz,drop_length->NA,exists_cons_of_length_eq_add_one->NB,ext_getElem->NC,getElem_map->ND,length_drop->NE,map_nil->NF,getElem?_append_left->NJ,length_nil->NR,mem_replicate->NT,pairwise_cons->NU,flatMap_eq_nil_iff->NX,map_set->N1,flatMap_nil->Oa,map_take->Oi,length_zip->Os,zipWith->OD,getElem_range->OL,map_replicate->OM,mem_filterMap->ON,getElem?_eq_none_iff->OY,nodup_append->O3,reverse_cons->O4,zip_nil_left->O5,flatMap_map->Pk,length_eq_zero_iff->Pl,mem_filter->Pz,getElem?_toArray->PN,getElem?_append->PV,length->PX,take_zero->PY,getElem_of_mem->P8,all_cons->Qb,any_cons->Qc,map_inj_right->Qf,map_id->QC,filter_map->QN,of_mem_zip->QO,getElem?_take_of_lt->Rm,getElem?_cons_succ->Rx,filter_eq_nil_iff->RF,flatMap->RG,getElem?_set_self->RH,range_succ_eq_map->RI,getElem?_eq_none->RK,getElem?_set_ne->Sf,getElem_reverse->Sg,mem_of_mem_take->Sh,filter_flatMap->Sw,length_reverse->Sx,length_zipWith->Sy,filterMap_map->SV,foldl->SW,getElem?_drop->SX,zip_nil_right->SY,any_eq_false->Tk,filter_congr->Tl,take_add_one->Tp
open List.Pairwise renaming nil->Py
open List.Perm renaming of_eq->Qj
open List.Sublist renaming refl->PM
open List.cons renaming injEq->MX,inj->Nv
open Min renaming min->Np
open Nat renaming le_refl->J3,le_trans->Kl,lt_of_lt_of_le->Ku,ne_of_lt->K7,lt_irrefl->Lc,zero_le->Lq,lt_of_le_of_lt->LF,not_lt_zero->Ms,mul_comm->My,ne_of_gt->Mz,zero_add->MA,le_add_right->MY,lt_succ_of_lt->Nn,lt_trichotomy->No,le_of_lt->N4,mul_left_comm->N5,sub_self->N6,mul_assoc->Oo,mul_le_mul_right->Op,lt_trans->OG,le_succ->Pb,le_mul_of_pos_right->Pp,sub_zero->PD,pow_le_pow_right->PZ,add_comm->Qr,lt_of_succ_lt->Qs,lt_or_ge->Qt,succ_le_succ->QD,div_le_self->QV,add_le_add->Rc,mod_lt->Re,add_sub_cancel_left->RJ,div_div_eq_div_mul->RM,le_mul_of_pos_left->RN,zero_mul->RO,add_mul->Sz,one_mul->SA,add_le_add_left->S3
open Option renaming some->on,none->JT,map_some->Md,bind_some->MQ,map_eq_some_iff->Pn,isSome_iff_exists->Q9,getD_none->S4
open Option.some renaming inj->KE,injEq->Ro
open Or renaming inl->Mn,inr->NG
open Prod renaming ext->Mu,ext_iff->N2
open Pure renaming pure->Mm
open PyProof renaming noPylong_of_log2->QW
open PyProof.Rows renaming callWith_type1->Lw,slot_tuple_getitem->LH,seqObj->Mt,listUpdate_at->NZ,IntsAre->Oh,envOfC->Oy,AllBare->O0,subscriptTail_builtinR->P5,boot_range->RV,subscriptTail->SL,IsTup->SU,tuples'->Tz
open PyProof.Rows.IsTup renaming new->Tj
open PySem renaming wpAny_bind->JR,wpAny_pure->JU,Addr->JY,Value->J0,Shared->J4,wpAny->Ke,sizeLine->Ki,starEach->Kj,model->Ky,Program->KF,FuncData->KJ,wpAny_call_entry->KR,Obj->KS,wpAny_newObj_type->KU,World->K1,Str->K2,foldedSetIterable->K6,wpAny_mono->Ld,SetTable->Le,Around->Lf,Heap->Lj,wpAny_holding->Ln,compareOp->Lp,wpAny_field->Lu,mem_of_lookup->LB,eval->LC,wpAny_truthy_bool->LD,wpAny_setField_rec->LG,Stmt->LM,Comprehension->LR,cellsFrom->LW,sizeLine_eq->LZ,wpAny_setState_of->L0,wpAny_seqItems->L7,wpAny_isInstance->L8,mainGlobals->Mj,DictEntry->Mo,treeTable->Mq,wpAny_standAt->Mr,binaryOp->ML,wpAny_specialOf->MR,wpAny_comprehension_free->MZ,wpAny_rule->M0,IsPair->M4,firstArgMember->M5,wpAny_setField->M6,wpAny_typeNameOfWhole_itemiter->M7,wpAny_of_eq->Ng,wpAny_typeNameOfWhole_keyiter->Nh,bootBuiltins->Nk,rawInt->Nl,wpAny_attempt->Nu,backTo->Nw,pyNext->Nx,wpAny_dictEntries->NH,NameKind->NL,keywordEach->NM,sliceBounds->NN,wpAny_typeNameOf_itemiter->NW,wpAny_typeNameOf_keyiter->N0,wpAny_dictEpoch->N3,isSubtype_type->Oj,wpAny_fieldsOf->Ol,wpAny_pyIter_slot->Om,wpAny_typeOf->On,sysModules->OA,wpAny_askSetting->OB,wpAny_forIn_list->OC,behindInMarks->OE,codeAny->OF,Pos->OH,cLine->OI,Paired->OS,assign->OU,codeAny_builtin->OV,letOwnedTupleGo->OW,wpAny_passesOwn->OX,codeAny_mono->O7,standAt->O8,swapsWith->Pd,IsItemIter->Pe,Fin->Pg,backToKw->Ph,wpAny_Call_Name_kw->Pi,IsZip->Pr,intKind->Ps,wpAny_pyIter_list->Px,assignEach->P0,holding->P3,pyIter->P4,wpAny_isOneOf_itemiter->P6,wpAny_pyIter_rangeiter->P7,builtinLookup_eq_fast->Qd,isSubtype_tuple_tuple->Qe,IsPart->Qh,IsRangeIter->Qi,isSubtype_stop->Ql,setField->Qm,wpAny_updateSeq_pair->Qn,BindsTo->Qo,OsState->Qp,call->Qu,wpAny_setEntries_of->Qv,again->Qy,plainId_quiet->Qz,wpAny_handled->QA,wpAny_onRaise->QB,call_meets->QE,isInstance->QG,wpAny_pyIter_tuple->QH,wpAny_tupleItemsOf->QI,callerA->QX,getItem->QY,ofAClassStatement->QZ,searchCouldBeSeen->Q1,wpAny_assign_Name->Q2,Env->Q6,Params->Rf,newExc->Rh,noFill_tuple_add->Ri,pickOrder->Rj,Draws->Rk,wpAny_letGo->Rq,wpAny_throw->Rr,typeLookup_type->Rz,wpAny_execs_nil->RA,Keyword->RE,PyData->RQ,builtinsNs->RW,compPost->RY,entryFor_alias->RZ,intItems->R1,newFunctionEnv->R5,raiseNew->R6,wpAny_newTuple->R8,wpAny_runValue->R9,call->SH,attributeBase->SI,evalPart_none->SJ,seq_tuple_add->SK,wpAny_getItem_list_slice->SM,wpAny_newList->SN,list_append->S7,atKey->S9,bindC->Ta,bindL->Tc,eqIsQuiet->Td,field->Te,lastMarks->Tf,slicePick->Tg,seqIndex_neg->Tx,wpAny_pyNext_range_end->TC
open PySem.Around renaming under_plainId->N9
open PySem.Builtin.Dict renaming showsAll->NQ
open PySem.Builtin.Dict_items renaming ownsTuple->Me,ownedTupleFields->OO,ownedTupleIsFree->OP,pairFromOwner->O9
open PySem.Builtin.Int renaming intBits->Q4
open PySem.Builtin.List renaming listExtendWith->MW,listSameRef->Nm,listTooLong->Oq,listLengthHint->P9,listTouch->Qw
open PySem.Builtin.Range renaming rangeFitsLong->Lr,rangeSize->Ot
open PySem.Builtin.Slice renaming slicePlaces->M8,sliceAdjust->Of,sliceApplied->Qa
open PySem.Builtin.SmallTypes renaming nextOf->L5,ownedTupleIsFree->Mg,ownedTupleHandOut->OK,refuseKeywords->O1
open PySem.Builtin.Tuple renaming tupleExact->Ni,tupleItemsOf->N7,tupleHashOf->Og
open PySem.Calls renaming Name_function_global->QS,call_function_entry->Q5,callWith_builtin->Ru,spliced_cons->Ss,spliced_nil->SQ
open PySem.Challenge renaming rw_edgetally_k21_papers_of_no_table->KP
open PySem.Draws renaming list->Su
open PySem.F renaming slot_dict_itemiterator_next->LY,plainAttrs_list->L6,slot_list_append->Mh,type_list_append->Mi,slot_dict_keyiterator_next->Mw,slot_tuple_iterator_next->NI,args_tuple_add_2->OT,entry_tuple_add->O6,slot_tuple_add->Pf,plain_list_iadd->Pj,slot_zip_next->PR,args_dict_itemiterator_next_1->QK,args_dict_keyiterator_next_1->QT,entry_dict_itemiterator_next->QU,entry_dict_keyiterator_next->Q7,slot_dict_itemiterator_iter->Q8,args_tuple_iterator_next_1->Rb,entry_tuple_iterator_next->Rl,slot_dict_items_iter->Sv,entry_proto_collect->SR,plain_proto_collect->SS,args_list_append_2->Th
open PySem.Heap renaming get?_push_of_some->JV,get?_push_size->Kf,lt_size->Kr,SameBut->KI,size_push->L9,get?_update_ne->Mb,get?_update_self->MF,ExtBut->PU,get?_update_other->RC,get?_none_of_le->Sd,get?_push_ne->Ti
open PySem.Heap.IsSliceOf renaming new->QL
open PySem.Heap.SameBut renaming update->LA
open PySem.IntMulOk renaming of_bits->Se
open PySem.IsRange renaming new->Rv
open PySem.IsTupleKey renaming typeIs->Rw
open PySem.Manifest renaming find?->SZ
open PySem.NameKind renaming free->MI,cell->QP
open PySem.Obj renaming mapSeq->Lo,data_mapFields->LL,isFreed_of_fields->Ob,cls_mapFields->Pc,putSet->PF,mapFields->Ry
open PySem.P renaming add_list->SC
open PySem.PyData renaming depth->Nr,eqv->NO,eqvAll->N8,depthAll->Qx,canLayAll0->SB
open PySem.SeqAt renaming EqAt->LJ,shaped->Ox
open PySem.SeqAt.EqAt renaming int_int->Rp
open PySem.SetTable renaming fits->QR,fresh->S8
open PySem.Str renaming ofString->LQ,empty->NK
open PySem.Value renaming ref->Ko,none->KZ,type->M1,int->NV,isInt_shape->OZ,bool->Pq,isInt->RU
open PySem.W renaming Frag->Kt,fnOf->NY,codeIn->Ov,keepIn->Oz,kia_one->Pt,kia_tup->Pw,segRun->PH,piecesOf->Qk,kitx_list->Qq,of_hideAll->RT,cellsFrom_some->RX,findIn->R0,kitx_tuple->R3,topFrame->R7,kitx_bool->Si,kitx_none->Sj,kitx_int->SD,kitx_own->SE,kitx_str->SF,plainGet->SG,takesIn->S5,topStub->S6,kitAny->Tq,topRun->Ts,hideAll->Tu,hideAll_none->Tv
open PySem.W.OpenLaw renaming row->ME
open PySem.W.OpenRow renaming toRowW->Ml
open PySem.W.RowW renaming prog->Rg
open PySem.W.WData renaming int->Ra
open PySem.pickOrder renaming go->Q0
open True renaming intro->Oc
abbrev J6:=@if_neg
abbrev J8:=@if_pos
abbrev Km:=@decide_eq_true
abbrev Kx:=@absurd
abbrev KV:=@decide_eq_true_eq
abbrev K0:=@decide_eq_false
abbrev K8:=@if_true
abbrev La:=@congrArg
abbrev Lb:=@if_false
abbrev Mp:=@of_decide_eq_true
abbrev Nf:=@bne_self_eq_false
abbrev Nj:=@beq_iff_eq
abbrev NS:=@or_false
abbrev PP:=@beq_eq_false_iff_ne
abbrev Tt:=@beq_self_eq_true
abbrev Tw:=@not_or
open PySem.W (Frag instObj methodObj hideAll hideAll_get hideAll_none lookIn findIn isFn keepIn specialIn kitOne kia_one kitx_list kitx_tuple cellsFrom_some mg_of kia_tup)
abbrev LI:=List (List Int)
abbrev LP:=List (List (Int×Int))
--CHANGE:your row's module here,as the last of these ba
namespace L2
open PySem PySem.Spec PyProof.Rows
inductive V where
 |non|bl (b:Bool)|int (i:Int)|str (x:K2)|ref (a:JY)|ty (n:String)
 deriving DecidableEq
def aI:V->J0->Prop
 | .non,u=>u=KZ
 | .bl b,u=>u=Pq b
 | .int i,u=>∃t,u=NV i t
 | .str x,u=>∃t,u=Value.str x t
 | .ref a,u=>u=Ko a
 | .ty n,u=>u=M1 n
abbrev aq:List V->List J0->Prop:=OS aI
theorem aq.length{xs:List V}{us:List J0}(r:aq xs us):xs.length=us.length:=Paired.length r
theorem aq.get:∀{xs:List V} {us:List J0} {i:Nat} {x:V},aq xs us->xs[i]?=on x->∃u,us[i]?=on u/\aI x u
 |_,_,_,_,.nil,e=>by simp at e
 |_,_,0,_,.cons r _,e=>by simp at e;subst e;exact⟨_,rfl,r⟩
 |_,_,i+1,x,.cons _ t,e=>by
  obtain⟨u,a,b⟩:=aq.get (i:=i) (x:=x) t (by simpa using e);exact⟨u,by simpa using a,b⟩
theorem aq.set(r:aI x u):∀{xs:List V} {us:List J0} (i:Nat),aq xs us->aq (xs.set i x) (us.set i u)
 |_,_,_,.nil=> .nil
 |_,_,0,.cons _ t=> .cons r t
 |_,_,i+1,.cons q t=> .cons q (aq.set r i t)
theorem aq.append:∀{xs ys:List V} {us a:List J0},aq xs us->aq ys a->aq (xs++ys) (us++a)
 |_,_,_,_,.nil,s=>s
 |_,_,_,_,.cons r t,s=> .cons r (aq.append t s)
theorem aq.take:∀{xs:List V} {us:List J0} (n:Nat),aq xs us->aq (xs.take n) (us.take n)
 |_,_,0,_=> .nil
 |_,_,_+1,.nil=> .nil
 |_,_,n+1,.cons r t=> .cons r (aq.take n t)
theorem aq.drop:∀{xs:List V} {us:List J0} (n:Nat),aq xs us->aq (xs.drop n) (us.drop n)
 |_,_,0,r=>r
 |_,_,_+1,.nil=> .nil
 |_,_,n+1,.cons _ t=>aq.drop n t
def sJ:Option V->Option J0->Prop
 |some v,on u=>aI v u
 |none,JT=>True
 |_,_=>False
inductive HO where
 |lst (xs:List V)
 |tup (xs:List V)
 |ins (C dx:JY) (fs:List (K2×V))
 |own (x:JY)
 |xd (fs:List (K2×V))
 |met (f x:JY)
 |rng (lo hi:Int)
 |frz (o:KS) (u:HO)
 |tbl (ps:Array J0)
 |ext (φ:Lj->Prop)
abbrev Hp:=JY->Option HO
noncomputable def upd(H:Hp)(a:JY)(o:HO):Hp:=λb=>if b=a then on o else H b
theorem af:upd H a o a=on o:=by unfold upd;rw[J8 rfl]
theorem a_(h:b≠a):upd H a o b=H b:=by unfold upd;rw[J6 h]
theorem Jl{H:Hp}{a b:JY}{o u:HO}(h:H a=on o)(h':H b=on u)(d:o≠u):a≠b:=by
 intro e;subst e;rw[h]at h';exact d (KE h')
theorem aC{H:Hp}{a b:JY}{o:HO}(h:H a=on o)(h':H b=JT):a≠b:=by
 intro e;subst e;rw[h]at h';cases h'
section
variable(P:KF)(w:K1)
def bC(P:KF)(w:K1)(H:Hp)(h:Lj)(a:JY):HO->Prop
 | .lst xs=>xs.length<=Ki/\∃(its:List J0) (n:Nat),aq xs its/\h.get? a=on {cls:= .type "list",data:= .seq its.toArray n}
 | .tup xs=>xs.length<=Ki/\∃its:List J0,aq xs its/\SU h a its.toArray
 | .ins C dx fs=>H dx=on (.own a)/\fs.length<=1000/\dx≠a/\h.get? a=on (instObj C dx)/\
   ∃b,h.Ns1 dx b/\(∀f,sJ (fs.lookup f) (b f))/\PySem.Within b (fs.map (·.1))
 | .own _=>∃o,h.get? a=on o
 | .xd fs=>∃b,h.Ns1 a b/\∀f,sJ (fs.lookup f) (b f)
 | .rng lo hi=>∃t u v,h.get? a=on {cls:= .type "range",data:= .fields #[.int lo t,.int hi u,.int 1 v]}
 | .frz o u=>h.get? a=on o/\bC P w H h a u
 | .tbl ps=>h.get? a=on {cls:= .none,data:= .fields ps}
 | .met f x=>h.get? a=on (methodObj (.ref f) (.ref x))
 | .ext φ=>φ h/\(∃o,h.get? a=on o)/\∀c d:Lj,φ c->(∀o,c.get? a=on o->d.get? a=on o)->φ d
def j_(H:Hp)(h:Lj):Prop:=∀a o,H a=on o->bC P w H h a o
end
section
variable{P:KF}{w:K1}{H H':Hp}{h h':Lj}{a:JY}{o:HO}
theorem bC.lt(x:bC P w H h a o):a<h.objs.size:=by
 cases o with
 |lst xs=>obtain⟨_,_,_,_,e⟩:=x;exact Kr e
 |tup xs=>obtain⟨_,_,_,p⟩:=x;exact p.lt
 |ins C dx fs=>obtain⟨_,_,_,e,_⟩:=x;exact Kr e
 |own y=>obtain⟨_,e⟩:=x;exact Kr e
 |xd fs=>obtain⟨_,⟨_,_,_,e,_⟩,_⟩:=x;exact Kr e
 |rng lo hi=>obtain⟨_,_,_,e⟩:=x;exact Kr e
 |frz ob u=>obtain⟨e,_⟩:=x;exact Kr e
 |tbl ps=>exact Kr (show h.get? a=on _ from x)
 |met f y=>exact Kr (show h.get? a=on _ from x)
 |ext φ=>obtain⟨_,⟨_,e⟩,_⟩:=x;exact Kr e
theorem bC.stay(x:bC P w H h a o)(k:∀b u,(b=a\/H b=on (.own a))->h.get? b=on u->h'.get? b=on u)
  (l:∀b,H b=on (.own a)->H' b=on (.own a)) (A:∀b xs,H b=on (.tup xs)->H' b=on (.tup xs)):bC P w H' h' a o:=by
 induction o with
 |lst xs=>obtain⟨z,its,n,r,e⟩:=x;exact⟨z,its,n,r,k _ _ (.inl rfl) e⟩
 |tup xs=>obtain⟨z,its,r,g,e,c⟩:=x;exact⟨z,its,r,g,k _ _ (.inl rfl) e,c⟩
 |ins C dx fs=>
  obtain⟨d,z,ne,e,i,⟨j,es,ep,m,c⟩,r⟩:=x;exact⟨l _ d,z,ne,k _ _ (.inl rfl) e,i,⟨j,es,ep,k _ _ (.inr d) m,c⟩,r⟩
 |own y=>obtain⟨g,e⟩:=x;exact⟨g,k _ _ (.inl rfl) e⟩
 |xd fs=>obtain⟨i,⟨j,es,ep,e,c⟩,r⟩:=x;exact⟨i,⟨j,es,ep,k _ _ (.inl rfl) e,c⟩,r⟩
 |rng lo hi=>obtain⟨t,u,v,e⟩:=x;exact⟨t,u,v,k _ _ (.inl rfl) e⟩
 |frz g u ih=>obtain⟨e,q⟩:=x;exact⟨k _ _ (.inl rfl) e,ih q⟩
 |tbl ps=>
  have e:h.get? a=on {cls:= .none,data:= .fields ps}:=x;show h'.get? a=on {cls:= .none,data:= .fields ps};exact k a _ (.inl rfl) e
 |met f y=>
  have e:h.get? a=on (methodObj (.ref f) (.ref y)):=x;show h'.get? a=on (methodObj (.ref f) (.ref y));exact k a _ (.inl rfl) e
 |ext φ=>obtain⟨p,⟨o,e⟩,st⟩:=x;exact⟨st _ _ p λo q=>k _ _ (.inl rfl) q,⟨o,k _ _ (.inl rfl) e⟩,st⟩
theorem j_.lt(x:j_ P w H h)(e:H a=on o):a<h.objs.size:=(x a o e).lt
theorem j_.fresh(x:j_ P w H h)(e:h.objs.size<=a):H a=JT:=by
 cases q:H a with
 |none=>rfl
 |some u=>exact Kx (Ku (x.lt q) e) (Lc _)
theorem j_.kept(x:j_ P w H h)(k:∀b u,h.get? b=on u->h'.get? b=on u):j_ P w H h':=λa o e=>
 (x a o e).stay (λb u _ q=>k b u q) (λ_ q=>q) λ_ _ q=>q
theorem j_.laid(x:j_ P w H h)(k:∀b u,h.get? b=on u->h'.get? b=on u)(f:h.objs.size<=a)(new:bC P w (upd H a o) h' a o):j_ P w (upd H a o) h':=λb u e=>by
 have hn:=x.fresh f;by_cases d:b=a
 .subst d;rw[af]at e;cases e;exact new
 .rw[a_ d]at e
  exact(x b u e).stay (λc v _ q=>k c v q) (λc q=>by rw[a_ (aC q hn)];exact q) λc xs q=>by rw[a_ (aC q hn)];exact q
def Rd(H:Hp)(a:JY)(u:HO):Prop:=H a=on u\/∃o,H a=on (.frz o u)
theorem Rd.ok{P:KF}{w:K1}{H:Hp}{h:Lj}{a:JY}(r:Rd H a u)(x:j_ P w H h):bC P w H h a u:=by
 rcases r with r|⟨o,r⟩
 .exact x a u r
 .obtain⟨_,q⟩:=x a _ r
  exact q
def UH:Option HO->Prop
 |some (.lst _)=>True
 |some (.ins _ _ _)=>True
 |some (.ext _)=>True
 |_=>False
variable{x e:JY}{o':HO}
theorem j_.write(ok:j_ P w H h)(mu:UH (H x))(l:e=x\/H e=on (.own x))(k:∀b u,b≠e->h.get? b=on u->h'.get? b=on u)(j:∃u,h'.get? e=on u)
  (new:bC P w (upd H x o') h' x o'):j_ P w (upd H x o') h':=λb u q=>by
 have f:∀c y,H c=on (.own y)->c≠x:=λc y r z=>by subst z;rw[r]at mu;exact mu
 have g:∀c xs,H c=on (.tup xs)->c≠x:=λc xs r z=>by subst z;rw[r]at mu;exact mu
 by_cases i:b=x
 .subst i;rw[af]at q;cases q;exact new
 .rw[a_ i]at q
  by_cases d:b=e
  .have m:H b=on (.own x):=by
    rcases l with z|z
    .exact Kx (d.trans z) i
    .rw[d];exact z
   rw[q]at m;cases m;obtain⟨v,n⟩:=j;exact⟨v,by rw[d];exact n⟩
  .refine(ok b u q).stay (λc v hc r=>k c v ?_ r) (λc r=>by rw[a_ (f c b r)];exact r) λc xs r=>by rw[a_ (g c xs r)];exact r
   rcases hc with rfl|hc
   .exact d
   .rintro rfl
    rcases l with z|z
    .exact f c b hc z
    .rw[hc]at z;cases z;exact i rfl
structure Un (fs ex:List JY) (H H':Hp) (h h':Lj):Prop where
 keep:∀b o,h.get? b=on o->H b=JT->b∉fs->b∉ex->h'.get? b=on o
 slot:∀b o,h.get? b=on o->H b=JT->b∈fs->b∉ex->∃sl,h'.get? b=on {o with slots:=sl}
 free:∀b o,h.get? b=on o->H b=JT->b∉ex->H' b=JT
 there:∀b o,h.get? b=on o->b∉ex->∃o',h'.get? b=on o'
 tups:∀b xs,H b=on (.tup xs)->H' b=on (.tup xs)
 frzs:∀b o u,H b=on (.frz o u)->H' b=on (.frz o u)
 tbls:∀b ps,H b=on (.tbl ps)->∃more,H' b=on (.tbl (ps++more))
variable{fs fs' ex ex':List JY}{H1 H2:Hp}{h1 h2:Lj}
theorem Un.any(u:Un fs ex H H1 h h1)(q:h.get? b=on ob)(n:H b=JT)(c:b∉ex):∃sl,h1.get? b=on {ob with slots:=sl}:=by
 by_cases d:b∈fs
 .exact u.slot b ob q n d c
 .exact⟨ob.slots,u.keep b ob q n d c⟩
theorem Un.trans(a:Un fs ex H H1 h h1)(b:Un fs ex H1 H2 h1 h2):Un fs ex H H2 h h2 where
 keep:=λc d q n i f=>b.keep c d (a.keep c d q n i f) (a.free c d q n f) i f
 slot:=λc d q n i f=>by
  obtain⟨sl,g⟩:=a.slot c d q n i f;obtain⟨j,k⟩:=b.slot c _ g (a.free c d q n f) i f;exact⟨j,k⟩
 free:=λc d q n f=>by
  obtain⟨o',g⟩:=a.there c d q f;exact b.free c o' g (a.free c d q n f) f
 there:=λc d q f=>by
  obtain⟨o',g⟩:=a.there c d q f;exact b.there c o' g f
 tups:=λc xs q=>b.tups c xs (a.tups c xs q)
 frzs:=λc d xs q=>b.frzs c d xs (a.frzs c d xs q)
 tbls:=λc ps q=>by
  obtain⟨m1,g⟩:=a.tbls c ps q;obtain⟨m2,k⟩:=b.tbls c _ g;exact⟨m1++m2,by rw[k,Sk]⟩
theorem Un.kept(k:∀b u,h.get? b=on u->h'.get? b=on u):Un fs ex H H h h':=
 ⟨λb c q _ _ _=>k b c q,λb c q _ _ _=>⟨c.slots,k b c q⟩,λ_ _ _ n _=>n,λb c q _=>⟨c,k b c q⟩,λ_ _ q=>q,λ_ _ _ q=>q,λ_ ps q=>⟨#[],by rw[q];simp⟩⟩
theorem Un.refl:Un fs ex H H h h:=Un.kept λ_ _ q=>q
theorem Un.laid(k:∀b u,h.get? b=on u->h'.get? b=on u)(c:h.objs.size<=a)(hn:H a=JT):Un fs ex H (upd H a o) h h' where
 keep:=λb u q _ _ _=>k b u q
 slot:=λb u q _ _ _=>⟨u.slots,k b u q⟩
 free:=λb u q n _=>by rw[a_ (K7 (Ku (Kr q) c))];exact n
 there:=λb u q _=>⟨u,k b u q⟩
 tups:=λb xs q=>by rw[a_ (aC q hn)];exact q
 frzs:=λb u xs q=>by rw[a_ (aC q hn)];exact q
 tbls:=λb ps q=>⟨#[],by rw[a_ (aC q hn),q];simp⟩
theorem Un.write(mu:UH (H x))(i:e=x\/H e=on (.own x))(k:∀b u,b≠e->h.get? b=on u->h'.get? b=on u)(d:∃u,h'.get? e=on u):Un fs ex H (upd H x o) h h':=by
 have f:∀b,H b=JT->b≠x:=λb n z=>by subst z;rw[n]at mu;exact mu
 have g:∀b,H b=JT->b≠e:=λb n z=>by
  subst z;rcases i with r|r
  .exact f b n r
  .rw[n]at r;cases r
 have hm:∀b u,H b=on u->¬UH (on u)->b≠x:=λb u q j z=>by subst z;rw[q]at mu;exact j mu
 refine⟨λb u q n _ _=>k b u (g b n) q,λb u q n _ _=>⟨u.slots,k b u (g b n) q⟩,λb u q n _=>by rw[a_ (f b n)];exact n,λb u q _=>?_,
  λb xs q=>by rw[a_ (hm b _ q λz=>z)];exact q,λb u xs q=>by rw[a_ (hm b _ q λz=>z)];exact q,λb ps q=>⟨#[],by rw[a_ (hm b _ q λz=>z),q];simp⟩⟩
 by_cases c:b=e
 .subst c;exact d
 .exact⟨u,k b u c q⟩
theorem Un.mono(u:Un fs ex H H1 h h1)(hs:∀b∈fs,b∈fs')(f:∀b∈ex,b∈ex'):Un fs' ex' H H1 h h1:=
 ⟨λb d q n g c=>u.keep b d q n (λz=>g (hs b z)) λz=>c (f b z),λ_ _ q n _ c=>u.any q n λz=>c (f _ z),λb d q n c=>u.free b d q n λz=>c (f b z),λb d q c=>u.there b d q λz=>c (f b z),u.tups,u.frzs,u.tbls⟩
noncomputable def Uq(h:Lj)(H:Hp):List JY:=(Ka h.objs.size).filter λa=>(H a).isSome
noncomputable def jA(h:Lj)(H:Hp):Lj:=Tu h (Uq h H)
theorem x9(h:Lj)(H:Hp):(jA h H).objs.size=h.objs.size:=PySem.W.hideAll_size _ _
theorem zJ{h:Lj}{H:Hp}{o:KS}(e:h.get? b=on o)(n:H b=JT):(jA h H).get? b=on o:=
 hideAll_get _ e λhm=>by
  have q:(H b).isSome=JW:=(Pz.mp hm).2;rw[n]at q;simp at q
theorem EU{h:Lj}{H:Hp}{o:KS}(e:(jA h H).get? b=on o):h.get? b=on o/\H b=JT:=by
 have c:h.get? b=on o:=RT (Uq h H) e;refine⟨c,?_⟩;cases q:H b with
 |none=>rfl
 |some x=>
  have hm:b∈Uq h H:=Pz.mpr ⟨Kw.mpr (Kr c),by simp[q]⟩;have z:(jA h H).get? b=JT:=Tv (Uq h H) hm;rw[z]at e;cases e
structure Mod (K:Kt) (mg:K2->Option J0) (base:Lj):Prop where
 kin:K.In base
 glob:base.Ns Mj mg
 blt:∃mb,base.Ns RW mb/\∀x:K2,x≠"__name__"->mb x=Nk x
 nolimit:base.NoLimit
structure Cx where
 prog:KF
 w:K1
 K:Kt
 mg:K2->Option J0
 base:Lj
 A:Lf
 N:List K2
 s₀:J4
 H₀:Hp
 env:Q6
 outer:List Q6
 stack:List Q6
 ex:List JY
 fn:K2->Bool
 calm:Bool
 pn:List (JY×KS)
 xe:J0->J4->Prop
noncomputable def hE(l:List Q6):List JY:=l.filterMap (·.frame)
end
noncomputable abbrev Cx.fs(X:Cx):List JY:=hE X.outer
def Uc(a:Scope)(x:K2):Prop:=a.names.lookup x=on .local\/a.names.lookup x=on .cell\/a.names.lookup x=on .free
def wl(a:Scope)(x:K2):Prop:=a.names.lookup x=on .local\/a.names.lookup x=on .cell
def WB(env:Q6)(h:Lj)(m:K2->Option J0)(x:K2)(u:J0):Prop:=
 (env.kindOf x=on .local/\m x=on u)\/((env.kindOf x=on .cell\/env.kindOf x=on .free)/\∃c,env.cells.lookup x=on c/\h.IsCell c (on u))
structure Cx.Ok (X:Cx):Prop where
 mod:Mod X.K X.mg X.base
 kind:X.env.scope.kind= .function
 glob:X.env.globals=Mj
 blt:X.env.builtins=RW
 above:X.s₀.heap.objs.size<=X.env.locals
 inj:∀x y c,X.env.cells.lookup x=on c->X.env.cells.lookup y=on c->x=y
 has:∀x,(X.env.kindOf x=on .cell\/X.env.kindOf x=on .free)->∃c,X.env.cells.lookup x=on c
 cab:∀x c,X.fn x=JW->X.env.cells.lookup x=on c->X.s₀.heap.objs.size<=c
 hd:X.calm=JW->X.A.handled=JT
 frames:X.A.frames=on X.stack
 stk:X.stack=X.outer\/(X.stack=X.env::X.outer/\X.env.frame=on X.env.locals)
 exf:∀b∈X.ex,b≠X.env.locals/\∀x c,X.env.cells.lookup x=on c->c≠b
 bs:∀b o,X.base.get? b=on o->X.s₀.heap.get? b=on o/\X.H₀ b=JT
 bsz:X.base.objs.size<=X.s₀.heap.objs.size
 noex:∀b o,X.base.get? b=on o->b∉X.ex
 exfs:∀b∈X.ex,b∉X.fs
 funs:X.s₀.heap.FunFrames X.base X.outer
 frf:∀b∈X.fs,X.H₀ b=JT
structure cp (X:Cx) (ai:List (JY×KS)) (σ:List (Option V)) (H:Hp) (s:J4):Prop where
 ok:X.Ok
 os:s.os=X.s₀.os
 bare:O0 s.gens
 base:Un X.fs X.ex X.H₀ H X.s₀.heap s.heap
 loc:∃m,s.heap.Ns X.env.locals m/\∀(i:Nat) (x:K2) (v:V),X.N[i]?=on x->σ[i]?=on (on v)->Uc X.env.scope x->∃u,aI v u/\WB X.env s.heap m x u
 cell:∀x c,X.env.cells.lookup x=on c->∃v,s.heap.IsCell c v
 free:H X.env.locals=JT
 freeC:∀x c,X.env.cells.lookup x=on c->H c=JT
 pin:∀p∈X.pn++ai,s.heap.get? p.1=on p.2/\H p.1=JT/\p.1≠X.env.locals/\p.1∉X.fs/\∀v,p.2.data≠ .cell v
 hok:j_ X.prog X.w H s.heap
 len:σ.length=X.N.length
section
variable{X:Cx}{ai:List (JY×KS)}{σ:List (Option V)}{H H':Hp}{s:J4}{h':Lj}
theorem Cx.Ok.nofr(ok:X.Ok)(e:X.base.get? b=on o):b∉X.fs:=λa=>by
 have:=(ok.funs.mem a).1;rw[e]at this;cases this
theorem cp.bs(I:cp X ai σ H s):∀b o,X.base.get? b=on o->s.heap.get? b=on o/\H b=JT:=λb o e=>
 ⟨I.base.keep b o (I.ok.bs b o e).1 (I.ok.bs b o e).2 (I.ok.nofr e) (I.ok.noex b o e),I.base.free b o (I.ok.bs b o e).1 (I.ok.bs b o e).2 (I.ok.noex b o e)⟩
theorem cp.bk(I:cp X ai σ H s):∀b o,X.base.get? b=on o->s.heap.get? b=on o:=λb o e=>(I.bs b o e).1
theorem cp.mod(I:cp X ai σ H s):Mod X.K X.mg X.base:=I.ok.mod
theorem cp.kIn(I:cp X ai σ H s):X.K.In s.heap:=I.ok.mod.kin.keeps I.bk
theorem cp.lt(I:cp X ai σ H s):X.env.locals<s.heap.objs.size:=let ⟨_,hn,_⟩:=I.loc;hn.lt
theorem cp.sz(I:cp X ai σ H s):X.s₀.heap.objs.size<=s.heap.objs.size:=Kl I.ok.above (N4 I.lt)
theorem cp.nofs(I:cp X ai σ H s){a:JY}(h:s.heap.objs.size<=a):a∉X.fs:=λb=>by
 obtain⟨_,o,c,_⟩:=I.ok.funs.mem b;exact Kx (Ku (Kr c) (Kl I.sz h)) (Lc _)
theorem cp.cne(I:cp X ai σ H s):∀x c,X.env.cells.lookup x=on c->c≠X.env.locals:=λx c e z=>by
 obtain⟨v,o,d,hd⟩:=I.cell x c e;obtain⟨m,⟨f,es,ep,a,b,_⟩,_⟩:=I.loc;rw[z,a]at d;cases d;rw[b]at hd;cases hd
theorem cp.funs(I:cp X ai σ H s):s.heap.FunFrames X.base X.outer:=by
 have all:∀(l:List Q6),(∀b∈hE l,b∈X.fs)->X.s₀.heap.FunFrames X.base l->s.heap.FunFrames X.base l:=by
  intro l
  induction l with
  |nil=>intro _ _;trivial
  |cons env r ih=>
   intro hs f;obtain⟨g,⟨L,o,a,hn,h,hd⟩,i⟩:=f;have c:L∈X.fs:=hs L (by unfold hE;rw[LS,a];exact J2);obtain⟨sl,e⟩:=I.base.slot L o h (I.ok.frf L c) c λz=>I.ok.exfs L z c;exact⟨g,⟨L,_,a,hn,e,hd⟩,ih (λb d=>hs b (by unfold hE;rw[LS,a];exact J1 _ d)) i⟩
 exact all X.outer (λ_ d=>d) I.ok.funs
theorem cp.stack(I:cp X ai σ H s):s.heap.FunFrames X.base X.stack:=by
 rcases I.ok.stk with e|⟨e,a⟩
 .rw[e];exact I.funs
 .rw[e]
  obtain⟨m,hn,_⟩:=I.loc;refine .cons (by rw[I.ok.kind];decide) a hn ?_ I.funs;exact Sd (Kl I.ok.bsz I.ok.above)
theorem cp.stkSub(I:cp X ai σ H s):∀b∈hE X.stack,b∈X.env.locals::X.fs:=λb a=>by
 rcases I.ok.stk with e|⟨e,c⟩
 .rw[e]at a;exact J1 _ a
 .rw[e]at a
  unfold hE at a;rw[LS,c]at a;exact a
theorem cp.stkFree(I:cp X ai σ H s):∀b∈hE X.stack,H b=JT:=λb hb=>by
 rcases Kk.mp (I.stkSub b hb)with e|hb
 .rw[e];exact I.free
 .obtain⟨_,o,a,_⟩:=I.ok.funs.mem hb
  exact I.base.free b o a (I.ok.frf b hb) λz=>I.ok.exfs b z hb
theorem cp.step{ch:List JY}(I:cp X ai σ H s)
  (f:∀b∈ch,(b∈X.ex\/X.s₀.heap.objs.size<=b)/\b≠X.env.locals/\(∀x c,X.env.cells.lookup x=on c->c≠b)/\∀p∈X.pn++ai,p.1≠b)
  (keep:∀b o,b≠X.env.locals->b∉X.fs->b∉ch->s.heap.get? b=on o->H b=JT->h'.get? b=on o)
  (slot:∀b o,b≠X.env.locals->b∈X.fs->b∉ch->s.heap.get? b=on o->H b=JT->∃sl,h'.get? b=on {o with slots:=sl}) (free:∀b o,b∉ch->s.heap.get? b=on o->H b=JT->H' b=JT)
  (there:∀b o,b∉ch->s.heap.get? b=on o->∃B,h'.get? b=on B)
  (tups:∀b xs,H b=on (.tup xs)->H' b=on (.tup xs)) (frzs:∀b o u,H b=on (.frz o u)->H' b=on (.frz o u)) (tbls:∀b ps,H b=on (.tbl ps)->∃more,H' b=on (.tbl (ps++more)))
  (ns:∀m,s.heap.Ns X.env.locals m->h'.Ns X.env.locals m) (hok:j_ X.prog X.w H' h') (O:O0 g'):
  cp X ai σ H' {s with heap:=h',gens:=g',drawn:=d',toks:=t'}:=by
 have C:∀b o,X.s₀.heap.get? b=on o->b≠X.env.locals:=λb o e=>K7 (Ku (Kr e) I.ok.above);have j:∀b o,X.s₀.heap.get? b=on o->b∉X.ex->b∉ch:=λb o e a y=>by
  rcases(f b y).1 with z|z
  .exact a z
  .exact Kx (Ku (Kr e) z) (Lc _)
 have g:∀x c,X.env.cells.lookup x=on c->∀v,s.heap.IsCell c v->h'.IsCell c v:=λx c e v ⟨o,A,hd⟩=>by
  have h:c∉ch:=λz=>(f c z).2.2.1 x c e rfl;by_cases L:c∈X.fs
  .obtain⟨sl,q⟩:=slot c o (I.cne x c e) L h A (I.freeC x c e)
   exact⟨_,q,hd⟩
  .exact⟨o,keep c o (I.cne x c e) L h A (I.freeC x c e),hd⟩
 refine⟨I.ok,I.os,O,⟨λb o e n y a=>?_,λb o e n y a=>?_,λb o e n a=>?_,λb o e a=>?_,λb xs e=>tups b xs (I.base.tups b xs e),λb o xs e=>frzs b o xs (I.base.frzs b o xs e),λb ps e=>?_⟩,?_,λx c e=>?_,?_,λx c e=>?_,λp N=>?_,hok,I.len⟩
 .exact keep b o (C b o e) y (j b o e a) (I.base.keep b o e n y a) (I.base.free b o e n a)
 .obtain⟨sl,t⟩:=I.base.slot b o e n y a
  obtain⟨J,F⟩:=slot b _ (C b o e) y (j b o e a) t (I.base.free b o e n a);exact⟨J,F⟩
 .obtain⟨B,t⟩:=I.base.there b o e a
  exact free b B (j b o e a) t (I.base.free b o e n a)
 .obtain⟨B,t⟩:=I.base.there b o e a
  exact there b B (j b o e a) t
 .obtain⟨m1,t⟩:=I.base.tbls b ps e
  obtain⟨m2,F⟩:=tbls b _ t;exact⟨m1++m2,by rw[F,Sk]⟩
 .obtain⟨m,hn,P⟩:=I.loc
  refine⟨m,ns m hn,λi x v t F Q=>?_⟩;obtain⟨u,r,l⟩:=P i x v t F Q;refine⟨u,r,?_⟩;rcases l with l|⟨k,c,e,z⟩
  .exact .inl l
  .exact .inr ⟨k,c,e,g x c e _ z⟩
 .obtain⟨v,z⟩:=I.cell x c e
  exact⟨v,g x c e v z⟩
 .obtain⟨m,⟨o,_,_,A,_⟩,_⟩:=I.loc
  exact free _ o (λz=>(f _ z).2.1 rfl) A I.free
 .obtain⟨v,o,A,hd⟩:=I.cell x c e
  exact free c o (λz=>(f c z).2.2.1 x c e rfl) A (I.freeC x c e)
 .obtain⟨e,n,ne,nf,d⟩:=I.pin p N
  have h:p.1∉ch:=λz=>(f p.1 z).2.2.2 p N rfl;exact⟨keep p.1 p.2 ne nf h e n,free p.1 p.2 h e n,ne,nf,d⟩
theorem cp.un(I:cp X ai σ H s)(u:Un X.fs [] H H' s.heap h')(hok:j_ X.prog X.w H' h'):cp X ai σ H' {s with heap:=h',toks:=t'}:=by
 obtain⟨m,⟨o,es,ep,g,r⟩,_⟩:=id I.loc;obtain⟨sl,h⟩:=u.any g I.free (by simp);exact I.step (g':=s.gens) (d':=s.drawn) (ch:=[]) (λ_ z=>nomatch z) (λb o _ c _ e n=>u.keep b o e n c (by simp)) (λb o _ c _ e n=>u.slot b o e n c (by simp)) (λb o _ e n=>u.free b o e n (by simp)) (λb o _ e=>u.there b o e (by simp)) u.tups u.frzs u.tbls (λj hm=>by
  obtain⟨k,d,f,a,i⟩:=hm;rw[g]at a;cases a;exact⟨_,d,f,h,i⟩) hok I.bare
theorem cp.call{ch:List JY}(I:cp X ai σ H s)(u:Un (hE X.stack) ch H H' s.heap h')(hok:j_ X.prog X.w H' h')(k:O0 g')
  (d:∀b∈ch,(b∈X.ex\/X.s₀.heap.objs.size<=b)/\b≠X.env.locals/\(∀x c,X.env.cells.lookup x=on c->c≠b)/\∀p∈X.pn++ai,p.1≠b):
  cp X ai σ H' {s with heap:=h',gens:=g',drawn:=d',toks:=t'}:=by
 obtain⟨m,⟨o,es,ep,j,r⟩,_⟩:=id I.loc;obtain⟨sl,g⟩:=u.any j I.free λz=>(d _ z).2.1 rfl;exact I.step (ch:=ch) d (λb o g l a e n=>u.keep b o e n (λz=>(Kk.mp (I.stkSub b z)).elim g l) a) (λb o _ _ a e n=>u.any e n a) (λb o a e n=>u.free b o e n a) (λb o a e=>u.there b o e a) u.tups u.frzs u.tbls (λt hm=>by
  obtain⟨v,h,i,f,q⟩:=hm;rw[j]at f;cases f;exact⟨_,h,i,g,q⟩) hok k
theorem cp.turned(I:cp X ai σ H s)(k:∀b o,b≠it->s.heap.get? b=on o->h'.get? b=on o)(hn:H it=JT)(f:it≠X.env.locals)
  (g:it∈X.ex\/X.s₀.heap.objs.size<=it) (h:∀x c,X.env.cells.lookup x=on c->c≠it) (i:∀p∈X.pn++ai,p.1≠it):cp X ai σ H {s with heap:=h',toks:=t'}:=by
 have d:∀b u,H b=on u->b≠it:=λb u e z=>by rw[z,hn]at e;cases e
 refine I.step (g':=s.gens) (d':=s.drawn) (ch:=[it]) (λb j=>?_) (λb o _ _ a e _=>k b o (λz=>a (by simp[z])) e) (λb o _ _ a e _=>⟨o.slots,k b o (λz=>a (by simp[z])) e⟩) (λ_ _ _ _ n=>n)
  (λb o a e=>⟨o,k b o (λz=>a (by simp[z])) e⟩) (λ_ _ e=>e) (λ_ _ _ e=>e) (λb ps e=>⟨#[],by rw[e];simp⟩) (λm hm=>?_) (λb u e=>?_) I.bare
 .have e:b=it:=by simpa using j
  subst e;exact⟨g,f,h,i⟩
 .obtain⟨o,es,ep,l,r⟩:=hm
  exact⟨o,es,ep,k _ o (Ne.symm f) l,r⟩
 .refine(I.hok b u e).stay (λc v a q=>k c v ?_ q) (λ_ q=>q) λ_ _ q=>q
  rcases a with z|z
  .rw[z];exact d b u e
  .exact d c _ z
theorem cp.tok(I:cp X ai σ H s)(t:Nat):cp X ai σ H {s with toks:=t}:=I.un (h':=s.heap) (t':=t) Un.refl I.hok
theorem cp.kept(I:cp X ai σ H s)(k:∀b u,s.heap.get? b=on u->h'.get? b=on u):cp X ai σ H {s with heap:=h',toks:=t'}:=I.un (Un.kept k) (I.hok.kept k)
theorem cp.laid{a:JY}{o:HO}{t':Nat}(I:cp X ai σ H s)(k:∀b u,s.heap.get? b=on u->h'.get? b=on u)(c:s.heap.objs.size<=a)(new:bC X.prog X.w (upd H a o) h' a o):
  cp X ai σ (upd H a o) {s with heap:=h',toks:=t'}:=I.un (Un.laid k c (I.hok.fresh c)) (I.hok.laid k c new)
theorem cp.write(I:cp X ai σ H s)(mu:UH (H x))(c:e=x\/H e=on (.own x))(k:∀b u,b≠e->s.heap.get? b=on u->h'.get? b=on u)(a:∃u,h'.get? e=on u)
  (new:bC X.prog X.w (upd H x o) h' x o):cp X ai σ (upd H x o) {s with heap:=h',toks:=t'}:=I.un (Un.write mu c k a) (I.hok.write mu c k a new)
theorem cp.pins_of(I:cp X ai σ H s)(h:∀p∈pins',s.heap.get? p.1=on p.2/\H p.1=JT/\p.1≠X.env.locals/\p.1∉X.fs/\∀v,p.2.data≠ .cell v):cp X pins' σ H s:=
 ⟨I.ok,I.os,I.bare,I.base,I.loc,I.cell,I.free,I.freeC,λp a=>(Ll.mp a).elim (λz=>I.pin p (MN _ z)) (h p),I.hok,I.len⟩
theorem rp{N:List K2}(c:N.Nodup){i j:Nat}{x:K2}(a:N[i]?=on x)(b:N[j]?=on x):i=j:=by
 obtain⟨f,d⟩:=Kc.mp a;obtain⟨g,e⟩:=Kc.mp b;exact(List.getElem_inj c).mp (d.trans e.symm)
theorem jR{M:Model}{E:J0->J4->Prop}(I:cp X ai σ H s)(hN:X.N.Nodup)(O:X.N[i]?=on x)(l:wl X.env.scope x)(r:aI v u)
  (h:∀s',cp X ai (σ.set i (on v)) H s'->(∃a,KI a s.heap s'.heap/\(a=X.env.locals\/X.env.cells.lookup x=on a))->Q () s') (hf:X.fn x=JW\/X.env.scope.names.lookup x=on .local:=by first|exact .inl rfl|exact .inr rfl|assumption):Ke M A (storeName X.env x u) Q E s:=by
 obtain⟨m,hn,hl⟩:=id I.loc;have P:(X.env.scope.kind== .class||(X.env.scope.kind== .module&&X.env.locals !=X.env.globals))=JZ:=by rw[I.ok.kind];rfl
 have C:i<σ.length:=by rw[I.len];exact(Kc.mp O).1
 have cne:=I.cne;have f:∀{a:JY} {h':Lj},(∃o,s.heap.get? a=on o/\H a=JT)->KI a s.heap h'->j_ X.prog X.w H h':=λ{a h'} ha hs b ob e=>by
  obtain⟨_,_,t⟩:=ha;refine(I.hok b ob e).stay (λc Y hc q=>(hs.2 c ?_).trans q) (λ_ q=>q) λ_ _ q=>q;rintro rfl;rcases hc with rfl|hc
  .rw[t]at e;cases e
  .rw[t]at hc;cases hc
 rcases l with hk|hk
 .refine wpAny_storeName_local hk hn (λh' hn' hs=>?_) P
  obtain⟨oL,_,_,hoL,_⟩:=id hn;refine h _ ⟨I.ok,I.os,I.bare,⟨λb o e n F l=>?_,λb o e n F l=>?_,I.base.free,λb o e l=>?_,I.base.tups,I.base.frzs,I.base.tbls⟩,⟨_,hn',λj y v' g B e3=>?_⟩,λy c e=>?_,I.free,I.freeC,λp hp=>?_,f ⟨oL,hoL,I.free⟩ hs,by simpa using I.len⟩ ⟨_,hs,.inl rfl⟩
  .exact(hs.2 b (K7 (Ku (Kr e) I.ok.above))).trans (I.base.keep b o e n F l)
  .obtain⟨sl,g⟩:=I.base.slot b o e n F l
   exact⟨sl,(hs.2 b (K7 (Ku (Kr e) I.ok.above))).trans g⟩
  .obtain⟨o',g⟩:=I.base.there b o e l
   exact⟨o',(hs.2 b (K7 (Ku (Kr e) I.ok.above))).trans g⟩
  .by_cases J:j=i
   .subst J
    rw[O]at g;cases g;rw[RH C]at B;cases B;exact⟨u,r,.inl ⟨hk,by simp⟩⟩
   .rw[Sf (Ne.symm J)]at B
    obtain⟨u',r',q⟩:=hl j y v' g B e3;refine⟨u',r',?_⟩;rcases q with⟨k,e⟩|⟨k,c,e,z⟩
    .refine .inl ⟨k,?_⟩
     have:y≠x:=λe=>J (rp hN g (e▸O));simp[this,e]
    .exact .inr ⟨k,c,e,z.sameBut hs (cne y c e)⟩
  .obtain⟨Y,z⟩:=I.cell y c e
   exact⟨Y,z.sameBut hs (cne y c e)⟩
  .obtain⟨e,n,ne,nf,d⟩:=I.pin p hp
   exact⟨(hs.2 p.1 ne).trans e,n,ne,nf,d⟩
 .have L:X.fn x=JW:=by
   rcases hf with z|z
   .exact z
   .rw[z]at hk;cases hk
  obtain⟨c,hc⟩:=I.ok.has x (.inl hk);obtain⟨Y,z⟩:=I.cell x c hc;refine wpAny_storeName_cell I.ok.kind hk hc z (λh' R hs=>?_);obtain⟨oc,T,U⟩:=id z;refine h {s with heap:=h'} ⟨I.ok,I.os,I.bare,⟨λb o e n F l=>?_,λb o e n F l=>?_,I.base.free,λb o e l=>?_,I.base.tups,I.base.frzs,I.base.tbls⟩,⟨m,hn.sameBut hs (Ne.symm (cne x c hc)),λj y v' g B e3=>?_⟩,λy Z e=>?_,I.free,I.freeC,λp hp=>?_,f ⟨oc,T,I.freeC x c hc⟩ hs,by simpa using I.len⟩ ⟨c,hs,.inr hc⟩
  .exact(hs.2 b (K7 (Ku (Kr e) (I.ok.cab x c L hc)))).trans (I.base.keep b o e n F l)
  .obtain⟨sl,g⟩:=I.base.slot b o e n F l
   exact⟨sl,(hs.2 b (K7 (Ku (Kr e) (I.ok.cab x c L hc)))).trans g⟩
  .obtain⟨o',g⟩:=I.base.there b o e l
   exact⟨o',(hs.2 b (K7 (Ku (Kr e) (I.ok.cab x c L hc)))).trans g⟩
  .by_cases J:j=i
   .subst J
    rw[O]at g;cases g;rw[RH C]at B;cases B;exact⟨u,r,.inr ⟨.inl hk,c,hc,R⟩⟩
   .rw[Sf (Ne.symm J)]at B
    obtain⟨u',r',q⟩:=hl j y v' g B e3;refine⟨u',r',?_⟩;rcases q with q|⟨k,Z,e,z'⟩
    .exact .inl q
    .refine .inr ⟨k,Z,e,z'.sameBut hs ?_⟩
     rintro rfl;exact J (rp hN g (I.ok.inj _ _ _ e hc▸O))
  .by_cases W:Z=c
   .subst W;exact⟨_,R⟩
   .obtain⟨w2,z2⟩:=I.cell y Z e
    exact⟨w2,z2.sameBut hs W⟩
  .obtain⟨e,n,ne,nf,d⟩:=I.pin p hp
   refine⟨(hs.2 p.1 ?_).trans e,n,ne,nf,d⟩;intro q;rw[q,T]at e;have q':oc=p.2:=KE e;exact d Y (by rw[<-q'];exact U)
theorem lM{M:Model}{E:J0->J4->Prop}(I:cp X ai σ H s)(a:X.N.Nodup)(b:X.N[i]?=on x)(c:wl X.env.scope x)(r:aI v u)
  (h:∀s',cp X ai (σ.set i (on v)) H s'->Q () s') (d:X.fn x=JW\/X.env.scope.names.lookup x=on .local:=by first|exact .inl rfl|exact .inr rfl|assumption):Ke M A (storeName X.env x u) Q E s:=
 jR I a b c r (λs' e _=>h s' e) d
theorem cp.call'{s':J4}{ch:List JY}(I:cp X ai σ H s)(d:s'.os=s.os)(u:Un (hE X.stack) ch H H' s.heap s'.heap)(hok:j_ X.prog X.w H' s'.heap)(f:O0 s'.gens)
  (a:∀b∈ch,(b∈X.ex\/X.s₀.heap.objs.size<=b)/\b≠X.env.locals/\(∀x c,X.env.cells.lookup x=on c->c≠b)/\∀p∈X.pn++ai,p.1≠b):cp X ai σ H' s':=by
 obtain⟨h',g',d',t',g⟩:=s';have e:g=s.os:=d;subst e;exact I.call (g':=g') (t':=t') (d':=d') u hok f a
abbrev XK:=J0->Option JY->Hp->Prop
abbrev St:=List (Option V)
abbrev VK:=V->Hp->Prop
abbrev TE:=St->Hp->VK->Prop
abbrev TT:=St->Hp->(Bool->Hp->Prop)->Prop
abbrev TA:=St->Hp->(List V->Hp->Prop)->Prop
structure rz where
 nx:St->Hp->Prop
 rt:VK
 bk:St->Hp->Prop:=λ_ _=>False
 ct:St->Hp->Prop:=λ_ _=>False
abbrev TS:=rz->St->Hp->Prop
def EP(X:Cx)(ai:List (JY×KS))(σ:St)(Q:VK)(u:J0)(s':J4):Prop:=∃v H',cp X ai σ H' s'/\aI v u/\Q v H'
def TP(X:Cx)(ai:List (JY×KS))(σ:St)(Q:Bool->Hp->Prop)(b:Bool)(s':J4):Prop:=∃H',cp X ai σ H' s'/\Q b H'
def AP(X:Cx)(ai:List (JY×KS))(σ:St)(Q:List V->Hp->Prop)(us:List J0)(s':J4):Prop:=∃vs H',cp X ai σ H' s'/\aq vs us/\Q vs H'
def SP(X:Cx)(ai:List (JY×KS))(D:rz)(f:Flow)(s':J4):Prop:=
 match f with
 | .next=>∃a H',cp X ai a H' s'/\D.nx a H'
 | .brk=>∃a H',cp X ai a H' s'/\D.bk a H'
 | .cont=>∃a H',cp X ai a H' s'/\D.ct a H'
 | .ret u=>∃v a H',cp X ai a H' s'/\aI v u/\D.rt v H'
def PE(X:Cx)(e:Expr)(t:TE):Prop:=
 ∀(ai:List (JY×KS)) (s:J4) (σ:St) (H:Hp) (Q:VK),cp X ai σ H s->t σ H Q->Ke (Ky X.prog X.w) X.A (LC e X.env) (EP X ai σ Q) X.xe s
def PT(X:Cx)(e:Expr)(t:TT):Prop:=
 ∀(ai:List (JY×KS)) (s:J4) (σ:St) (H:Hp) (Q:Bool->Hp->Prop),cp X ai σ H s->t σ H Q->Ke (Ky X.prog X.w) X.A (isTrue e X.env (LC e X.env)) (TP X ai σ Q) X.xe s
def PW(X:Cx)(e:Expr)(t:TT):Prop:=
 ∀(a:Sem J0) (ai:List (JY×KS)) (s:J4) (σ:St) (H:Hp) (Q:Bool->Hp->Prop),cp X ai σ H s->t σ H Q->Ke (Ky X.prog X.w) X.A (isTrue e X.env a) (TP X ai σ Q) X.xe s
theorem PW.pt{X:Cx}(h:PW X e t):PT X e t:=h _
def PA(X:Cx)(es:List Expr)(t:TA):Prop:=
 ∀(pos:OH) (ai:List (JY×KS)) (s:J4) (σ:St) (H:Hp) (Q:List V->Hp->Prop),cp X ai σ H s->t σ H Q->Ke (Ky X.prog X.w) X.A (spliced (Nw pos (Kj es X.env))) (AP X ai σ Q) X.xe s
def PS(X:Cx)(st:LM)(t:TS):Prop:=
 ∀(ai:List (JY×KS)) (s:J4) (σ:St) (H:Hp) (D:rz),cp X ai σ H s->t D σ H->Ke (Ky X.prog X.w) X.A (exec st X.env) (SP X ai D) X.xe s
def PSs(X:Cx)(st:List LM)(t:TS):Prop:=
 ∀(ai:List (JY×KS)) (s:J4) (σ:St) (H:Hp) (D:rz),cp X ai σ H s->t D σ H->Ke (Ky X.prog X.w) X.A (execs st X.env) (SP X ai D) X.xe s
theorem d_{α:Type}{t:Sem α}{Q b:α->J4->Prop}{M:Model}{A:Lf}{E:J0->J4->Prop}{s:J4}(h:Ke M A t Q E s)(c:∀a s,Q a s->b a s):Ke M A t b E s:=Ld h c λ_ _ x=>x
def eX(i:Nat):TE:=λσ H Q=>∃v,σ[i]?=on (on v)/\Q v H
def tC(v:V):TE:=λ_ H Q=>Q v H
theorem GY(g:X.N[i]?=on x)(j:Uc X.env.scope x)(hd:(x==("__debug__":K2))=JZ:=by decide)(d:(x==("__classdict__":K2))=JZ:=by decide):PE X (.Name x pos) (eX i):=by
 intro ai s σ H Q I h;obtain⟨v,e,h⟩:=h;obtain⟨m,hn,k⟩:=I.loc;obtain⟨u,r,l⟩:=k i x v g e j;have b:EP X ai σ Q u s:=⟨v,H,I,r,h⟩;rcases l with⟨hk,hm⟩|⟨hk,c,f,a⟩
 .exact wpAny_Name (wpAny_loadName_local I.ok.kind hk hn hm b) hd
 .rcases hk with hk|hk
  .exact wpAny_Name (wpAny_loadName_cell I.ok.kind hk f a b) hd
  .exact wpAny_Name (wpAny_loadName_free I.ok.kind hk f a b d) hd
theorem bL{i j pos}:PE X (.Constant (.int i) j pos) (tC (.int i)):=λ_ _ _ H _ I h=>wpAny_Constant_int ⟨.int i,H,I.tok _,⟨_,rfl⟩,h⟩
theorem Jc{b j pos}:PE X (.Constant (.bool b) j pos) (tC (.bl b)):=λ_ _ _ H _ I h=>Constant_bool ⟨.bl b,H,I,rfl,h⟩
theorem G2{j pos}:PE X (.Constant .none j pos) (tC .non):=λ_ _ _ H _ I h=>Constant_none ⟨.non,H,I,rfl,h⟩
def Gl(X:Cx)(x:K2):Prop:=X.env.kindOf x=on .globalImplicit
theorem oC{E:J0->J4->Prop}{ai:List (JY×KS)}{s:J4}{σ:St}{H:Hp}(I:cp X ai σ H s)(a:Gl X x)(hm:X.mg x=on u)(h:Q u s)
  (hd:(x==("__debug__":K2))=JZ:=by decide):Ke (Ky X.prog X.w) X.A (LC (.Name x pos) X.env) Q E s:=
 QS I.ok.kind a (Calls.loadGlobal_global (by rw[I.ok.glob];exact I.mod.glob.keeps I.bk) hm h) hd
theorem eE{E:J0->J4->Prop}{ai:List (JY×KS)}{s:J4}{σ:St}{H:Hp}(I:cp X ai σ H s)(a:Gl X x)(hm:X.mg x=JT)(b:Nk x=on u)(h:Q u s)
  (hn:x≠"__name__":=by decide) (hd:(x==("__debug__":K2))=JZ:=by decide):Ke (Ky X.prog X.w) X.A (LC (.Name x pos) X.env) Q E s:=by
 obtain⟨e,c,d⟩:=I.mod.blt;exact QS I.ok.kind a (Calls.loadGlobal_builtin (by rw[I.ok.glob];exact I.mod.glob.keeps I.bk) hm (by rw[I.ok.blt];exact c.keeps I.bk) ((d x hn).trans b) h) hd
theorem EM(a:Gl X x)(hm:X.mg x=on u)(r:aI v u)(hd:(x==("__debug__":K2))=JZ:=by decide):PE X (.Name x pos) (tC v):=
 λ_ _ _ H _ I h=>oC I a hm ⟨v,H,I,r,h⟩ hd
theorem cS(a:Gl X x)(hm:X.mg x=JT)(b:Nk x=on u)(r:aI v u)(hn:x≠"__name__":=by decide)(hd:(x==("__debug__":K2))=JZ:=by decide):PE X (.Name x pos) (tC v):=
 λ_ _ _ H _ I h=>eE I a hm b ⟨v,H,I,r,h⟩ hn hd
variable{a b:Expr}{ta tb:TE}{pos:OH}
variable{tA tB':TT}{rest:List Expr}
def Gp(t u:TT):TT:=λσ H Q=>t σ H λc H1=>if c=JW then u σ H1 Q else Q JZ H1
def WK(t u:TT):TT:=λσ H Q=>t σ H λc H1=>if c=JW then Q JW H1 else u σ H1 Q
def US(t:TT):TT:=λσ H Q=>t σ H λc H1=>Q (!c) H1
theorem EF(ha:PT X a tA):PW X (.BoolOp .And [a] pos) tA:=by
 intro d ai s σ H Q I h;refine isTrue_and (d_ (ha ai s σ H Q I h) λc f e=>?_);cases c with
 |true=>exact isTrue_and_nil e
 |false=>exact e
theorem GR(ha:PT X a tA):PW X (.BoolOp .Or [a] pos) tA:=by
 intro d ai s σ H Q I h;refine isTrue_or (d_ (ha ai s σ H Q I h) λc f e=>?_);cases c with
 |false=>exact isTrue_or_nil e
 |true=>exact e
theorem GS(ha:PT X a tA)(e:PW X (.BoolOp .And (b::rest) pos) tB'):PW X (.BoolOp .And (a::b::rest) pos) (Gp tA tB'):=by
 intro f ai s σ H Q I h;refine isTrue_and (d_ (ha ai s σ H _ I h) λc g ⟨H1,d,q1⟩=>?_);cases c with
 |true=>exact e f ai g σ H1 Q d q1
 |false=>exact⟨H1,d,q1⟩
theorem I9(ha:PT X a tA)(e:PW X (.BoolOp .Or (b::rest) pos) tB'):PW X (.BoolOp .Or (a::b::rest) pos) (WK tA tB'):=by
 intro f ai s σ H Q I h;refine isTrue_or (d_ (ha ai s σ H _ I h) λc g ⟨H1,d,q1⟩=>?_);cases c with
 |true=>exact⟨H1,d,q1⟩
 |false=>exact e f ai g σ H1 Q d q1
theorem GU(ha:PT X a tA):PT X (.UnaryOp .Not a pos) (US tA):=by
 intro ai s σ H Q I h;exact isTrue_not (ha ai s σ H (λc H1=>Q (!c) H1) I h)
def IU(ta tb:TE):TE:=λσ H Q=>ta σ H λx H1=>∃c,x= .bl c/\if c=JW then tb σ H1 Q else Q (.bl JZ) H1
theorem G1{op}(h:PE X a t):PE X (.BoolOp op [a] pos) t:=λai s σ H Q I c=>BoolOp_one (h ai s σ H Q I c)
theorem G3(ha:PE X a ta)(e:PE X (.BoolOp .And (b::rest) pos) tb):PE X (.BoolOp .And (a::b::rest) pos) (IU ta tb):=by
 intro ai s σ H Q I h;refine BoolOp_and (d_ (ha ai s σ H _ I h) λv f ⟨x,H1,d,g,q1⟩=>?_);obtain⟨c,rfl,q1⟩:=q1;cases g;refine LD ?_;cases c with
 |true=>exact e ai f σ H1 Q d q1
 |false=>exact⟨.bl JZ,H1,d,rfl,q1⟩
def e_(K:Kt)(H:Hp)(a:JY)(xs:List V):Prop:=
 Rd H a (.lst xs)\/
  ∃(o:KS) (its:Array J0) (n:Nat),K.lookup a=on o/\o.cls= .type "list"/\o.dict=JT/\o.data= .seq its n/\its.size<=Ki/\aq xs its.toList
def hH(K:Kt)(H:Hp)(a:JY)(xs:List V):Prop:=
 Rd H a (.tup xs)\/
  ∃(o:KS) (its:Array J0) (n:Nat),K.lookup a=on o/\o.cls= .type "tuple"/\o.data= .seq its n/\its.size<=Ki/\aq xs its.toList
noncomputable def Wv:J0->Option V
 | .none=>on .non
 | .bool b=>on (.bl b)
 | .int i _=>on (.int i)
 | .str x _=>on (.str x)
 | .ref a=>on (.ref a)
 | .type n=>on (.ty n)
 |_=>JT
theorem aI.abs(r:aI x u):Wv u=on x:=by
 cases x with
 |non=>cases r;rfl
 |bl _=>cases r;rfl
 |int _=>obtain⟨t,rfl⟩:=r;rfl
 |str _=>obtain⟨t,rfl⟩:=r;rfl
 |ref _=>cases r;rfl
 |ty _=>cases r;rfl
theorem aI.inj(r:aI x u)(q:aI y u):x=y:=KE (r.abs.symm.trans q.abs)
theorem aq.inj:∀{xs ys:List V} {us:List J0},aq xs us->aq ys us->xs=ys
 |_,_,_,.nil,.nil=>rfl
 |_,_,_,.cons r t,.cons r' t'=>by rw[r.inj r',aq.inj t t']
end
section
variable{X:Cx}{ai:List (JY×KS)}{σ:St}{H:Hp}{s:J4}{a:JY}{xs ys:List V}
theorem e_.of{K:Kt}(h:H a=on (.lst xs)):e_ K H a xs:= .inl (.inl h)
theorem cp.list(I:cp X ai σ H s)(h:e_ X.K H a xs):∃its:List J0,aq xs its/\PlainL s.heap a its.toArray/\xs.length<=Ki:=by
 rcases h with h|⟨o,its,n,b,c,hd,hs,d,r⟩
 .obtain⟨z,its,n,r,e⟩:=h.ok I.hok
  exact⟨its,r,⟨_,n,e,rfl,rfl,rfl⟩,z⟩
 .refine⟨its.toList,r,⟨o,n,I.kIn a o b,c,hd,by simpa using hs⟩,?_⟩
  have e:=r.length;simp only[KG]at e;omega
theorem cp.tuple(I:cp X ai σ H s)(h:hH X.K H a xs):∃its:List J0,aq xs its/\SU s.heap a its.toArray/\xs.length<=Ki:=by
 rcases h with h|⟨o,its,n,b,c,hs,d,r⟩
 .obtain⟨z,its,r,p⟩:=h.ok I.hok
  exact⟨its,r,p,z⟩
 .refine⟨its.toList,r,⟨o,I.kIn a o b,c,n,by simpa using hs⟩,?_⟩
  have e:=r.length;simp only[KG]at e;omega
theorem cp.list_inj(I:cp X ai σ H s)(h:e_ X.K H a xs)(h':e_ X.K H a ys):xs=ys:=by
 obtain⟨its,r,⟨o,n,e,_,_,d⟩,_⟩:=I.list h;obtain⟨its',c,⟨f,g,b,_,_,d'⟩,_⟩:=I.list h';rw[e]at b;cases b;rw[d]at d'
 injection d' with d1 _
 have:its=its':=by simpa using La Array.toList d1
 subst this;exact r.inj c
theorem cp.tuple_inj(I:cp X ai σ H s)(h:hH X.K H a xs)(h':hH X.K H a ys):xs=ys:=by
 obtain⟨its,r,⟨o,e,_,n,d⟩,_⟩:=I.tuple h;obtain⟨its',c,⟨f,b,_,g,d'⟩,_⟩:=I.tuple h';rw[e]at b;cases b;rw[d]at d'
 injection d' with d1 _
 have:its=its':=by simpa using La Array.toList d1
 subst this;exact r.inj c
noncomputable abbrev Cx.wish(X:Cx)(E:J0->J4->Prop):Cx:={X with xe:=E}
noncomputable abbrev Cx.nox(X:Cx):Cx:=X.wish λ_ _=>False
theorem Cx.Ok.wish{X:Cx}(ok:X.Ok)(E:J0->J4->Prop):(X.wish E).Ok:=
 ⟨ok.mod,ok.kind,ok.glob,ok.blt,ok.above,ok.inj,ok.has,ok.cab,ok.hd,ok.frames,ok.stk,ok.exf,ok.bs,ok.bsz,ok.noex,ok.exfs,ok.funs,ok.frf⟩
theorem Cx.Ok.unwish{X:Cx}{E:J0->J4->Prop}(ok:(X.wish E).Ok):X.Ok:=
 ⟨ok.mod,ok.kind,ok.glob,ok.blt,ok.above,ok.inj,ok.has,ok.cab,ok.hd,ok.frames,ok.stk,ok.exf,ok.bs,ok.bsz,ok.noex,ok.exfs,ok.funs,ok.frf⟩
variable{E:J0->J4->Prop}
theorem cp.wish(I:cp X ai σ H s)(E:J0->J4->Prop):cp (X.wish E) ai σ H s:=⟨I.ok.wish E,I.os,I.bare,I.base,I.loc,I.cell,I.free,I.freeC,I.pin,I.hok,I.len⟩
theorem cp.unwish(I:cp (X.wish E) ai σ H s):cp X ai σ H s:=⟨I.ok.unwish,I.os,I.bare,I.base,I.loc,I.cell,I.free,I.freeC,I.pin,I.hok,I.len⟩
theorem SP.unwish{D:rz}(h:SP (X.wish E) ai D f s'):SP X ai D f s':=by
 cases f with
 |next=>obtain⟨b,c,I,q⟩:=h;exact⟨b,c,I.unwish,q⟩
 |brk=>obtain⟨b,c,I,q⟩:=h;exact⟨b,c,I.unwish,q⟩
 |cont=>obtain⟨b,c,I,q⟩:=h;exact⟨b,c,I.unwish,q⟩
 |ret u=>obtain⟨v,b,c,I,r,q⟩:=h;exact⟨v,b,c,I.unwish,r,q⟩
theorem PSs.nox{st:List LM}(h:PSs X.nox st t):PSs X st t:=λai s σ H D I b=>
 Ld (h ai s σ H D (I.wish _) b) (λ_ _ q=>q.unwish) λ_ _ z=>MB z
variable{st:LM}{rest:List LM}{t u:TS}{e:Expr}{te:TE}{pos:OH}
noncomputable def IS:TS:=λD σ H=>D.nx σ H
def UQ(t u:TS):TS:=λD σ H=>t {D with nx:=u D} σ H
theorem tB:PSs X [] IS:=λ_ _ σ H _ I h=>RA ⟨σ,H,I,h⟩
theorem dm(c:PS X st t)(d:PSs X rest u):PSs X (st::rest) (UQ t u):=by
 intro ai s σ H D I h;refine wpAny_execs_cons (d_ (c ai s σ H {D with nx:=u D} I h) λf g q=>?_);cases f with
 |next=>
  obtain⟨b,i,j,q⟩:=q;exact d ai g b i D j q
 |ret v=>exact q
 |brk=>exact q
 |cont=>exact q
theorem kU(b:PS X st t):PSs X [st] t:=by
 intro ai s σ H D I h;refine wpAny_execs_cons (d_ (b ai s σ H D I h) λf c q=>?_);cases f with
 |next=>exact RA q
 |ret v=>exact q
 |brk=>exact q
 |cont=>exact q
theorem cp.quiet{ai:List (JY×KS)}{σ:St}{H:Hp}{s:J4}(I:cp X ai σ H s):interactive X.env=JZ:=by simp[interactive,I.ok.kind]
def mD(te:TE):TS:=λD σ H=>te σ H λ_ H1=>D.nx σ H1
theorem dB(b:PE X e te)(hs:Pd e JT pos.line X.env=Mm JZ:=by rfl):PS X (.Expr e pos) (mD te):=by
 intro ai s σ H D I h;exact wpAny_Expr_any (d_ (b ai s σ H _ I h) λv d ⟨x,H1,c,f,q1⟩=>⟨σ,H1,c,q1⟩) I.quiet hs
def yN(te:TE):TS:=λD σ H=>te σ H D.rt
theorem aK(b:PE X e te):PS X (.Return (on e) pos) (yN te):=by
 intro ai s σ H D I h;exact wpAny_Return_some (d_ (b ai s σ H _ I h) λv f ⟨x,H1,c,d,q1⟩=>⟨x,σ,H1,c,d,q1⟩)
def UT(c:TT)(t u:TS):TS:=λD σ H=>c σ H λb H1=>if b=JW then t D σ H1 else u D σ H1
theorem CI{a b:List LM}(i:PT X c tc)(ha:PSs X a t)(j:PSs X b u):PS X (.If c a b pos) (UT tc t u):=by
 intro ai s σ H D I h;refine wpAny_If (d_ (i ai s σ H _ I h) λd f ⟨H1,g,q1⟩=>?_);cases d with
 |true=>exact ha ai f σ H1 D g q1
 |false=>exact j ai f σ H1 D g q1
abbrev TG:=V->St->Hp->(St->Hp->Prop)->Prop
abbrev I_:=List V->St->Hp->(St->Hp->Prop)->Prop
def PG(X:Cx)(b:Expr)(t:TG):Prop:=
 ∀(ai:List (JY×KS)) (s:J4) (σ:St) (H:Hp) (v:V) (u:J0) (Q:St->Hp->Prop),cp X ai σ H s->aI v u->t v σ H Q->
  Ke (Ky X.prog X.w) X.A (OU b X.env u) (λ_ s'=>∃c d,cp X ai c d s'/\Q c d) X.xe s
def UF(X:Cx)(d:List Expr)(t:I_):Prop:=
 ∀(ai:List (JY×KS)) (s:J4) (σ:St) (H:Hp) (vs:List V) (us:List J0) (Q:St->Hp->Prop),cp X ai σ H s->aq vs us->t vs σ H Q->
  Ke (Ky X.prog X.w) X.A (assignInOrder ((P0 d X.env).map (·.2)) us) (λ_ s'=>∃b c,cp X ai b c s'/\Q b c) X.xe s
abbrev BG:=V->V->V->Hp->(Hp->Prop)->Prop
def BH(X:Cx)(t:BG):Prop:=
 ∀(ai:List (JY×KS)) (s:J4) (σ:St) (H:Hp) (o i v:V) (b c u:J0) (Q:Hp->Prop),cp X ai σ H s->aI o b->aI i c->aI v u->t o i v H Q->
  Ke (Ky X.prog X.w) X.A (setItem b c u) (λ_ s'=>∃d,cp X ai σ d s'/\Q d) X.xe s
abbrev UC:=V->V->Hp->VK->Prop
def UE(X:Cx)(op:Operator)(t:UC):Prop:=
 ∀(ai:List (JY×KS)) (s:J4) (σ:St) (H:Hp) (x y:V) (v u:J0) (Q:VK),cp X ai σ H s->aI x v->aI y u->t x y H Q->
  Ke (Ky X.prog X.w) X.A (inplaceOp op v u) (EP X ai σ Q) X.xe s
def c9(i:Nat):TG:=λv σ H Q=>Q (σ.set i (on v)) H
theorem tJ(b:X.N.Nodup)(c:X.N[i]?=on x)(d:wl X.env.scope x)(f:X.fn x=JW\/X.env.scope.names.lookup x=on .local:=by first|exact .inl rfl|exact .inr rfl|assumption):PG X (.Name x pos) (c9 i):=by
 intro ai s σ H v u Q I r h;exact Q2 (lM I b c d r (λs' g=>⟨_,H,g,h⟩) f)
noncomputable def gNil:I_:=λvs σ H Q=>vs=[]/\Q σ H
def vI(t:TG)(u:I_):I_:=λvs σ H Q=>∃v r,vs=v::r/\t v σ H λb c=>u r b c Q
theorem bu:UF X [] gNil:=by
 intro ai s σ H vs us Q I r h;obtain⟨e,h⟩:=h;subst e;cases r;exact assignInOrder_nil ⟨σ,H,I,h⟩
theorem aw{e:Expr}{t:TG}{u:I_}(c:PG X e t)(d:UF X es u)
  (hs:(P0 (e::es) X.env).map (·.2)=OU e X.env::(P0 es X.env).map (·.2):=by rfl):UF X (e::es) (vI t u):=by
 intro ai s σ H vs us Q I r h;obtain⟨v,k,f,h⟩:=h;subst f;cases r with
 |cons r g=>
  rw[hs];refine assignInOrder_cons (d_ (c ai s σ H _ _ _ I r h) λ_ i ⟨b,H1,j,q1⟩=>?_);exact d ai i b H1 _ _ Q j g q1
def zL(K:Kt)(n:Nat)(t:I_):TG:=λv σ H Q=>∃a xs,v= .ref a/\hH K H a xs/\xs.length=n/\t xs σ H Q
theorem bK{t:I_}(g:X.calm=JW)(h:UF X es t)
  (hn:(P0 es X.env).length=n:=by rfl) (c:(P0 es X.env).findIdx? (·.1)=JT:=by rfl):PG X (.Tuple es k pos) (zL X.K n t):=by
 intro ai s σ H v u Q I r d;obtain⟨a,xs,i,j,l,d⟩:=d;subst i;cases r;obtain⟨its,f,m,w⟩:=I.tuple j;refine assign_Tuple_tuple (I.ok.hd g) m (by simp[hn,<-l,f.length]) c λh' p=>?_;have q:cp X ai σ H {s with heap:=h'}:=I.kept (t':=s.toks) λb o e=>p b o (K7 (Kr e)) e;exact h ai _ σ H xs _ Q q (by simpa using f) d
def rX(to b:TE)(t:BG):TG:=λv σ H Q=>to σ H λo H1=>b σ H1 λi c=>t o i v c λd=>Q σ d
theorem cq{t:BG}(d:PE X o to)(f:PE X i ti)(hs:BH X t)
  (ha:∀v,OU (.Subscript o i pos) X.env v=(do
   let b <-P3 [v] (LC o X.env)
   let c <-P3 [v,b] (LC i X.env)
   O8 pos
   P3 [v,b,c] (setItem b c v)
   release [v,b,c] []):=by intro _;rfl):PG X (.Subscript o i pos) (rX to ti t):=by
 intro ai s σ H v u Q I r h;rw[ha];refine JR (Ln (d_ (d ai s σ H _ I h) λb g ⟨x,H1,j,k,q1⟩=>?_));refine JR (Ln (d_ (f ai g σ H1 _ j q1) λc l ⟨y,m,n,p,q2⟩=>?_));refine JR (Mr (JR (Ln (d_ (hs ai l σ m x y v b c u _ n k p r q2) λ_ A ⟨q,w,q3⟩=>?_))));exact wpAny_release ⟨σ,q,w,q3⟩
def dH(te:TE)(g:TG):TS:=λD σ H=>te σ H λx H1=>g x σ H1 D.nx
theorem bR{tg e:Expr}{te:TE}(b:PE X e te)(c:PG X tg g)(hs:swapsWithSole [tg] e pos.line X.env=Mm JZ:=by rfl)(d:swappedStores [tg] e X.env=Mm JT:=by rfl)
  (f:(P0 [tg] X.env).map (·.2)=[OU tg X.env]:=by rfl):PS X (.Assign [tg] e pos) (dH te g):=by
 intro ai s σ H D I h;refine wpAny_Assign_stores (d_ (b ai s σ H _ I h) λv i ⟨x,H1,j,k,q1⟩=>?_) hs d;rw[f];exact d_ (c ai i σ H1 x v _ j k q1) λ_ l q=>q
theorem mY{e:Expr}{te:TE}(b:X.N.Nodup)(c:X.N[i]?=on x)(d:wl X.env.scope x)(f:PE X e te)(hs:Pd e (on (.Name x pos')) pos.line X.env=Mm JZ:=by rfl)(g:X.fn x=JW\/X.env.scope.names.lookup x=on .local:=by first|exact .inl rfl|exact .inr rfl|assumption):
  PS X (.Assign [.Name x pos'] e pos) (dH te (c9 i)):=by
 intro ai s σ H D I h;refine wpAny_Assign_Name (d_ (f ai s σ H _ I h) λv m ⟨y,H1,j,k,q1⟩=>?_) hs;exact lM j b c d k (λn l=>⟨_,H1,l,q1⟩) g
def Go(i:Nat)(te:TE)(b:UC):TS:=λD σ H=>∃x,σ[i]?=on (on x)/\te σ H λy H1=>b x y H1 λz c=>D.nx (σ.set i (on z)) c
theorem j5{e:Expr}{te:TE}(o:X.N.Nodup)(n:X.N[i]?=on x)(g:wl X.env.scope x)(p:PE X e te)(q:UE X op ti)(B:X.fn x=JW\/X.env.scope.names.lookup x=on .local:=by first|exact .inl rfl|exact .inr rfl|assumption):
  PS X (.AugAssign (.Name x pos') op e pos) (Go i te ti):=by
 intro ai s σ H D I h;obtain⟨v,C,h⟩:=h;obtain⟨m,hn,F⟩:=I.loc;have j:Uc X.env.scope x:=by rcases g with k|k;exact .inl k;exact .inr (.inl k)
 obtain⟨u,r,l⟩:=F i x v n C j;refine wpAny_AugAssign_Name ?_;have go:Ke (Ky X.prog X.w) X.A (LC e X.env) (λw d=>Ke (Ky X.prog X.w) X.A (inplaceOp op u w) (λr f=>Ke (Ky X.prog X.w) X.A (storeName X.env x r) (λ_=>SP X ai D .next) X.xe f) X.xe d) X.xe s:=by
  refine d_ (p ai s σ H _ I h) λw J ⟨y,H1,L,O,q1⟩=>?_;refine d_ (q ai J σ H1 v y u w _ L r O q1) λz W ⟨Y,P,Q,R,q2⟩=>?_;exact lM Q o n g R (λZ T=>⟨_,P,T,q2⟩) B
 rcases l with⟨hk,hm⟩|⟨hk,c,U,b⟩
 .exact wpAny_loadName_local I.ok.kind hk hn hm go
 .rcases hk with hk|hk
  .exact wpAny_loadName_cell I.ok.kind hk U b go
  .rcases g with k|k
   .have:X.env.scope.names.lookup x=on .free:=hk
    rw[k]at this;cases this
   .have:X.env.scope.names.lookup x=on .free:=hk
    rw[k]at this;cases this
def WS(f:Int->Int->Int):UC:=λx y H Q=>∃i j,x= .int i/\y= .int j/\Q (.int (f i j)) H
theorem x5:UE X .Add (WS λi j=>i+j):=by
 intro ai s σ H x y v u Q I b c h;obtain⟨i,j,d,f,q⟩:=h;subst d;subst f;obtain⟨t,rfl⟩:=b;obtain⟨t',rfl⟩:=c;exact iadd_int ⟨.int _,H,I.tok _,⟨_,rfl⟩,q⟩
structure It where
 go:Nat->Hp->Prop
 yld:Nat->Hp->V->Hp->Prop
 stop:Nat->Hp->Prop
def eA(X:Cx)(ai:List (JY×KS))(H:Hp)(b:JY):Prop:=
 H b=JT/\b≠X.env.locals/\b∉X.fs/\(b∈X.ex\/X.s₀.heap.objs.size<=b)/\(∀x c,X.env.cells.lookup x=on c->c≠b)/\∀p∈X.pn++ai,p.1≠b
theorem cp.fpOk{X:Cx}{ai:List (JY×KS)}{σ:St}{H f:Hp}{s:J4}{b:JY}(I:cp X ai σ H s)(d:s.heap.objs.size<=b)(hn:f b=JT):eA X ai f b:=by
 refine⟨hn,Mz (Ku I.lt d),I.nofs d,.inr (Kl I.sz d),λx c e z=>?_,λp g z=>?_⟩
 .obtain⟨v,q⟩:=I.cell x c e
  exact Kx (Ku q.lt (by rw[z];exact d)) (Lc _)
 .exact Kx (Ku (Kr (I.pin p g).1) (by rw[z];exact d)) (Lc _)
structure oa (P:KF) (w:K1) (K:Kt) (tg:Expr) (J:It) (fp:List JY) (it:JY) (tn:Nat->Lj->Prop):Prop where
 mem:it∈fp
 obj:∀i h,tn i h->∀b∈fp,∃o,h.get? b=on o/\∀v,o.data≠ .cell v
 keep:∀i h h',tn i h->(∀b∈fp,∀o,h.get? b=on o->h'.get? b=on o)->tn i h'
 item:∀(X:Cx),X.prog=P->X.w=w->X.K=K->X.calm=JW->∀(i:Nat) (ai:List (JY×KS)) (s:J4) (σ:St) (H:Hp) (E:J0->J4->Prop),cp X ai σ H s->(∀b∈fp,eA X ai H b)->tn i s.heap->J.go i H->
  Ke (Ky P w) X.A (Nx (.ref it)) (λr s1=>∃u,r=on u/\
   Ke (Ky P w) X.A (OW tg (.ref it) u) (λ_ s2=>∃x H',cp X ai σ H' s2/\aI x u/\J.yld i H x H'/\tn (i+1) s2.heap/\∀b∈fp,H' b=JT) E s1) E s
 done:∀(X:Cx),X.prog=P->X.w=w->X.K=K->X.calm=JW->∀(i:Nat) (ai:List (JY×KS)) (s:J4) (σ:St) (H:Hp) (E:J0->J4->Prop),cp X ai σ H s->(∀b∈fp,eA X ai H b)->tn i s.heap->J.stop i H->
  Ke (Ky P w) X.A (Nx (.ref it)) (λr s1=>r=JT/\cp X ai σ H s1) E s
 self:∀(A:Lf) (i:Nat) (s:J4) (Q:J0->J4->Prop) (E:J0->J4->Prop),tn i s.heap->Q (.ref it) s->Ke (Ky P w) A (P4 (.ref it)) Q E s
abbrev TI:=St->Hp->(It->Hp->Prop)->Prop
def W0(X:Cx)(ai:List (JY×KS))(σ:St)(tg:Expr)(R:It->Hp->Prop)(c:J0)(f:J4):Prop:=
 ∃(it:JY) (g:List JY) (h:Nat->Lj->Prop) (J:It) (d:Hp),c= .ref it/\cp X ai σ d f/\oa X.prog X.w X.K tg J g it h/\h 0 f.heap/\(∀b∈g,eA X ai d b)/\R J d
def PI(X:Cx)(tg b:Expr)(c:TI):Prop:=
 ∀(ai:List (JY×KS)) (s:J4) (σ:St) (H:Hp) (R:It->Hp->Prop),cp X ai σ H s->c σ H R->
  Ke (Ky X.prog X.w) X.A (LC b X.env) (λv d=>Ke (Ky X.prog X.w) X.A (P4 v) (W0 X ai σ tg R) X.xe d) X.xe s
theorem qg{M:Model}{E:J0->J4->Prop}{s:J4}{u:J0}{o:KS}(c:s.heap.get? it=on o)(d:o.cls= .type n)(hd:o.data= .fields vs)
  (hn:["enumerate","zip","dict_itemiterator","dict_reverseitemiterator","odict_iterator","itertools.zip_longest","itertools.pairwise"].contains n=JZ) (b:Q () s):Ke M A (OW tg (.ref it) u) Q E s:=by
 unfold OW;cases tg<;>first
  |exact JU b
  |(cases u<;>first
   |exact JU b
   |(refine JR (wpAny_load c ?_)
     rw[d,hd];show Ke M A (if(["enumerate","zip","dict_itemiterator","dict_reverseitemiterator","odict_iterator","itertools.zip_longest","itertools.pairwise"].contains n&&vs[0]?==on (Nl _))=JW then _ else _) Q E s;rw[J6 (by intro h;rw[hn,OJ]at h;cases h)];exact JU b))
noncomputable def Ug(K:Kt)(a:JY):It:=
 ⟨λi H=>∃xs x,e_ K H a xs/\xs[i]?=on x,λi H x b=>b=H/\∀xs,e_ K H a xs->xs[i]?=on x,λi H=>∃xs,e_ K H a xs/\xs.length<=i⟩
noncomputable def WC(K:Kt)(a:JY):It:=
 ⟨λi H=>∃xs x,hH K H a xs/\xs[i]?=on x,λi H x b=>b=H/\∀xs,hH K H a xs->xs[i]?=on x,λi H=>∃xs,hH K H a xs/\xs.length<=i⟩
noncomputable def Uf(lo:Int)(n:Nat):It:=⟨λi _=>i<n,λi H x b=>b=H/\x= .int (lo+i),λi _=>n<=i⟩
theorem o3{K:Kt}(a it:JY):oa P w K tg (Ug K a) [it] it (λi h=>h.IsListIter it a i) where
 mem:=by simp
 obj:=λi h st b f=>by
  have e:b=it:=by simpa using f
  subst e;obtain⟨o,e,c,d⟩:=st;exact⟨o,e,λv z=>by rw[d]at z;cases z⟩
 keep:=λi h h' st k=>st.at λo e=>k it (by simp) o e
 item:=by
  intro X m n q L i ai s σ H E I j st r;subst m n q;obtain⟨xs,x,l,y⟩:=r;obtain⟨its,A,p,N⟩:=I.list l;obtain⟨u,O,Q⟩:=A.get y;obtain⟨B,f1,f2,C,F,J⟩:=j it (by simp);refine wpAny_pyNext_list_item st p.isList (x:=u) (by simpa using O) λh' g R=>?_;have T:cp X ai σ H {s with heap:=h'}:=I.turned (t':=s.toks) (λb o f e=>(R.2 b f).trans e) B f1 C F J;obtain⟨o,e,c,d⟩:=id g;exact⟨u,rfl,qg (s:={s with heap:=h'}) e c d (by decide) ⟨x,H,T,Q,⟨rfl,λys U=>by rw[I.list_inj U l];exact y⟩,g,λb f=>(j b f).1⟩⟩
 done:=by
  intro X m n q L i ai s σ H E I j st r;subst m n q;obtain⟨xs,l,y⟩:=r;obtain⟨its,A,p,N⟩:=I.list l;obtain⟨B,f1,f2,C,F,J⟩:=j it (by simp);have Y:=A.length;exact wpAny_pyNext_list_end (I.ok.hd L) st p.isList (by simp;omega) λh' W=>⟨rfl,I.turned (t':=s.toks) (λb o f e=>W b o f e) B f1 C F J⟩
 self:=λ_ _ _ _ _ st h=>wpAny_pyIter_listiter st h
theorem uL{K:Kt}(a it:JY):oa P w K tg (WC K a) [it] it (λi h=>h.IsTupleIter it a i) where
 mem:=by simp
 obj:=λi h st b f=>by
  have e:b=it:=by simpa using f
  subst e;obtain⟨o,e,c,d⟩:=st;exact⟨o,e,λv z=>by rw[d]at z;cases z⟩
 keep:=λi h h' st k=>st.at λo e=>k it (by simp) o e
 item:=by
  intro X m n q L i ai s σ H E I j st r;subst m n q;obtain⟨xs,x,l,y⟩:=r;obtain⟨its,A,p,N⟩:=I.tuple l;obtain⟨u,O,Q⟩:=A.get y;obtain⟨B,f1,f2,C,F,J⟩:=j it (by simp);refine wpAny_pyNext_tuple_item st (show s.heap.IsTuple a its.toArray from p) (x:=u) (by simpa using O) λh' g R=>?_;have T:cp X ai σ H {s with heap:=h'}:=I.turned (t':=s.toks) (λb o f e=>(R.2 b f).trans e) B f1 C F J;obtain⟨o,e,c,d⟩:=id g;exact⟨u,rfl,qg (s:={s with heap:=h'}) e c d (by decide) ⟨x,H,T,Q,⟨rfl,λys U=>by rw[I.tuple_inj U l];exact y⟩,g,λb f=>(j b f).1⟩⟩
 done:=by
  intro X m n q L i ai s σ H E I j st r;subst m n q;obtain⟨xs,l,y⟩:=r;obtain⟨its,A,p,N⟩:=I.tuple l;obtain⟨B,f1,f2,C,F,J⟩:=j it (by simp);have Y:=A.length;exact wpAny_pyNext_tuple_end (I.ok.hd L) st (show s.heap.IsTuple a its.toArray from p) (by simp;omega) λh' W=>⟨rfl,I.turned (t':=s.toks) (λb o f e=>W b o f e) B f1 C F J⟩
 self:=λ_ _ _ _ _ st h=>wpAny_pyIter_tupleiter st h
theorem uM{K:Kt}(it:JY)(lo:Int)(n:Nat):oa P w K tg (Uf lo n) [it] it (λi h=>Qi h it (lo+(i:Nat)*1) ((n:Int)-(i:Nat)) 1) where
 mem:=by simp
 obj:=λi h st b c=>by
  have e:b=it:=by simpa using c
  subst e;exact⟨_,st,λv z=>by
   have C:Data.fields _=Data.cell v:=z;cases C⟩
 keep:=λi h h' st k=>k it (by simp) _ st
 item:=by
  intro X g j l m i ai s σ H E I f st p;subst g j l;obtain⟨q,f1,f2,r,y,A⟩:=f it (by simp);have W:=Walks.range (prog:=X.prog) (w:=X.w) (I.ok.hd m) it lo 1 n;refine W.item i s _ _ p st λv h' B F d J=>?_;obtain⟨t,rfl⟩:=F;have L:cp X ai σ H {s with heap:=h',toks:=B}:=I.turned (λb o c e=>J b o (by simpa using c) e) q f1 r y A;refine⟨_,rfl,qg (s:={s with heap:=h',toks:=B}) (n:="range_iterator") d rfl rfl (by decide) ⟨.int (lo+i),H,L,⟨t,?_⟩,⟨rfl,rfl⟩,d,λb c=>(f b c).1⟩⟩;rw[Int.mul_one]
 done:=by
  intro X g j l m i ai s σ H E I f st p;subst g j l;obtain⟨q,f1,f2,r,y,A⟩:=f it (by simp);exact TC (I.ok.hd m) st (by have:n<=i:=p;omega) λh' N=>⟨rfl,I.turned (t':=s.toks) (λb o c e=>N b o c e) q f1 r y A⟩
 self:=λ_ _ _ _ _ st h=>P7 st h
variable{tg:Expr}
def JG(K:Kt)(b:TE):TI:=λσ H R=>b σ H λx H1=>∃a,x= .ref a/\(∃xs,e_ K H1 a xs)/\R (Ug K a) H1
theorem EJ(f:PE X l tl):PI X tg l (JG X.K tl):=by
 intro ai s σ H R I h;refine d_ (f ai s σ H _ I h) λv c ⟨x,H1,d,g,q1⟩=>?_;obtain⟨a,e,⟨xs,i⟩,q⟩:=q1;subst e;cases g;obtain⟨its,k,p,m⟩:=d.list i;refine Px p.isList ?_;refine⟨c.heap.objs.size,[c.heap.objs.size],_,_,H1,rfl,d.kept (t':=c.toks) λb o e=>JV _ e,o3 a _,⟨_,Kf _ rfl,rfl,rfl⟩,λb j=>?_,q⟩;have e:b=c.heap.objs.size:=by simpa using j
 subst e;exact d.fpOk (J3 _) (d.hok.fresh (J3 _))
theorem qZ{ai:List (JY×KS)}{σ:St}{H:Hp}{s:J4}{E:J0->J4->Prop}{lo c:Int}{t u v:Tok}(I:cp X ai σ H s)(f:-(2^62)<=lo)(g:lo<2^62)(h:-(2^62)<=c)(i:c<2^62)
  (q:R (Uf lo (c-lo).toNat) H):Ke (Ky X.prog X.w) X.A (P4 (.ref s.heap.objs.size)) (W0 X ai σ tg R) E {s with heap:=s.heap.push {cls:= .type "range",data:= .fields #[.int lo t,.int c u,.int 1 v]},toks:=tk}:=by
 refine wpAny_pyIter_range (Rv ..) (small_one f g h i) ?_;have d:cp X ai σ H {s with heap:=s.heap.push {cls:= .type "range",data:= .fields #[.int lo t,.int c u,.int 1 v]},toks:=tk}:=I.kept λb o e=>JV _ e;refine⟨(s.heap.push {cls:= .type "range",data:= .fields #[.int lo t,.int c u,.int 1 v]}).objs.size,[(s.heap.push {cls:= .type "range",data:= .fields #[.int lo t,.int c u,.int 1 v]}).objs.size],_,_,H,rfl,
  d.kept (t':=tk) λb o e=>JV _ e,uM _ lo (c-lo).toNat,?_,λb j=>?_,q⟩
 .have k:lo+((0:Nat):Int)*1=lo:=by simp
  have l:(((c-lo).toNat:Nat):Int)-((0:Nat):Int)=Ot lo c 1:=by rw[rangeSize_one];split<;>omega
  show Qi _ _ (lo+((0:Nat):Int)*1) ((((c-lo).toNat:Nat):Int)-((0:Nat):Int)) 1;rw[k,l];exact Kf _ rfl
 .have e:b=(s.heap.push {cls:= .type "range",data:= .fields #[.int lo t,.int c u,.int 1 v]}).objs.size:=by simpa using j
  subst e;exact d.fpOk (J3 _) (d.hok.fresh (J3 _))
def JE(b:TA):TI:=λσ H R=>b σ H λvs H1=>∃j:Int,vs=[.int j]/\-(2^62)<=j/\j<2^62/\R (Uf 0 j.toNat) H1
def JD(b:TA):TI:=λσ H R=>b σ H λvs H1=>∃i j:Int,vs=[.int i,.int j]/\(-(2^62)<=i/\i<2^62/\-(2^62)<=j/\j<2^62)/\R (Uf i (j-i).toNat) H1
theorem xq{a:Expr}{p pos:OH}(b:Gl X "range")(hm:X.mg "range"=JT)(ha:PA X [a] ta)(hs:Kj [a] X.env=[(JZ,LC a X.env)]:=by rfl):PI X tg (.Call (.Name "range" p) [a] [] pos) (JE ta):=by
 intro ai s σ H R I h;refine Call_ (eE I b hm RV (Lw (d_ (ha pos ai s σ H _ I h) λus g ⟨vs,H1,c,d,q1⟩=>?_) hs rfl));obtain⟨j,e,q1,q2,q⟩:=q1;subst e;cases d with
 |cons r f=>
  cases f;obtain⟨t,rfl⟩:=r;exact call_range_1 (qZ c (by omega) (by omega) q1 q2 (by simpa using q))
theorem xp{a b:Expr}{p pos:OH}(f:Gl X "range")(hm:X.mg "range"=JT)(ha:PA X [a,b] ta)(hs:Kj [a,b] X.env=[(JZ,LC a X.env),(JZ,LC b X.env)]:=by rfl)(c:Kj [b] X.env=[(JZ,LC b X.env)]:=by rfl):
  PI X tg (.Call (.Name "range" p) [a,b] [] pos) (JD ta):=by
 intro ai s σ H R I h;refine Call_ (eE I f hm RV (Lw (d_ (ha pos ai s σ H _ I h) λus m ⟨vs,H1,g,k,q1⟩=>?_) (by rw[hs,c]) (by rw[c];rfl)));obtain⟨i,j,e,⟨q1,q2,q3,q4⟩,q⟩:=q1;subst e;cases k with
 |cons r d=>
  cases d with
  |cons l d=>
   cases d;obtain⟨t,rfl⟩:=r;obtain⟨t',rfl⟩:=l;exact call_range_2 (qZ g q1 q2 q3 q4 q)
def uQ(h:TI)(g:TG)(j:TS):TS:=λD σ H=>h σ H λJ H1=>∃W:Nat->Nat->St->Hp->Prop,(∃m,W 0 m σ H1)/\∀i m σ H,W i m σ H->
 (J.stop i H/\D.nx σ H)\/(J.go i H/\∃N:St->Hp->Prop,(∀b c,N b c->∃f,f<m/\W (i+1) f b c)/\∀x c,J.yld i H x c->g x σ c λd k=>j {D with nx:=N,ct:=N,bk:=D.nx} d k)
noncomputable def j6(c:List JY)(h:Lj):List (JY×KS):=c.filterMap λb=>(h.get? b).map λo=>(b,o)
theorem gC{h:Lj}(c:b∈fp)(e:h.get? b=on o):(b,o)∈j6 fp h:=ON.mpr ⟨b,c,by rw[e];rfl⟩
theorem xw{h:Lj}{p:JY×KS}(c:p∈j6 fp h):p.1∈fp/\h.get? p.1=on p.2:=by
 obtain⟨b,d,e⟩:=ON.mp c;cases q:h.get? b with
 |none=>rw[q]at e;cases e
 |some o=>
  rw[q]at e;have f:(b,o)=p:=KE e;subst f;exact⟨d,q⟩
theorem cp.pinned{ai:List (JY×KS)}{σ:St}{H:Hp}{s:J4}(I:cp X ai σ H s)(g:∀b∈fp,eA X ai H b)(h:∀b∈fp,∃o,s.heap.get? b=on o/\∀v,o.data≠ .cell v):cp X (ai++j6 fp s.heap) σ H s:=
 I.pins_of λp i=>(Ll.mp i).elim (λz=>I.pin p (K3 _ z)) λz=>by
  obtain⟨c,e⟩:=xw z;obtain⟨j,f1,f2,_⟩:=g p.1 c;obtain⟨o,f,d⟩:=h p.1 c;rw[e]at f;cases f;exact⟨e,j,f1,f2,d⟩
theorem cp.unpinned{ai b:List (JY×KS)}{σ:St}{H:Hp}{s:J4}(I:cp X (ai++b) σ H s):cp X ai σ H s:=I.pins_of λp c=>I.pin p (K3 _ (MN _ c))
theorem aZ{pos:OH}(L:PassesOwn (Ky X.prog X.w) X.A X.env X.xe)(hc:X.calm=JW)(hi:PI X tg iter wi)(hg:PG X tg g)(j:PSs X body tb)
  (hs:∀x,K6 iter X.env x=Mm x:=by intro _;rfl):PS X (.For tg iter body [] pos) (uQ wi g tb):=by
 intro ai s σ H D I h;refine wpAny_For (d_ (hi ai s σ H _ I h) λv s1 h1=>d_ h1 λitv s2 h2=>?_) hs;obtain⟨it,O,tn,J,H2,e,I2,T,Z,f2,W,⟨m0,w0⟩,P⟩:=h2;subst e
 --what stays JW of the iterator's objects through the loop
 have k:∀{B:Hp},(∀b∈O,B b=JT)->∀b∈O,eA X ai B b:=λhn b j=>⟨hn b j,(f2 b j).2⟩;refine codeAny_forLoop_any (λn s'=>∃i l B,cp X ai l B s'/\tn i s'.heap/\(∀b∈O,B b=JT)/\W i n l B) ?_ m0 ⟨0,σ,H2,I2,Z,λb j=>(f2 b j).1,w0⟩;rintro n s3 ⟨i,p,Y,I3,Q,R,w3⟩;rcases P i n p Y w3 with⟨stop,qn⟩|⟨go,N,hN,step⟩
 .refine OX L (d_ (T.done X rfl rfl rfl hc i ai s3 p Y X.xe I3 (k R) Q stop) λr s4 ⟨hr,I4⟩=>?_)
  subst hr;exact RA ⟨p,Y,I4,qn⟩
 .refine OX L (d_ (T.item X rfl rfl rfl hc i ai s3 p Y X.xe I3 (k R) Q go) λr s4 ⟨u,hr,h4⟩=>?_)
  subst hr;refine OX L (d_ h4 λ_ s5 ⟨x,H5,I5,r5,y5,F,fr5⟩=>?_);have I5':=I5.pinned (k fr5) (T.obj _ _ F);refine OX L (d_ (hg _ s5 p H5 x u _ I5' r5 (step x H5 y5)) λ_ s6 ⟨σ6,H6,I6,q6⟩=>?_);refine OX L (d_ (j _ s6 σ6 H6 _ I6 q6) λf s7 C=>?_);have Qy:∀{c:St} {q:Hp},cp X (ai++j6 O s5.heap) c q s7->N c q->∃m,m<n/\∃i l B,cp X ai l B s7/\tn i s7.heap/\(∀b∈O,B b=JT)/\W i m l B:=λ{c q} y U=>by
   obtain⟨m',hm,w7⟩:=hN c q U;refine⟨m',hm,i+1,c,q,y.unpinned,T.keep _ _ _ F λb j o e=>(y.pin (b,o) (K3 _ (K3 _ (gC j e)))).1,λb j=>?_,w7⟩;obtain⟨o,e,d⟩:=T.obj _ _ F b j;exact(y.pin (b,o) (K3 _ (K3 _ (gC j e)))).2.1
  cases f with
  |next=>obtain⟨c,q,y,U⟩:=C;exact Qy y U
  |cont=>obtain⟨c,q,y,U⟩:=C;exact Qy y U
  |brk=>obtain⟨c,q,y,C⟩:=C;exact⟨c,q,y.unpinned,C⟩
  |ret v=>obtain⟨x7,c,q,y,r7,C⟩:=C;exact⟨x7,c,q,y.unpinned,r7,C⟩
abbrev R2:=V->V->Hp->VK->Prop
def f_(X:Cx)(f:J0->J0->Sem J0)(r:R2):Prop:=
 ∀(ai:List (JY×KS)) (s:J4) (σ:St) (H:Hp) (x y:V) (v u:J0) (Q:VK),cp X ai σ H s->aI x v->aI y u->r x y H Q->
  Ke (Ky X.prog X.w) X.A (f v u) (EP X ai σ Q) X.xe s
def UB(X:Cx)(f:J0->Sem J0)(r:V->Hp->VK->Prop):Prop:=
 ∀(ai:List (JY×KS)) (s:J4) (σ:St) (H:Hp) (x:V) (v:J0) (Q:VK),cp X ai σ H s->aI x v->r x H Q->
  Ke (Ky X.prog X.w) X.A (f v) (EP X ai σ Q) X.xe s
def cI(X:Cx)(f:J0)(r:List V->Hp->VK->Prop):Prop:=
 ∀(ai:List (JY×KS)) (s:J4) (σ:St) (H:Hp) (xs:List V) (us:List J0) (Q:VK),cp X ai σ H s->aq xs us->r xs H Q->
  Ke (Ky X.prog X.w) X.A (Qu f us) (EP X ai σ Q) X.xe s
def Wx(X:Cx)(r:V->Hp->(Bool->Hp->Prop)->Prop):Prop:=
 ∀(ai:List (JY×KS)) (s:J4) (σ:St) (H:Hp) (x:V) (v:J0) (Q:Bool->Hp->Prop),cp X ai σ H s->aI x v->r x H Q->
  Ke (Ky X.prog X.w) X.A (truthy v) (TP X ai σ Q) X.xe s
def KX(r:R2)(b c:TE):TE:=λσ H Q=>b σ H λx H1=>c σ H1 λy d=>r x y d Q
def W7(r:V->Hp->VK->Prop)(b:TE):TE:=λσ H Q=>b σ H λx H1=>r x H1 Q
def rI(C:Int->Int->Prop)(g:Int->Int->V):R2:=λx y H Q=>∃i j,x= .int i/\y= .int j/\C i j/\Q (g i j) H
def q_(g:Int->Int->V):R2:=λx y H Q=>∃i j,x= .int i/\y= .int j/\Q (g i j) H
def rU(g:Int->V):V->Hp->VK->Prop:=λx H Q=>∃i,x= .int i/\Q (g i) H
end
section
variable{X:Cx}{a b c:Expr}{ta tb tc:TE}{pos:OH}
theorem zY(ha:PE X a ta)(l:PE X b tb){d:List (JY×KS)}{s:J4}{e:St}{H:Hp}{R:V->V->Hp->Prop}(I:cp X d e H s)
  (h:ta e H λx H1=>tb e H1 λy g=>R x y g) {Q:J0->J4->Prop} {f:J0->J0->Sem J0}
  (m:∀v u k x y g,cp X d e g k->aI x v->aI y u->R x y g->Ke (Ky X.prog X.w) X.A (f v u) Q X.xe k):
  Ke (Ky X.prog X.w) X.A (LC a X.env) (λv i=>Ke (Ky X.prog X.w) X.A (LC b X.env) (λu j=>Ke (Ky X.prog X.w) X.A (f v u) Q X.xe j) X.xe i) X.xe s:=by
 refine d_ (ha d s e H _ I h) λv n ⟨x,H1,o,p,q1⟩=>?_;refine d_ (l d n e H1 _ o q1) λu k ⟨y,g,q,r,q2⟩=>?_;exact m v u k x y g q p r q2
theorem c8(e:f_ X (ML op) r)(ha:PE X a ta)(f:PE X b tb):PE X (.BinOp a op b pos) (KX r ta tb):=by
 intro d s g H Q I h;exact wpAny_BinOp (zY ha f I h λv u i x y j k l m q=>e d i g j x y v u Q k l m q)
theorem Jb(f:UB X (unaryOp op) r)(ha:PE X a ta):PE X (.UnaryOp op a pos) (W7 r ta):=by
 intro d s e H Q I h;exact UnaryOp_ (d_ (ha d s e H _ I h) λv g ⟨x,H1,i,j,q1⟩=>f d g e H1 x v Q i j q1)
theorem o_{f:J0->J0->Sem J0}{C:Int->Int->Prop}{g:Int->Int->Int}
  (d:∀(i j:Int) (t u:Tok) (s:J4) (Q:J0->J4->Prop) (E:J0->J4->Prop),C i j->Q (.int (g i j) s.toks) {s with toks:=s.toks+1}->Ke (Ky X.prog X.w) X.A (f (.int i t) (.int j u)) Q E s):
  f_ X f (rI C λi j=> .int (g i j)):=by
 intro e s n H x y v u Q I k l h;obtain⟨i,j,rfl,rfl,m,q⟩:=h;obtain⟨t,rfl⟩:=k;obtain⟨t',rfl⟩:=l;exact d i j t t' s _ _ m ⟨.int (g i j),H,I.tok _,⟨_,rfl⟩,q⟩
theorem Hb{f:J0->J0->Sem J0}{g:Int->Int->Int}
  (d:∀(i j:Int) (t u:Tok) (s:J4) (Q:J0->J4->Prop) (E:J0->J4->Prop),Q (.int (g i j) s.toks) {s with toks:=s.toks+1}->Ke (Ky X.prog X.w) X.A (f (.int i t) (.int j u)) Q E s):
  f_ X f (q_ λi j=> .int (g i j)):=by
 intro e s m H x y v u Q I k l h;obtain⟨i,j,rfl,rfl,q⟩:=h;obtain⟨t,rfl⟩:=k;obtain⟨t',rfl⟩:=l;exact d i j t t' s _ _ ⟨.int (g i j),H,I.tok _,⟨_,rfl⟩,q⟩
theorem u7{f:J0->J0->Sem J0}{g:Int->Int->Bool}
  (d:∀(i j:Int) (t u:Tok) (s:J4) (Q:J0->J4->Prop) (E:J0->J4->Prop),Q (.bool (g i j)) s->Ke (Ky X.prog X.w) X.A (f (.int i t) (.int j u)) Q E s):
  f_ X f (q_ λi j=> .bl (g i j)):=by
 intro e s m H x y v u Q I k l h;obtain⟨i,j,rfl,rfl,q⟩:=h;obtain⟨t,rfl⟩:=k;obtain⟨t',rfl⟩:=l;exact d i j t t' s _ _ ⟨.bl (g i j),H,I,rfl,q⟩
def WF(i j:Int):Prop:=0<j/\j<1073741824
def WE(i j:Int):Prop:=0<=j/\j<=1000000/\i.natAbs<2^64
def BJ(i j:Int):Prop:=(-(2^64)<i/\i<2^64)\/(-(2^64)<j/\j<2^64)
theorem BJ.ok(h:BJ i j):IntMulOk i j:=by
 rcases h with⟨d,e⟩|⟨d,e⟩
 .exact .of_left (intBits_le_64 d e)
 .exact .of_right (intBits_le_64 d e)
theorem m3:f_ X (ML .Add) (q_ λi j=> .int (i+j)):=Hb λ_ _ _ _ _ _ _ q=>add_int q
theorem dL:f_ X (ML .Sub) (q_ λi j=> .int (i-j)):=Hb λ_ _ _ _ _ _ _ q=>sub_int q
theorem G8:f_ X (ML .Mult) (rI BJ λi j=> .int (i*j)):=o_ λ_ _ _ _ _ _ _ d q=>mul_int q d.ok
theorem tL:f_ X (ML .FloorDiv) (rI WF λi j=> .int (i/j)):=o_ λi j _ _ _ _ _ d q=>by
 have e:(0:Int)<j:=d.1;have f:j<1073741824:=d.2;exact floordiv_int (by omega) (by rw[OR i (by omega)];exact q) (.inl (PyProof.noPylong_small (by omega)))
theorem j7:f_ X (ML .Mod) (rI (λ_ j=>0<j) λi j=> .int (i % j)):=o_ λi j _ _ _ _ _ d q=>by
 have e:(0:Int)<j:=d;exact mod_int' (by omega) (by rw[Int.fmod_eq_emod_of_nonneg i (by omega)];exact q)
theorem G6:f_ X (ML .Pow) (rI WE λi j=> .int (i^j.toNat)):=o_ λ_ _ _ _ _ _ _ d q=>pow_int_small d.1 d.2.1 d.2.2 q
theorem W4{f:J0->Sem J0}{g:Int->Int}
  (d:∀(i:Int) (t:Tok) (s:J4) (Q:J0->J4->Prop) (E:J0->J4->Prop),Q (.int (g i) s.toks) {s with toks:=s.toks+1}->Ke (Ky X.prog X.w) X.A (f (.int i t)) Q E s):
  UB X f (rU λi=> .int (g i)):=by
 intro e s k H x v Q I j h;obtain⟨i,rfl,q⟩:=h;obtain⟨t,rfl⟩:=j;exact d i t s _ _ ⟨.int (g i),H,I.tok _,⟨_,rfl⟩,q⟩
theorem mz:UB X (unaryOp .USub) (rU λi=> .int (-i)):=W4 λ_ _ _ _ _ q=>neg_int q
noncomputable def yU:V->V->Bool
 | .non,.non=>JW| .non,.int _=>JW| .int _,.non=>JW| .non,.bl _=>JW| .bl _,.non=>JW| .non,.str _=>JW| .str _,.non=>JW
 | .int _,.int _=>JW| .bl _,.bl _=>JW| .str _,.str _=>JW
 | .int _,.str _=>JW| .str _,.int _=>JW| .bl _,.str _=>JW| .str _,.bl _=>JW
 |_,_=>JZ
noncomputable def U5:R2:=λx y H Q=>yU x y=JW/\Q (.bl (decide (x=y))) H
noncomputable def U4:R2:=λx y H Q=>yU x y=JW/\Q (.bl (!decide (x=y))) H
theorem ur:decide (V.int i=V.int j)=(i==j):=by
 rw[QJ];simp
theorem x0{i j:Bool}:decide (V.bl i=V.bl j)=(i==j):=by
 rw[QJ];simp
theorem uq:decide (V.str i=V.str j)=(i==j):=by
 rw[QJ];simp
theorem dc{k d:Bool}(I:cp X ai σ H s)(q:Q (.bl k) H)(e:k=d):EP X ai σ Q (.bool d) s:=by
 subst e;exact⟨.bl k,H,I,rfl,q⟩
theorem Jg:f_ X (Lp .Eq) U5:=by
 intro f s g H x y v u Q I e d h;obtain⟨hs,q⟩:=h;cases x with
 |non=>
  cases e;cases y with
  |non=>cases d;exact PySem.EqNone.eq_none_none (dc I q (by simp))
  |bl j=>cases d;exact PySem.EqNone.eq_none_bool (dc I q (by simp))
  |int j=>obtain⟨t',rfl⟩:=d;exact PySem.EqNone.eq_none_int (dc I q (by simp))
  |str j=>obtain⟨t',rfl⟩:=d;exact PySem.EqNone.eq_none_str (dc I q (by simp))
  |_=>exact Kx (show JZ=JW from hs) J7
 |bl i=>
  cases e;cases y with
  |non=>cases d;exact PySem.EqNone.eq_bool_none (dc I q (by simp))
  |bl j=>cases d;exact eq_bool (dc I q x0)
  |str j=>obtain⟨t',rfl⟩:=d;exact PySem.EqMixed.eq_bool_str (dc I q (by simp))
  |_=>exact Kx (show JZ=JW from hs) J7
 |int i=>
  obtain⟨t,rfl⟩:=e;cases y with
  |non=>cases d;exact PySem.EqNone.eq_int_none (dc I q (by simp))
  |int j=>obtain⟨t',rfl⟩:=d;exact eq_int (dc I q ur)
  |str j=>obtain⟨t',rfl⟩:=d;exact PySem.EqMixed.eq_int_str (dc I q (by simp))
  |_=>exact Kx (show JZ=JW from hs) J7
 |str i=>
  obtain⟨t,rfl⟩:=e;cases y with
  |non=>cases d;exact PySem.EqNone.eq_str_none (dc I q (by simp))
  |bl j=>cases d;exact PySem.EqMixed.eq_str_bool (dc I q (by simp))
  |int j=>obtain⟨t',rfl⟩:=d;exact PySem.EqMixed.eq_str_int (dc I q (by simp))
  |str j=>obtain⟨t',rfl⟩:=d;exact eq_str (dc I q uq)
  |_=>exact Kx (show JZ=JW from hs) J7
 |_=>cases y<;>exact Kx (show JZ=JW from hs) J7
theorem Je:f_ X (Lp .NotEq) U4:=by
 intro f s g H x y v u Q I e d h;obtain⟨hs,q⟩:=h;cases x with
 |non=>
  cases e;cases y with
  |non=>cases d;exact PySem.EqNone.ne_none_none (dc I q (by simp))
  |bl j=>cases d;exact PySem.EqNone.ne_none_bool (dc I q (by simp))
  |int j=>obtain⟨t',rfl⟩:=d;exact PySem.EqNone.ne_none_int (dc I q (by simp))
  |str j=>obtain⟨t',rfl⟩:=d;exact PySem.EqNone.ne_none_str (dc I q (by simp))
  |_=>exact Kx (show JZ=JW from hs) J7
 |bl i=>
  cases e;cases y with
  |non=>cases d;exact PySem.EqNone.ne_bool_none (dc I q (by simp))
  |bl j=>cases d;exact ne_bool (dc I q (La not x0))
  |str j=>obtain⟨t',rfl⟩:=d;exact PySem.EqMixed.ne_bool_str (dc I q (by simp))
  |_=>exact Kx (show JZ=JW from hs) J7
 |int i=>
  obtain⟨t,rfl⟩:=e;cases y with
  |non=>cases d;exact PySem.EqNone.ne_int_none (dc I q (by simp))
  |int j=>obtain⟨t',rfl⟩:=d;exact ne_int (dc I q (La not ur))
  |str j=>obtain⟨t',rfl⟩:=d;exact PySem.EqMixed.ne_int_str (dc I q (by simp))
  |_=>exact Kx (show JZ=JW from hs) J7
 |str i=>
  obtain⟨t,rfl⟩:=e;cases y with
  |non=>cases d;exact PySem.EqNone.ne_str_none (dc I q (by simp))
  |bl j=>cases d;exact PySem.EqMixed.ne_str_bool (dc I q (by simp))
  |int j=>obtain⟨t',rfl⟩:=d;exact PySem.EqMixed.ne_str_int (dc I q (by simp))
  |str j=>obtain⟨t',rfl⟩:=d;exact ne_str (dc I q (La not uq))
  |_=>exact Kx (show JZ=JW from hs) J7
 |_=>cases y<;>exact Kx (show JZ=JW from hs) J7
theorem p9:f_ X (Lp .Lt) (q_ λi j=> .bl (decide (i<j))):=u7 λ_ _ _ _ _ _ _ q=>lt_int q
theorem ju:f_ X (Lp .LtE) (q_ λi j=> .bl (decide (i<=j))):=u7 λ_ _ _ _ _ _ _ q=>le_int q
theorem qa:f_ X (Lp .Gt) (q_ λi j=> .bl (decide (j<i))):=u7 λ_ _ _ _ _ _ _ q=>gt_int q
theorem Jf:f_ X (Lp .GtE) (q_ λi j=> .bl (decide (j<=i))):=u7 λ_ _ _ _ _ _ _ q=>ge_int q
theorem rh:f_ X (Lp .Is) (λx y H Q=>y= .non/\Q (.bl (decide (x= .non))) H):=by
 intro d s g H x y v u Q I e f h;obtain⟨rfl,q⟩:=h;cases f;refine is_none_gen (dc I q ?_);cases x<;>first
  |(cases e;rfl)
  |(obtain⟨t,rfl⟩:=e;rfl)
theorem f_.or(h:f_ X f r)(h':f_ X f r'):f_ X f (λx y H Q=>r x y H Q\/r' x y H Q):=by
 intro d s e H x y v u Q I g i q;rcases q with q|q
 .exact h d s e H x y v u Q I g i q
 .exact h' d s e H x y v u Q I g i q
theorem rn(b:Expr)(h:op≠ .In:=by decide)(d:op≠ .NotIn:=by decide):OE op b=JZ:=by
 have e:(op==CmpOp.In)=JZ:=by cases op<;>first|rfl|exact Kx rfl h
 have f:(op==CmpOp.NotIn)=JZ:=by cases op<;>first|rfl|exact Kx rfl d
 cases b<;>simp[OE,e,f]
theorem EN(e:f_ X (Lp op) r)(ha:PE X a ta)(f:PE X b tb)(hm:OE op b=JZ):PE X (.Compare a [op] [b] pos) (KX r ta tb):=by
 intro d s g H Q I h;exact wpAny_Compare1 (zY ha f I h λv u i x y j k l m q=>e d i g j x y v u Q k l m q) hm
def uP(t:TE):TT:=λd H Q=>t d H λx e=>∃k,x= .bl k/\Q k e
theorem tz(g:f_ X (Lp op) r)(ha:PE X a ta)(i:PE X b tb)(hm:OE op b=JZ):PT X (.Compare a [op] [b] pos) (uP (KX r ta tb)):=by
 intro d s f H Q I h;refine wpAny_isTrue_Compare1 (d_ (ha d s f H _ I h) λv j ⟨x,H1,l,m,q1⟩=>d_ (i d j f H1 _ l q1) λu n ⟨y,o,p,q,q2⟩=>
  d_ (g d n f o x y v u _ p m q q2) λc B ⟨z,t,w,A,k,e,q3⟩=>?_) hm
 subst e;cases A;exact LD ⟨t,w,q3⟩
def wE(r f:R2)(ta tb tc:TE):TE:=λd H Q=>ta d H λx H1=>tb d H1 λy g=>r x y g λz e=>∃k,z= .bl k/\
 (if k=JW then tc d e λh i=>f y h i Q else Q (.bl JZ) e)
theorem yZ(n:f_ X (Lp op) r)(i:f_ X (Lp op') r')(ha:PE X a ta)(o:PE X b tb)(p:PE X c tc)
  (hm:Tf [op,op'] [b,c]=JZ:=by with_unfolding_all rfl):PT X (.Compare a [op,op'] [b,c] pos) (uP (wE r r' ta tb tc)):=by
 intro f s g H Q I h;refine isTrue_chain (d_ (ha f s g H _ I h) λv q ⟨x,H1,t,w,q1⟩=>test_link (d_ (o f q g H1 _ t q1) λu A ⟨y,B,C,j,q2⟩=>
  d_ (n f A g B x y v u _ C w j q2) λd F ⟨z,l,m,J,k,e,q3⟩=>?_)) hm
 subst e;cases J;refine LD ?_;cases k with
 |false=>
  obtain⟨k',L,N⟩:=q3;cases L;exact ite_ff ⟨l,m,N⟩
 |true=>
  refine ite_tt (test_last (d_ (p f F g l _ m q3) λO P ⟨R,T,U,W,q4⟩=>d_ (i f P g T y R u O _ U j W q4) λd' s5 ⟨z2,Y,Z,r5,k2,e2,q5⟩=>?_));subst e2;cases r5;exact LD ⟨Y,Z,q5⟩
def BF(K:Kt)(x:V)(H:Hp)(k:Bool):Prop:=
 match x with
 | .non=>k=JZ
 | .bl b=>k=b
 | .int i=>k=(i !=0)
 | .str y=>y.length<=Ki/\k=((y.length:Int) !=0)
 | .ref p=>(∃xs,e_ K H p xs/\k=!xs.isEmpty)\/∃xs,hH K H p xs/\k=!xs.isEmpty
 |_=>False
theorem ng(r:aq xs its):(!its.toArray.isEmpty)=!xs.isEmpty:=by
 cases r<;>simp
theorem i5:(Ki:Nat)<2^63:=by rw[LZ];decide
theorem Gh:Wx X (λx H Q=>∃k,BF X.K x H k/\Q k H):=by
 intro m s o H x v Q I f h;obtain⟨k,e,q⟩:=h;have u:=i5;have hs:Ki=16777216:=LZ;cases x with
 |non=>
  cases f;have d:k=JZ:=e;subst d;exact truthy_none ⟨H,I,q⟩
 |bl b=>
  cases f;have d:k=b:=e;subst d;exact LD ⟨H,I,q⟩
 |int i=>
  obtain⟨t,rfl⟩:=f;have d:k=(i !=0):=e;subst d;exact PySem.P.truthy_int ⟨H,I,q⟩
 |str y=>
  obtain⟨t,rfl⟩:=f;obtain⟨w,d⟩:y.length<=Ki/\k=((y.length:Int) !=0):=e;subst d;exact PySem.P.truthy_str (by omega) ⟨H,I.tok _,q⟩
 |ref p=>
  cases f;have d:(∃xs,e_ X.K H p xs/\k=!xs.isEmpty)\/∃xs,hH X.K H p xs/\k=!xs.isEmpty:=e;rcases d with⟨xs,j,d⟩|⟨xs,j,d⟩
  .subst d
   obtain⟨its,r,l,n⟩:=I.list j;have g:=r.length;exact wpAny_truthy_list l.isList (by simp only[Kh];omega) ⟨H,I.tok _,by rw[ng r];exact q⟩
  .subst d
   obtain⟨its,r,l,n⟩:=I.tuple j;have g:=r.length;exact truthy_tuple l (by simp only[Kh];omega) ⟨H,I.tok _,by rw[ng r];exact q⟩
 |_=>exact(show False from e).elim
theorem yY(ha:PE X a ta)(i:∀d,isTrue a X.env d=(do let v <-d;O8 a.pos;P3 [v] (truthy v))):
  PT X a (λf H Q=>ta f H λx g=>∃k,BF X.K x g k/\Q k g):=by
 intro e s f H Q I h;exact isTrue_plain (d_ (ha e s f H _ I h) λv j ⟨x,H1,l,m,q1⟩=>Gh e j f H1 x v Q l m q1) (i _)
theorem ic(r:aq [x] us):∃u,us=[u]/\aI x u:=by
 cases r with
 |cons d e=>cases e;exact⟨_,rfl,d⟩
theorem uI(r:aq [x,y] us):∃u d,us=[u,d]/\aI x u/\aI y d:=by
 cases r with
 |cons e f=>
  cases f with
  |cons g h=>cases h;exact⟨_,_,rfl,e,g⟩
theorem zS:cI X (.builtin "abs") (λxs H Q=>∃i,xs=[.int i]/\Q (.int (if i<0 then -i else i)) H):=by
 intro d s e H xs us Q I r h;obtain⟨i,rfl,q⟩:=h;obtain⟨u,rfl,t,rfl⟩:=ic r;exact call_abs_int λu f=>⟨.int (if i<0 then -i else i),H,I.tok _,⟨_,rfl⟩,q⟩
theorem yp(f:X.calm=JW):cI X (.builtin "max") (λxs H Q=>∃i j,xs=[.int i,.int j]/\Q (.int (if j>i then j else i)) H):=by
 intro e s g H xs us Q I r h;obtain⟨i,j,rfl,q⟩:=h;obtain⟨u,l,rfl,⟨t,rfl⟩,⟨t',rfl⟩⟩:=uI r;refine max_two_ints (I.ok.hd f) λh' m k=>⟨_,H,I.kept k,?_,q⟩;by_cases d:j>i
 .rw[J8 d,J8 d];exact⟨_,rfl⟩
 .rw[J6 d,J6 d];exact⟨_,rfl⟩
theorem kB(f:X.calm=JW):cI X (.builtin "min") (λxs H Q=>∃i j,xs=[.int i,.int j]/\Q (.int (if j<i then j else i)) H):=by
 intro e s g H xs us Q I r h;obtain⟨i,j,rfl,q⟩:=h;obtain⟨u,l,rfl,⟨t,rfl⟩,⟨t',rfl⟩⟩:=uI r;refine min_two_ints (I.ok.hd f) λh' m k=>⟨_,H,I.kept k,?_,q⟩;by_cases d:j<i
 .rw[J8 d,J8 d];exact⟨_,rfl⟩
 .rw[J6 d,J6 d];exact⟨_,rfl⟩
structure TK (h:Lj) (x dx C:JY) (mA:K2->Option J0):Prop where
 obj:h.get? x=on (instObj C dx)
 ns:h.Ns1 dx mA
 ne:dx≠x
theorem xJ{h:Lj}(n:h.Ns1 dx mA):∃f,h.get? dx=on f/\∀name,lookIn name f=on (mA name):=by
 obtain⟨o,es,ep,g,hd,i,_,hm⟩:=n;refine⟨o,g,λname=>?_⟩;have e:=hm name;unfold nsFind findBy at e;rw[<-Array.find?_toList]at e;unfold lookIn;rw[hd]
 dsimp only
 split
 .rename_i y q
  rw[q]at e;exact La on e
 .rename_i q
  rw[q]at e;have a:es.toList.any (·.refKey)=JZ:=by
   rw[Tk];intro y j;obtain⟨z,t,d⟩:=i y (Array.mem_toList_iff.mp j);simp[DictEntry.refKey,d]
  have k:¬es.toList.any (·.refKey)=JW:=by rw[a];exact J7
  rw[J6 k];exact La on e
theorem TK.look(I:TK h x dx C mA):∃d,PySem.W.InstAt h x (instObj C dx) C (on d)/\∀name,lookIn name d=on (mA name):=
 let ⟨d,ho,hl⟩:=xJ I.ns
 ⟨d,⟨I.obj,rfl,rfl,ho⟩,hl⟩
variable{prog:KF}{w:K1}{A:Lf}{E:J0->J4->Prop}{s:J4}{K:Kt}{x dx C f:JY}{mA:K2->Option J0}{name:K2}{v:J0}
end
section
variable{P:KF}{w:K1}{H H':Hp}{h h':Lj}{a C dx:JY}{fs fs':List (K2×V)}
theorem t7(hok:j_ P w H h)(e:H a=on (.ins C dx fs)):∃b,TK h a dx C b/\(∀f,sJ (fs.lookup f) (b f))/\PySem.Within b (fs.map (·.1))/\fs.length<=1000/\H dx=on (.own a):=by
 obtain⟨d,z,ne,c,b,n,r,q⟩:=(show bC P w H h a (.ins C dx fs)from hok a _ e);exact⟨b,⟨c,n,ne⟩,r,q,z,d⟩
structure UM (K:Kt) (C:JY):Prop where
 pg:SG K C NK=JW
 hd:PySem.W.hasDictIn K C=JW
 po:PySem.W.plainOver K C=JW
 sa:R0 K (.ref C) "__setattr__"=on (on (.builtin "object.__setattr__"))
theorem UM.get{K:Kt}{C:JY}(c:UM K C)(f:K2):SG K C f=JW:=c.pg
structure Yv (K:Kt) (C:JY) (m:K2) (f:JY):Prop where
 at_:R0 K (.ref C) m=on (on (.ref f))
 fn:isFn K (.ref f)=JW
 kp:Oz K (.ref f)=JW
variable{X:Cx}{ai:List (JY×KS)}{σ:St}{s:J4}{f:K2}{v:V}{A:Lf}{E:J0->J4->Prop}
variable{o e value:Expr}{pos pos' tpos:OH}{ta tv:TE}
variable{Q:J0->J4->Prop}{c:J0}{b:Bool}
inductive n_ (K:Kt) (H:Hp):V->J0->Prop where
 |non:n_ K H .non (.type "NoneType")
 |bl (x:Bool):n_ K H (.bl x) (.type "bool")
 |int (i:Int):n_ K H (.int i) (.type "int")
 |str (x:K2):n_ K H (.str x) (.type "str")
 |lst {a:JY} {xs:List V} (e:H a=on (.lst xs)):n_ K H (.ref a) (.type "list")
 |frz {a:JY} {o:KS} {xs:List V} (e:H a=on (.frz o (.lst xs))):n_ K H (.ref a) (.type "list")
 |tup {a:JY} {xs:List V} (e:H a=on (.tup xs)):n_ K H (.ref a) (.type "tuple")
 |ins {a C dx:JY} {fs:List (K2×V)} (e:H a=on (.ins C dx fs)) (cl:UM K C) (ha:R0 K (.ref C) "__class__"=on (on (.builtin "object.__class__")))
  (hn:specialIn K (.builtin "object.__class__") "__get__"=on (on (.builtin "getset_descriptor.__get__"))) (htk:S5 K (.builtin "object.__class__")=on JW)
  (hm:PySem.W.mroIn K C (.type "object")=on JW):n_ K H (.ref a) (.ref C)
theorem x4(I:cp X ai σ H s)(d:aI x u)(ty:n_ X.K H x t)(e:kitOne X.K t c=on b)(h:∀j,Q (.bool b) {s with toks:=j}):
  Ke (Ky X.prog X.w) A (Qu (.builtin "isinstance") [u,c]) Q E s:=by
 cases ty with
 |non=>cases(show u=KZ from d);exact Pt Sj I.kIn Oc e (λz=>nomatch z) h
 |bl y=>cases(show u=Pq y from d);exact Pt Si I.kIn Oc e (λz=>nomatch z) h
 |int i=>obtain⟨t,q⟩:=(show ∃t,u=NV i t from d);cases q;exact Pt SD I.kIn Oc e (λz=>nomatch z) h
 |str y=>obtain⟨t,q⟩:=(show ∃t,u=Value.str y t from d);cases q;exact Pt SF I.kIn Oc e (λz=>nomatch z) h
 |@lst a xs ea=>
  cases(show u=Ko a from d);obtain⟨_,_,n,_,g⟩:=(show bC X.prog X.w H s.heap a (.lst xs)from I.hok a _ ea);exact Pt Qq I.kIn ⟨_,g,rfl⟩ e (λz=>nomatch z) h
 |@frz a ob xs ea=>
  cases(show u=Ko a from d);obtain⟨_,_,_,n,_,g⟩:=(show bC X.prog X.w H s.heap a (.frz ob (.lst xs))from I.hok a _ ea);exact Pt Qq I.kIn ⟨_,g,rfl⟩ e (λz=>nomatch z) h
 |@tup a xs ea=>
  cases(show u=Ko a from d);obtain⟨_,_,_,p⟩:=(show bC X.prog X.w H s.heap a (.tup xs)from I.hok a _ ea);obtain⟨o,g,k,_⟩:=p;exact Pt R3 I.kIn ⟨o,g,k⟩ e (λz=>nomatch z) h
 |@ins a C dx fs ea cl ha hn htk hm=>
  cases(show u=Ko a from d);obtain⟨l,O,_⟩:=t7 I.hok ea;obtain⟨m,J,_⟩:=O.look;exact Pt (SE (cl.get _) cl.hd ha hn htk hm) I.kIn J e (λz=>nomatch z) h
structure ee (k:Nat) (A:Lf):Prop where
 hd:A.handled=JT
 dp:A.depth+3*k+5<recursionLimit
 un:A.units+16*k+200<OI
 gd:A.guards=on []
theorem ee.mono{A:Lf}(r:ee k A)(h:j<=k):ee j A:=⟨r.hd,by have:=r.dp;omega,by have:=r.un;omega,r.gd⟩
theorem ee.deeper{A:Lf}(r:ee (k+1) A)(env:Q6):ee k (A.deeper env):=
 ⟨r.hd,by have:=r.dp;show A.depth+1+3*k+5<_;omega,by have:=r.un;show A.units+3+16*k+200<_;omega,r.gd⟩
theorem ee.depth{A:Lf}(r:ee k A):A.depth<recursionLimit:=by have:=r.dp;omega
theorem ee.units{A:Lf}(r:ee k A):A.units+64<OI:=by have:=r.un;omega
noncomputable def yO:TA:=λ_ H Q=>Q [] H
def uR(ta:TE)(tr:TA):TA:=λσ H Q=>ta σ H λx H1=>tr σ H1 λxs d=>Q (x::xs) d
variable{es:List Expr}{te:TE}{t:TA}
theorem ge:PA X [] yO:=λ_ _ _ _ H Q I h=>SQ ⟨[],H,I,.nil,h⟩
theorem dC(ha:PE X e te)(d:PA X es t)(hs:Kj (e::es) X.env=(JZ,LC e X.env)::Kj es X.env:=by rfl):PA X (e::es) (uR te t):=by
 intro pos ai s σ H Q I h;rw[hs];show Ke _ _ (spliced ((JZ,LC e X.env)::Nw pos (Kj es X.env))) _ _ s;refine Ss (d_ (ha ai s σ H _ I h) λu g ⟨x,H1,i,j,q1⟩=>?_);exact d_ (d pos ai g σ H1 _ i q1) λus n ⟨xs,k,l,m,q2⟩=>⟨x::xs,k,l,.cons j m,q2⟩
def UP(t:TA):TE:=λσ H Q=>t σ H λxs H1=>xs.length<=Ki/\∀p,H1 p=JT->Q (.ref p) (upd H1 p (.tup xs))
def Gj(t:TA):TE:=λσ H Q=>t σ H λxs H1=>xs.length<=Ki/\∀p,H1 p=JT->Q (.ref p) (upd H1 p (.lst xs))
theorem GZ{x1}(h:PA X es t):PE X (.Tuple es x1 pos) (UP t):=by
 intro ai s σ H Q I i;refine wpAny_Tuple_spliced (d_ (h pos ai s σ H _ I i) λus d ⟨xs,H1,g,r,z,q⟩=>⟨by rw[<-r.length];exact z,?_⟩);have j:H1 d.heap.objs.size=JT:=g.hok.fresh (J3 _);refine⟨.ref d.heap.objs.size,upd H1 d.heap.objs.size (.tup xs),g.laid (t':=d.toks) (λb u e=>JV _ e) (J3 _) ?_,rfl,q _ j⟩;exact⟨z,us,r,⟨_,Kf _ rfl,rfl,_,rfl⟩⟩
theorem fq(h:PA X es t):PE X (.List es pos) (Gj t):=by
 intro ai s σ H Q I i;refine wpAny_List_spliced (d_ (h pos ai s σ H _ I i) λus d ⟨xs,H1,g,r,z,q⟩=>⟨by rw[<-r.length];exact z,?_⟩);have j:H1 d.heap.objs.size=JT:=g.hok.fresh (J3 _);refine⟨.ref d.heap.objs.size,upd H1 d.heap.objs.size (.lst xs),g.laid (t':=d.toks) (λb u e=>JV _ e) (J3 _) ?_,rfl,q _ j⟩;exact⟨z,us,0,r,Kf _ rfl⟩
abbrev Sp:=List V->Hp->VK->XK->Prop
abbrev D_:=List Q6->Hp->J4->XK->J0->J4->Prop
structure J_ (P:KF) (w:K1) (K:Kt) (mg:K2->Option J0) (base:Lj) (A:Lf) (outer:List Q6) (s:J4) (H:Hp):Prop where
 frames:A.frames=on outer
 mod:Mod K mg base
 bs:∀b o,base.get? b=on o->s.heap.get? b=on o/\H b=JT
 bsz:base.objs.size<=s.heap.objs.size
 funs:s.heap.FunFrames base outer
 frf:∀b∈hE outer,H b=JT
 hok:j_ P w H s.heap
 bare:O0 s.gens
def CE(outer:List Q6)(P:KF)(w:K1)(H:Hp)(s:J4)(Q:VK)(u:J0)(s':J4):Prop:=
 ∃v H',s'.os=s.os/\O0 s'.gens/\Un (hE outer) [] H H' s.heap s'.heap/\j_ P w H' s'.heap/\aI v u/\Q v H'
def CR(CX:D_)(outer:List Q6)(P:KF)(w:K1)(H:Hp)(s:J4)(Q:VK)(E:XK)(r:Result)(s':J4):Prop:=
 match r with
 | .ok (.ret u)=>CE outer P w H s Q u s'
 | .ok _=>False
 | .error e=>CX outer H s E e s'
structure f0 (P:KF) (w:K1) (K:Kt) (mg:K2->Option J0) (base:Lj) (CX:D_) (k:Nat) (f:JY) (fd:KJ) (ps:List K2) (sp:Sp):Prop where
 len:∀vs H Q E,sp vs H Q E->vs.length=ps.length
 run:∀(A:Lf) (outer:List Q6) (s:J4) (H:Hp) (args:Args) (us:List J0) (vs:List V) (Q:VK) (E:XK),ee k A->J_ P w K mg base A outer s H->Qo s fd args (ps.zip us)->aq vs us->sp vs H Q E->
  OF (Ky P w) A (.call (.ref f) args) (CR CX outer P w H s Q E) s
theorem f0.mono{P:KF}{w:K1}{K:Kt}{f:JY}(F:f0 P w K mg base CX j f fd ps sp)(h:j<=k):
  f0 P w K mg base CX k f fd ps sp:=⟨F.len,λA outer s H args us vs Q E d=>F.run A outer s H args us vs Q E (d.mono h)⟩
variable{s':J4}
theorem cp.env0(I:cp X ai σ H s):J_ X.prog X.w X.K X.mg X.base X.A X.stack s H:=
 ⟨I.ok.frames,I.ok.mod,I.bs,Kl I.ok.bsz I.sz,I.stack,I.stkFree,I.hok,I.bare⟩
theorem cp.after{Q:VK}(I:cp X ai σ H s)(h:CE X.stack X.prog X.w H s Q u s'):EP X ai σ Q u s':=by
 obtain⟨v,H',os,bare,un,hok,r,q⟩:=h;obtain⟨j,g,d,t,i⟩:=s';obtain rfl:i=s.os:=os;exact⟨v,H',I.call (h':=j) (g':=g) (d':=d) (t':=t) (ch:=[]) un hok bare (λb z=>Kx z (by simp)),r,q⟩
def IT(sp:Sp)(d:List V)(E:St->XK)(t:TA):TE:=λσ H Q=>t σ H λvs H1=>sp (vs++d) H1 Q (E σ)
def aS(K:Kt)(d:KJ)(ps:List K2)(ds:List J0):Prop:=
 ∀(s:J4) (us:List J0),K.In s.heap->(us++ds).length=ps.length->Qo s d ⟨us,[]⟩ (ps.zip (us++ds))
theorem aS.all{K:Kt}{ps:List K2}(h:∀us:List J0,us.length=ps.length->bindArgs fd ⟨us,[]⟩=Mm (ps.zip us)):aS K fd ps []:=λs us _ d=>by
 rw[KW]at d⊢;exact .of_eq (h us d)
def dN(CX:D_)(X:Cx)(E:St->XK):Prop:=∀(ai:List (JY×KS)) (σ:St) (H:Hp) (s:J4) (e:J0) (s':J4),cp X ai σ H s->CX X.stack H s (E σ) e s'->X.xe e s'
end
section
variable{X:Cx}{CX:D_}{k:Nat}{f C:JY}{fd:KJ}{ps:List K2}{sp:Sp}{dvs:List V}{ds:List J0}{E:St->XK}{x m:K2}{p pos apos:OH}{e o:Expr}{es:List Expr}{ta:TE}{t:TA}
theorem GI(F:f0 X.prog X.w X.K X.mg X.base CX k f fd ps sp)(c:ee k X.A)(d:aS X.K fd ps ds)(hd:aq dvs ds)(g:dN CX X E)
  (I:cp X ai σ H s) (r:aq vs us) (h:sp (vs++dvs) H Q (E σ)):Ke (Ky X.prog X.w) X.A (Qu (.ref f) us) (EP X ai σ Q) X.xe s:=by
 have b:aq (vs++dvs) (us++ds):=r.append hd;have i:(us++ds).length=ps.length:=by rw[<-b.length];exact F.len _ _ _ _ h
 refine wpAny_call (O7 (F.run X.A X.stack s H ⟨us,[]⟩ (us++ds) (vs++dvs) Q (E σ) c I.env0 (d s us I.kIn i) b h) λr s' a=>?_);cases r with
 |error e=>exact g ai σ H s e s' I a
 |ok fl=>
  cases fl with
  |ret u=>exact I.after a
  |next=>exact MB a
  |brk=>exact MB a
  |cont=>exact MB a
theorem kX(F:f0 X.prog X.w X.K X.mg X.base CX k f fd ps sp)(g:ee k X.A)(i:Gl X x)(hm:X.mg x=on (.ref f))(j:Oz X.K (.ref f)=JW)(l:aS X.K fd ps ds)(hd:aq dvs ds)(n:dN CX X E)
  (ha:PA X (e::es) t) (b:(x==("__debug__":K2))=JZ:=by decide) (u:Kj (e::es) X.env=(JZ,LC e X.env)::Kj es X.env:=by rfl) (c:(Nw pos (Kj es X.env)).any (·.1)=JZ:=by rfl):
  PE X (.Call (.Name x p) (e::es) [] pos) (IT sp dvs E t):=by
 intro a s v H Q I h;refine Pi (oC I i hm ?_ b);refine PySem.W.callWith_K (h₀:=X.base) I.ok.mod.kin j (d_ (ha pos a s v H _ I h) λus y ⟨vs,H1,d,r,q⟩=>⟨d.kIn,?_⟩) u c;exact GI F g l hd n d r q
structure Mk (K:Kt) (C f:JY):Prop where
 makes:PySem.W.makesIn K C=JW
 init:R0 K (.ref C) "__init__"=on (on (.ref f))
 fn:isFn K (.ref f)=JW
 kp:Oz K (.ref C)=JW
def PK(X:Cx)(b:List RE)(t:TA):Prop:=
 ∀(pos:OH) (a:List (JY×KS)) (s:J4) (c:St) (H:Hp) (Q:List V->Hp->Prop),cp X a c H s->t c H Q->Ke (Ky X.prog X.w) X.A (evalAll ((Ph pos (NM b X.env)).map (·.2))) (AP X a c Q) X.xe s
variable{ks:List K2}{kpos:OH}{kws:List RE}{te:TE}{tk:TA}{nm:Option K2}
theorem GW:PK X [] yO:=λ_ _ _ _ H Q I h=>wpAny_evalAll_nil ⟨[],H,I,.nil,h⟩
theorem EI(ha:PE X e te)(c:PK X kws t):PK X (⟨nm,e,kpos⟩::kws) (uR te t):=by
 intro pos a s b H Q I h;show Ke _ _ (evalAll ((do let v <-LC e X.env;O8 pos;Mm v)::(Ph pos (NM kws X.env)).map (·.2))) _ _ s
 refine wpAny_evalAll_cons (JR (d_ (ha a s b H _ I h) λu d ⟨x,H1,g,i,q1⟩=>JR (Mr (JU ?_))));exact d_ (c pos a d b H1 _ g q1) λus q ⟨xs,j,l,n,q2⟩=>⟨x::xs,j,l,.cons i n,q2⟩
structure ry (K:Kt) (fd:KJ) (ps ks:List K2) (g:List J0->List J0->List J0) (gV:List V->List V->List V):Prop where
 to:∀(s:J4) (us ws:List J0),K.In s.heap->(g us ws).length=ps.length->Qo s fd ⟨us,ks.zip ws⟩ (ps.zip (g us ws))
 rel:∀{vs:List V} {us:List J0} {zs:List V} {ws:List J0},aq vs us->aq zs ws->aq (gV vs zs) (g us ws)
def Gn(sp:Sp)(b:List V->List V->List V)(E:St->XK)(t tk:TA):TE:=λa H Q=>t a H λvs H1=>tk a H1 λc d=>sp (b vs c) d Q (E a)
variable{g:List J0->List J0->List J0}{gV:List V->List V->List V}
theorem EB(F:f0 X.prog X.w X.K X.mg X.base CX k f fd ps sp)(d:ee k X.A)(b:ry X.K fd ps ks g gV)(i:dN CX X E)
  (I:cp X ai σ H s) (r:aq vs us) (j:aq zs ws) (h:sp (gV vs zs) H Q (E σ)):Ke (Ky X.prog X.w) X.A (Qu (.ref f) us (ks.zip ws)) (EP X ai σ Q) X.xe s:=by
 have c:=b.rel r j;have l:(g us ws).length=ps.length:=by rw[<-c.length];exact F.len _ _ _ _ h
 refine wpAny_call (O7 (F.run X.A X.stack s H ⟨us,ks.zip ws⟩ (g us ws) (gV vs zs) Q (E σ) d I.env0 (b.to s us ws I.kIn l) c h) λr s' a=>?_);cases r with
 |error e=>exact i ai σ H s e s' I a
 |ok fl=>
  cases fl with
  |ret u=>exact I.after a
  |next=>exact MB a
  |brk=>exact MB a
  |cont=>exact MB a
theorem zc(F:f0 X.prog X.w X.K X.mg X.base CX k f fd ps sp)(u:ee k X.A)(v:Gl X x)(hm:X.mg x=on (.ref f))(y:Oz X.K (.ref f)=JW)(B:ry X.K fd ps ks g gV)(J:dN CX X E)
  (ha:PA X (e::es) t) (c:PK X kws tk) (b:(Ph pos (NM kws X.env)).all (·.1.isSome)=JW:=by rfl) (d:(Ph pos (NM kws X.env)).filterMap (·.1)=ks:=by rfl)
  (i:(x==("__debug__":K2))=JZ:=by decide) (L:Kj (e::es) X.env=(JZ,LC e X.env)::Kj es X.env:=by rfl)
  (j:((Nw pos (Kj (e::es) X.env)).any (·.1)||(Ph pos (NM kws X.env)).any (·.1.isNone))=JZ:=by rfl):
  PE X (.Call (.Name x p) (e::es) kws pos) (Gn sp gV E t tk):=by
 intro a s l H Q I h;refine Pi (oC I v hm ?_ i);refine PySem.W.callWith_KW (h₀:=X.base) I.ok.mod.kin y b (d_ (ha pos a s l H _ I h) λus N ⟨vs,H1,O,r,q⟩=>?_) j L;refine d_ (c pos a N l H1 _ O q) λR T ⟨U,Y,n,P,q2⟩=>⟨n.kIn,?_⟩;rw[d];exact EB F u B J n r P q2
structure cx (N P:List K2) (sc:Scope):Prop where
 kind:sc.kind= .function
 co:sc.isCoroutine=JZ
 gen:sc.isGenerator=JZ
 nd:N.Nodup
 pre:N.take P.length=P
 par:∀x∈P,sc.names.lookup x=on .local\/sc.names.lookup x=on .cell
 nofree:∀y∈sc.names,y.2≠ .free
theorem pL{b:K2->Option NL}{x:K2}:∀{a:List (K2×J0)} {m:K2->Option J0},(∀v,(x,v)∉a)->Tc b a m x=m x
 |[],_,_=>rfl
 |(n,v)::r,m,h=>by
  unfold Tc;rw[pL λw c=>h w (J1 _ c)];split
  .have:x≠n:=by rintro rfl;exact h v J2
   simp[this]
  .rfl
theorem pO{b:K2->Option NL}{x:K2}:∀{a:List (K2×J0)} {m:K2->Option J0},(∀v,(x,v)∉a)->Ta b a m x=m x
 |[],_,_=>rfl
 |(n,v)::r,m,h=>by
  unfold Ta;rw[pO λw c=>h w (J1 _ c)];split
  .rfl
  .have:x≠n:=by rintro rfl;exact h v J2
   simp[this]
theorem pM{a:K2->Option NL}{x:K2}{v:J0}:∀{P:List K2} {vs:List J0} {i:Nat} {m:K2->Option J0},P.Nodup->P[i]?=on x->vs[i]?=on v->a x=on .local->
  Tc a (P.zip vs) m x=on v
 |[],_,_,_,_,h,_,_=>by simp at h
 |_::_,[],_,_,_,_,h,_=>by simp at h
 |p::P,w::vs,0,m,nd,h1,h2,hk=>by
  simp at h1 h2;subst h1;subst h2;show Tc a ((p,w)::P.zip vs) m p=_;unfold Tc;rw[pL λv b=>(KM.mp nd).1 (QO b).1,J8 hk];simp
 |p::P,w::vs,i+1,m,nd,h1,h2,hk=>by
  show Tc a ((p,w)::P.zip vs) m x=_;unfold Tc;exact pM (i:=i) (KM.mp nd).2 (by simpa using h1) (by simpa using h2) hk
theorem pP{a:K2->Option NL}{x:K2}{v:J0}:∀{P:List K2} {vs:List J0} {i:Nat} {m:K2->Option J0},P.Nodup->P[i]?=on x->vs[i]?=on v->a x≠on .local->
  Ta a (P.zip vs) m x=on v
 |[],_,_,_,_,h,_,_=>by simp at h
 |_::_,[],_,_,_,_,h,_=>by simp at h
 |p::P,w::vs,0,m,nd,h1,h2,hk=>by
  simp at h1 h2;subst h1;subst h2;show Ta a ((p,w)::P.zip vs) m p=_;unfold Ta;rw[pO λv b=>(KM.mp nd).1 (QO b).1,J6 hk];simp
 |p::P,w::vs,i+1,m,nd,h1,h2,hk=>by
  show Ta a ((p,w)::P.zip vs) m x=_;unfold Ta;exact pP (i:=i) (KM.mp nd).2 (by simpa using h1) (by simpa using h2) hk
noncomputable def eG(N:List K2)(vs:List V):St:=vs.map on++Ks (N.length-vs.length) JT
noncomputable def fK(CX:D_)(P:KF)(w:K1)(K:Kt)(mg:K2->Option J0)(base:Lj)(N:List K2)(a:K2)(scope:Scope)(f:JY)(cd:J0)(A:Lf)(outer:List Q6)(s:J4)(H:Hp)(E:XK):Cx where
 prog:=P
 w:=w
 K:=K
 mg:=mg
 base:=base
 A:=A.deeper (Oy a scope s.heap.objs.size f cd)
 N:=N
 s₀:=s
 H₀:=H
 env:=Oy a scope s.heap.objs.size f cd
 outer:=outer
 stack:=Oy a scope s.heap.objs.size f cd::outer
 ex:=[]
 calm:=JW
 fn:=λ_=>JW
 pn:=[]
 xe:=λe s'=>Ke (Ky P w) (A.deeper (Oy a scope s.heap.objs.size f cd)) (leaving (Oy a scope s.heap.objs.size f cd) e) (λ_ b=>CX outer H s E e b) (λc b=>CX outer H s E c b) s'
theorem sF{a:Scope}{x:K2}(h:a.names.lookup x=on .cell):∃c,(LW n a.names []).lookup x=on c:=by
 have q:=RX a.names n [] (.inl h);exact Q9.mp q
theorem x6{CX:D_}{K:Kt}{N ps:List K2}{scope:Scope}{f:JY}{A:Lf}{s L:J4}{E:XK}{vs:List V}
  (S:cx N ps scope) (hd:A.handled=JT) (j:J_ P w K mg base A outer s H) (U:vs.length=ps.length) (r:aq vs us)
  (x:InCallC s s.heap.objs.size (Tc (Oy qual scope s.heap.objs.size f cd).kindOf (ps.zip us) λ_=>JT) (LW (s.heap.objs.size+1) scope.names []) (Ta (Oy qual scope s.heap.objs.size f cd).kindOf (ps.zip us) λ_=>JT) L):
  cp (fK CX P w K mg base N qual scope f cd A outer s H E) [] (eG N vs) H L:=by
 have R:ps.length<=N.length:=by have:=La PX S.pre;rw[Lk]at this;omega
 obtain⟨I,tk,rfl,O⟩:=x.done;have l:∀b:JY,b∉(fK CX P w K mg base N qual scope f cd A outer s H E).ex:=λb z=>Kx (show b∈([]:List JY)from z) (by simp);refine⟨⟨j.mod,S.kind,rfl,rfl,J3 _,λy z c I d=>?_,λy hy=>?_,λy c _ h=>?_,λ_=>hd,Around.frames_deeper j.frames,.inr ⟨rfl,rfl⟩,λb z=>Kx z (l b),j.bs,j.bsz,λb _ _=>l b,λb z=>Kx z (l b),j.funs,j.frf⟩,
  rfl,j.bare,Un.kept O,⟨_,x.toInCall.ns,λi y v I d W=>?_⟩,λy c h=>⟨_,x.cell y c h⟩,j.hok.fresh (J3 _),λy c h=>?_,λp B=>Kx (show p∈([]:List (JY×KS))from B) (by simp),j.hok.kept O,?_⟩
 .exact name_of_addr x.apart (LB I) (LB d)
 .have hy:scope.names.lookup y=on .cell\/scope.names.lookup y=on .free:=hy
  rcases hy with hy|hy
  .exact sF hy
  .exact Kx rfl (S.nofree _ (LB hy))
 .exact N4 (x.above y c (LB h))
 .have J:i<vs.length:=by
   unfold eG at d;by_cases J:i<vs.length
   .exact J
   .rw[Ma (by simpa using J)]at d
    rw[MT]at d;split at d<;>cases d
  have ha:vs[i]?=on v:=by
   unfold eG at d;rw[NJ (by simpa using J),J9]at d;cases e:vs[i]? with
   |none=>rw[e]at d;cases d
   |some a=>rw[e]at d;cases d;rfl
  obtain⟨u,Q,T⟩:=r.get ha;have B:ps[i]?=on y:=by
   rw[<-S.pre,Rm (by omega)];exact I
  have F:ps.Nodup:=by rw[<-S.pre];exact S.nd.sublist (List.take_sublist _ _)
  refine⟨u,T,?_⟩;rcases S.par y (KA B)with k|k
  .exact .inl ⟨k,pM F B Q k⟩
  .obtain⟨c,e⟩:=sF (n:=s.heap.objs.size+1) k
   refine .inr ⟨.inl k,c,e,?_⟩;have q:=x.cell y c e;rw[pP F B Q (by show scope.names.lookup y≠_;rw[k];decide)]at q;exact q
 .exact j.hok.fresh (N4 (x.above y c (LB h)))
 .unfold eG
  show _=N.length;rw[Kg,JS,LX];omega
theorem CT{CX:D_}{K:Kt}{k:Nat}{f:JY}
  {N ps:List K2} {sp:Sp} (U:K.lookup f=on ⟨oc,od,.func (NY name qual params body scope dV kV doc pm an cdv ct),osl⟩) (B:Ov K cdv qual=JW) (S:cx N ps scope)
  (len:∀vs H Q E,sp vs H Q E->vs.length=ps.length)
  (d:∀(A:Lf) (outer:List Q6) (s:J4) (H:Hp) (vs:List V) (Q:VK) (E:XK),ee k (A.deeper (Oy qual scope s.heap.objs.size f cdv))->sp vs H Q E->
   ∃t,PSs (fK CX P w K mg base N qual scope f cdv A outer s H E) body t/\t {nx:=λ_ c=>Q .non c,rt:=Q} (eG N vs) H):
  f0 P w K mg base CX (k+1) f (NY name qual params body scope dV kV doc pm an cdv ct) ps sp:=by
 refine⟨len,λA outer s H args us vs Q E F i Y r j=>?_⟩;have Z:=len _ _ _ _ j;have R:K.In s.heap:=i.mod.kin.keeps λb o e=>(i.bs b o e).1;have L:s.heap.NoLimit:=i.mod.nolimit.keeps λb o e=>(i.bs b o e).1;have h:∀y∈ps.zip us,scope.names.lookup y.1=on .local\/(scope.names.lookup y.1=on .cell/\((LW (s.heap.objs.size+1) scope.names []).lookup y.1).isSome=JW):=λ⟨n,v⟩ hy=>by
  rcases S.par n (QO hy).1 with q|q
  .exact .inl q
  .exact .inr ⟨q,RX _ _ _ (.inl q)⟩
 refine codeAny_call_function F.depth (R _ _ U) rfl S.co S.gen rfl (PySem.W.codeRec_of R B) (Y _ _ _ _ ?_);refine wpAny_newFunctionEnv_cells S.kind h λenv he T x=>?_;subst he;refine⟨L.keeps x.toInCall.keep,codeAny_func ?_⟩;obtain⟨t,ht,hq⟩:=d A outer s H vs Q E (F.deeper _) j;have I:cp (fK CX P w K mg base N qual scope f cdv A outer s H E) [] (eG N vs) H T:=x6 S F.hd i Z r x;refine Ld (ht [] T (eG N vs) H _ I hq) (λfl s' hs=>?_) λe s' hs=>hs;have l:∀{a:St} {c:Hp} {v:V} {u:J0},cp (fK CX P w K mg base N qual scope f cdv A outer s H E) [] a c s'->aI v u->Q v c->CE outer P w H s Q u s':=
  λ{a c v u} J O q=>⟨v,c,J.os,J.bare,J.base,J.hok,O,q⟩
 cases fl with
 |ret u=>
  obtain⟨v,a,c,J,O,q⟩:=hs;exact l J O q
 |next=>
  obtain⟨a,c,J,q⟩:=hs;exact l (v:=V.non) (u:=KZ) J rfl q
 |brk=>
  obtain⟨_,_,_,q⟩:=hs;exact MB q
 |cont=>
  obtain⟨_,_,_,q⟩:=hs;exact MB q
variable{id T:String}{r:List V->Hp->VK->Prop}
def UU(r:List V->Hp->VK->Prop)(t:TA):TE:=λa H Q=>t a H λvs H1=>r vs H1 Q
theorem jo(i:cI X (.builtin id) r)(j:Gl X x)(hm:X.mg x=JT)(l:Nk x=on (.builtin id))(ha:PA X (e::es) t)(hn:x≠"__name__":=by decide)(b:(x==("__debug__":K2))=JZ:=by decide)
  (n:Kj (e::es) X.env=(JZ,LC e X.env)::Kj es X.env:=by rfl) (c:(Nw pos (Kj es X.env)).any (·.1)=JZ:=by rfl):PE X (.Call (.Name x p) (e::es) [] pos) (UU r t):=by
 intro a s d H Q I h;refine Pi (eE I j hm l ?_ hn b);exact PyProof.Rows.callWith_builtin1 (d_ (ha pos a s d H _ I h) λus q ⟨vs,H1,u,v,q1⟩=>i a q d H1 vs us Q u v q1) n c
theorem pp(i:cI X (.type T) r)(j:Gl X x)(hm:X.mg x=JT)(l:Nk x=on (.type T))(ha:PA X (e::es) t)(hn:x≠"__name__":=by decide)(b:(x==("__debug__":K2))=JZ:=by decide)
  (n:Kj (e::es) X.env=(JZ,LC e X.env)::Kj es X.env:=by rfl) (c:(Nw pos (Kj es X.env)).any (·.1)=JZ:=by rfl):PE X (.Call (.Name x p) (e::es) [] pos) (UU r t):=by
 intro a s d H Q I h;refine Pi (eE I j hm l ?_ hn b);exact Lw (d_ (ha pos a s d H _ I h) λus q ⟨vs,H1,u,v,q1⟩=>i a q d H1 vs us Q u v q1) n c
end
end L2
namespace HT
open PySem PyProof.Rows
def lexLt:List Int->List Int->Bool
 |[],[]=>JZ
 |[],_::_=>JW
 |_::_,[]=>JZ
 |x::xs,y::ys=>if x=y then lexLt xs ys else decide (x<y)
theorem lexLt_cons(x y:Int)(xs ys:List Int):lexLt (x::xs) (y::ys)=if x=y then lexLt xs ys else decide (x<y):=rfl
theorem pU:lexLt [] []=JZ:=rfl
theorem oA(y:Int)(ys:List Int):lexLt [] (y::ys)=JW:=rfl
theorem oB(x:Int)(xs:List Int):lexLt (x::xs) []=JZ:=rfl
theorem zN(A:Lf)(s:J4)(a:Int)(t:Tok)(c:Int)(u:Tok):∃e,LJ A s (.int a t) (.int c u) e/\(e=JW↔a=c):=
 ⟨(a==c),Rp a t c u,by simp⟩
theorem yW(A:Lf)(s:J4)(a:Int)(t:Tok)(c:Int)(u:Tok)(prog:KF)(w:K1)(E:J0->J4->Prop)(Q:J0->J4->Prop)(h:Q (.bool (decide (a<c))) s):
  Ke (Ky prog w) A (richCompare .Lt (.int a t) (.int c u)) Q E s:=
 (PyProof.Rows.lt_int h:Ke (Ky prog w) A (Lp .Lt (.int a t) (.int c u)) Q E s)
section
open PySem.SeqAt
open PySem.AutoSeq1 (wpAny_loadPart')
open PySem.MeetsSeq PySem.MeetsSeq2 PySem.MeetsSeq3
theorem pQ(l b:JY)(i f:Array J0)(n Z:Nat)(dd P:Option JY)(sl Q:Array (Option J0))(ns J:List Int)(W:Oh i.toList ns)(X:Oh f.toList J):
  Meets (Builtin.«tuple.__lt__» ⟨[.ref l,.ref b],[]⟩)
   (λ_ R s=>s.heap.get? l=on {cls:= .type "tuple",dict:=dd,data:= .seq i n,slots:=sl}/\s.heap.get? b=on {cls:= .type "tuple",dict:=P,data:= .seq f Z,slots:=Q}/\
    R (.ok (.ret (.bool (lexLt ns J)))) s):=
 .of_wp λprog w A R s h=>by
  obtain⟨L,g,d,N,os⟩:=s;obtain⟨hl,hb,h⟩:=h;have f2:=AutoSeq1.sub_tuple_tuple;have z1:i.size=ns.length:=by rw[<-W.length];simp
  have z2:f.size=J.length:=by rw[<-X.length];simp
  wp_walk using wpAny_loadPart' hl,wpAny_loadPart' hb,OC _ (λrest b s'=>b.1=JT/\s'=⟨L,g,d,N,os⟩/\∃(vs O:List J0) (k m:List Int),rest=vs.zip O/\
   Oh vs k/\Oh O m/\k.length+f.size=m.length+i.size/\R (.ok (.ret (.bool (lexLt k m)))) ⟨L,g,d,N,os⟩) _
  case turn=>
   rintro⟨y,x⟩ rest b s' ⟨B,rfl,vs,O,k,m,o,C,p,j,r⟩;cases C with
   |nil=>rw[O5]at o;cases o
   |cons a t H=>
    cases p with
    |nil=>rw[SY]at o;cases o
    |cons c u I=>
     rw[MD]at o
     injection o with T F
     injection T with hy hx
     subst hy hx;rw[lexLt_cons]at r;simp only[Kq]at j;obtain⟨e,he,v⟩:=zN A.in1 ⟨L,g,d,N,os⟩ a t c u;refine JR (he prog w _ _ ?_);cases e with
     |true=>
      rw[J8 (v.mp rfl)]at r
      wp_walk
      exact⟨rfl,rfl,_,_,_,_,F,H,I,by omega,r⟩
     |false=>
      rw[J6 (λq=>Kx (v.mpr q) J7)]at r;have U:=yW A.in1 ⟨L,g,d,N,os⟩ a t c u prog w
      wp_walk using U
      exact⟨_,rfl,by simpa using r⟩
  case fin=>
   rintro⟨b1,b2⟩ s' ⟨B,rfl,vs,O,k,m,o,C,p,j,r⟩;simp only at B;subst B;have Y:lexLt k m=decide (i.size<f.size):=by
    cases C with
    |nil=>
     cases p with
     |nil=>
      simp only[NR]at j;rw[pU];exact(K0 (by omega)).symm
     |cons c u hw=>
      simp only[NR,Kq]at j;rw[oA];exact(Km (by omega)).symm
    |cons a t Y=>
     cases p with
     |nil=>
      simp only[NR,Kq]at j;rw[oB];exact(K0 (by omega)).symm
     |cons c u hw=>
      rw[MD]at o;cases o
   rw[Y]at r
   wp_walk
   exact⟨_,rfl,by simpa[Builtin.Tuple.tupleCompareSizes]using r⟩
  case h=>
   exact⟨rfl,rfl,i.toList,f.toList,ns,J,rfl,W,X,by omega,h⟩
end
section
variable{prog:KF}{w:K1}{A:Lf}{E:J0->J4->Prop}{s:J4}
theorem lt_tupInts{c a:Array J0}(p:SU s.heap l c)(q:SU s.heap b a)(r:Oh c.toList ns)(t:Oh a.toList ms)
  (u:A.units<OI) (h:Q (.bool (lexLt ns ms)) s):Ke (Ky prog w) A (Lp .Lt (.ref l) (.ref b)) Q E s:=by
 obtain⟨⟨cls,v,data,sl⟩,k,m,n,hd⟩:=id p;obtain⟨⟨o,g,i,j⟩,d,e,y,f⟩:=id q;simp only at m hd e f;subst m hd e f;exact richCompare_meets_room (op:= .Lt) ⟨_,k,rfl⟩ ⟨_,d,rfl⟩ PySem.F.slot_tuple_lt PySem.F.entry_tuple_lt (PySem.F.args_tuple_lt_2 _ _) (pQ l b c a n y v g sl j ns ms r t)
  ⟨k,d,show Pq (lexLt ns ms)≠Value.notImplemented/\Q (.bool (lexLt ns ms)) s from⟨(λx=>nomatch x),h⟩⟩ u
theorem cat_tup{vs a:List J0}(u:SU s.heap t vs.toArray)(v:SU s.heap b a.toArray)(m:vs≠[])
  (y:a=[]->Q (.ref t) s) (B:a≠[]->Q (.ref s.heap.objs.size) {s with heap:=s.heap.push {cls:= .type "tuple",data:= .seq (vs++a).toArray}})
  (k:vs.length+a.length<=Ki):Ke (Ky prog w) A (ML .Add (.ref t) (.ref b)) Q E s:=by
 obtain⟨⟨cls,o,data,sl⟩,i,p,n,hd⟩:=id u;obtain⟨⟨q,d,l,f⟩,c,g,r,h⟩:=id v;simp only at p hd g h;subst p hd g h;have e:vs.toArray++a.toArray=(vs++a).toArray:=by simp
 by_cases j:a=[]
 .exact concat_meets ⟨_,i,rfl⟩ ⟨_,c,rfl⟩ Ri SK Pf O6 (OT _ _)
   (tuple_addW1 t b vs.toArray a.toArray n r o d sl f (by simpa using m) (by simp[j])) ⟨i,c,y j⟩
 .refine concat_meets ⟨_,i,rfl⟩ ⟨_,c,rfl⟩ Ri SK Pf O6 (OT _ _)
   (tuple_addW2 t b vs.toArray a.toArray n r o d sl f (by simpa using m) (by simpa using j) (by rw[Kh,Kh];exact k)) ⟨i,c,?_⟩
  rw[e];exact B j
noncomputable def sIx(n d:Nat):Option Int->Nat
 |none=>d
 |some v=>if v<0 then(v+(n:Int)).toNat else Np v.toNat n
theorem sIx_none(n d:Nat):sIx n d JT=d:=rfl
theorem sIx_nat(n d k:Nat):sIx n d (on (k:Int))=Np k n:=by
 show(if(k:Int)<0 then((k:Int)+(n:Int)).toNat else Np (k:Int).toNat n)=Np k n;rw[J6 (by omega),Lm]
theorem GH(n d:Nat)(hd:d<=n)(o:Option Int):sIx n d o<=n:=by
 cases o with
 |none=>exact hd
 |some v=>
  show(if v<0 then(v+(n:Int)).toNat else Np v.toNat n)<=n;by_cases a:v<0
  .rw[J8 a];omega
  .rw[J6 a];exact Nat.min_le_right _ _
theorem uu(v:Int)(n d:Nat):(if v<0 then max (v+(n:Int)) 0 else Np v (n:Int))=((sIx n d (on v):Nat):Int):=by
 show(if v<0 then max (v+(n:Int)) 0 else Np v (n:Int))=(((if v<0 then(v+(n:Int)).toNat else Np v.toNat n):Nat):Int);by_cases a:v<0
 .simp only[J8 a];omega
 .simp only[J6 a];omega
theorem v5(lo a:Option Int)(n:Nat):Of lo a 1 (n:Int)=(((sIx n 0 lo:Nat):Int),((sIx n n a:Nat):Int)):=by
 have b:¬((1:Int)<0):=by omega
 unfold Of;simp only[b,Lb];refine Mu ?_ ?_
 .cases lo with
  |none=>rfl
  |some v=>exact uu v n 0
 .cases a with
  |none=>rfl
  |some v=>exact uu v n n
theorem u5(i j:Nat):M8 (i:Int) (j:Int) 1=j-i:=by
 unfold M8;have a:(1:Int)>0:=by omega
 simp only[a,K8,Int.ediv_one];split<;>omega
theorem mJ(p:Qh v o)(h:Q o s):Ke (Ky prog w) A (Builtin.Slice.slicePartIndex v) Q E s:=by
 cases p with
 |none=>exact slicePart_none h
 |int i t=>exact slicePart_int h
theorem gM{sl:JY}{d e:J0}{lo a:Option Int}{n:Nat}{Q:Int×Int×Nat->J4->Prop}(hs:s.heap.IsSliceOf sl d e .none)(f:Qh d lo)(g:Qh e a)
  (h:Q (((sIx n 0 lo:Nat):Int),1,sIx n n a-sIx n 0 lo) s):Ke (Ky prog w) A (Qa (.ref sl) (Mm (n:Int))) Q E s:=by
 obtain⟨os,b,i,c⟩:=id hs;unfold Qa Builtin.Slice.sliceFields;refine JR (JR (Lu b c (x:=d) rfl (JR (Lu b c (x:=e) rfl (JR (Lu b c (x:= .none) rfl (JU ?_)))))));refine JR (slicePart_none ?_);show Ke _ _ (if((1:Int)==0)=JW then _ else _) _ _ s;rw[J6 (by decide)];refine JR (mJ f (JR (mJ g (JR (JU ?_)))));show Ke _ _ (match Of lo a 1 (n:Int)with|(lo,a)=>Mm (lo,(1:Int),M8 lo a 1)) _ _ s
 rw[v5 lo a n];show Ke _ _ (Mm (((sIx n 0 lo:Nat):Int),(1:Int),M8 ((sIx n 0 lo:Nat):Int) ((sIx n n a:Nat):Int) 1)) _ _ s;rw[u5];exact JU h
theorem y8(xs:Array J0)(i k:Nat):((Ka k).filterMap λ(m:Nat)=>xs[((i:Int)+(m:Int)*1).toNat]?).toArray=((xs.toList.drop i).take k).toArray:=by
 have e:(λ(m:Nat)=>xs[((i:Int)+(m:Int)*1).toNat]?)=λm=>xs[i+m]?:=by
  funext m;have:((i:Int)+(m:Int)*1).toNat=i+m:=by omega
  rw[this]
 rw[e];have:=pick_run xs i k;rw[SV]at this;have a:((λx=>xs[x]?)∘λx=>i+x)=λm=>xs[i+m]?:=rfl;rw[a]at this;rw[this]
theorem getItem_tuple_cut{a:Array J0}{lo c:Option Int}(d:SU s.heap t a)(hs:s.heap.IsSliceOf sl vl vu .none)(j:Qh vl lo)(k:Qh vu c)
  (l:¬(sIx a.size 0 lo=0/\sIx a.size a.size c=a.size))
  (h:Q (.ref s.heap.objs.size) {s with heap:=s.heap.push {cls:= .type "tuple",data:= .seq ((a.toList.drop (sIx a.size 0 lo)).take (sIx a.size a.size c-sIx a.size 0 lo)).toArray}})
  (n:a.size<=Ki):Ke (Ky prog w) A (QY (.ref t) (.ref sl)) Q E s:=by
 have b:sizeOk (.seq ((a.toList.drop (sIx a.size 0 lo)).take (sIx a.size a.size c-sIx a.size 0 lo)).toArray):=by
  show((a.toList.drop (sIx a.size 0 lo)).take (sIx a.size a.size c-sIx a.size 0 lo)).toArray.size<=Ki;rw[Kh,Lk,NE,KG];omega
 have p:sIx a.size a.size c<=a.size:=GH _ _ (J3 _) c;obtain⟨os,e,f,o⟩:=id hs;have g:s.TypeIs (.ref sl) "slice":=⟨os,e,f⟩;unfold QY
 try with_reducible refine Ln ?_
 first|refine JR (JU ?_)|skip
 refine JR (wpAny_sequenceKey d.typeIs (by decide) ?_);refine JR (wpAny_callSpecial?_slot (name:=LQ "__getitem__") d.typeIs LH
  (KR LH d.typeIs entry_tuple_getitem ?_ (args_tuple_getitem _ _)))
 show Ke _ _ (N7 (.ref t)>>=_) _ _ s;refine JR (tupleItemsOf_ d ?_);refine JR (On g ?_);rw[J8 (by decide)];refine JR (gM hs j k ?_);have i:¬((((sIx a.size 0 lo:Nat):Int)==0&&(1:Int)==1&&(sIx a.size a.size c-sIx a.size 0 lo)==a.size)=JW):=by
  intro q;rw[Kz,Kz]at q;have q1:((sIx a.size 0 lo:Nat):Int)=0:=eq_of_beq q.1.1;have q2:sIx a.size a.size c-sIx a.size 0 lo=a.size:=eq_of_beq q.2;exact l ⟨by omega,by omega⟩
 show Ke _ _ (if(((sIx a.size 0 lo:Nat):Int)==0&&(1:Int)==1&&(sIx a.size a.size c-sIx a.size 0 lo)==a.size)=JW then _ else _) _ _ s;rw[J6 i,y8]
 first
  |exact JR (m:=Ni _) (KU (JU ⟨_,rfl,JU h⟩) b)
  |exact JR (m:=Ni _) (KU (JR (JU (JU ⟨_,rfl,JU h⟩))) b)
  |exact JR (JR (m:=Ni _) (KU (JU (JU ⟨_,rfl,JU h⟩)) b))
  |exact JR (JR (m:=Ni _) (KU (JU ⟨_,rfl,JU h⟩) b))
end
end HT
namespace L2
open PySem PySem.Spec PyProof.Rows
abbrev TO:=St->Hp->(Option Int->Hp->Prop)->Prop
def PO(X:Cx)(e:Option Expr)(t:TO):Prop:=
 ∀(a:List (JY×KS)) (s:J4) (b:St) (H:Hp) (Q:Option Int->Hp->Prop),cp X a b H s->t b H Q->
  Ke (Ky X.prog X.w) X.A (evalPart e X.env) (λu s'=>∃o c,cp X a b c s'/\Qh u o/\Q o c) X.xe s
noncomputable def DO:TO:=λ_ H Q=>Q JT H
def IR(t:TE):TO:=λa H Q=>t a H λx H1=>∃i,x= .int i/\Q (on i) H1
theorem nl{ns:List Int}:∀{us:List J0},aq (ns.map V.int) us->Oh us ns:=by
 induction ns with
 |nil=>intro us r;rw[NF]at r;cases r;exact .nil
 |cons n ns ih=>
  intro us r;rw[Kv]at r;cases r with
  |cons a b=>
   obtain⟨t,e⟩:=a;subst e;exact .cons n t (ih b)
section
variable{X:Cx}{e:Expr}{te:TE}{lo hi:Option Expr}{tl th:TO}{pos p2:OH}
theorem tH:PO X JT DO:=by
 intro a s b H Q I h;rw[SJ];exact JU ⟨JT,H,I,.none,h⟩
theorem tF(h:PE X e te):PO X (on e) (IR te):=by
 intro a s b H Q I c;rw[evalPart_some];refine d_ (h a s b H _ I c) λu g ⟨x,H1,d,f,q1⟩=>?_;obtain⟨i,rfl,q⟩:=q1;obtain⟨t,rfl⟩:=f;exact⟨on i,H1,d,.int i t,q⟩
def UD(X:Cx)(r:V->Option Int->Option Int->Hp->VK->Prop):Prop:=
 ∀(a:List (JY×KS)) (s:J4) (b:St) (H:Hp) (x:V) (v c d:J0) (lo hi:Option Int) (sl:JY) (Q:VK),cp X a b H s->aI x v->s.heap.IsSliceOf sl c d .none->Qh c lo->Qh d hi->r x lo hi H Q->
  ∃T f,typeLookup (.type T) "__getitem__"=Mm (on (.builtin f))/\s.TypeIs v T/\Ke (Ky X.prog X.w) X.A (QY v (.ref sl)) (EP X a b Q) X.xe s
def W8(r:V->Option Int->Option Int->Hp->VK->Prop)(te:TE)(tl th:TO):TE:=λa H Q=>te a H λx H1=>tl a H1 λl b=>th a b λu c=>r x l u c Q
theorem lV(j:UD X r)(k:PE X e te)(m:PO X lo tl)(n:PO X hi th):PE X (.Subscript e (.Slice lo hi JT p2) pos) (W8 r te tl th):=by
 intro a s d H Q I h;refine Subscript_ (d_ (k a s d H _ I h) λv o ⟨x,H1,p,t,q1⟩=>?_);refine wpAny_Slice (d_ (m a o d H1 _ p q1) λf y ⟨l,B,C,F,q2⟩=>d_ (n a y d B _ C q2) λg c ⟨u,i,J,L,q3⟩=>?_);rw[SJ];refine JU ?_;have N:cp X a d i {c with heap:=c.heap.push {cls:= .type "slice",data:= .fields #[f,g,.none]}}:=J.kept (t':=c.toks) λb U q=>JV _ q;obtain⟨T,W,O,P,R⟩:=j a {c with heap:=c.heap.push {cls:= .type "slice",data:= .fields #[f,g,.none]}} d i x v f g l u c.heap.objs.size Q N t (QL ..) F L q3;show Ke (Ky X.prog X.w) X.A (SL e (.Slice lo hi JT p2) v (.ref c.heap.objs.size)) (EP X a d Q) X.xe {c with heap:=c.heap.push {cls:= .type "slice",data:= .fields #[f,g,.none]}};exact tail_any (ops:=[.ref c.heap.objs.size,v]) P O R (by with_unfolding_all rfl)
noncomputable def hV(xs:List V)(lo hi:Option Int):List V:=(xs.drop (HT.sIx xs.length 0 lo)).take (HT.sIx xs.length xs.length hi-HT.sIx xs.length 0 lo)
theorem lE(xs:List V)(lo hi:Option Int):(hV xs lo hi).length<=xs.length:=by
 unfold hV;rw[Lk,NE];omega
def UZ(K:Kt):V->Option Int->Option Int->Hp->VK->Prop:=λx lo hi H Q=>∃a xs,x= .ref a/\hH K H a xs/\
 ¬(HT.sIx xs.length 0 lo=0/\HT.sIx xs.length xs.length hi=xs.length)/\∀p,H p=JT->Q (.ref p) (upd H p (.tup (hV xs lo hi)))
theorem Gv:UD X (UZ X.K):=by
 intro d s n H x v p t lo hi sl Q I i hs j k h;obtain⟨a,xs,rfl,l,m,q⟩:=h;cases i;obtain⟨its,r,f,g⟩:=I.tuple l;have c:its.toArray.size=xs.length:=by rw[Kh];exact r.length.symm
 refine⟨"tuple",_,LH.lookup,f.typeIs,?_⟩;refine HT.getItem_tuple_cut f hs j k (by rw[c];exact m) ?_ (by rw[c];exact g);rw[c];refine⟨.ref s.heap.objs.size,_,I.laid (t':=s.toks) (o:= .tup (hV xs lo hi)) (λb u q=>JV _ q) (J3 _) ?_,rfl,q _ (I.hok.fresh (J3 _))⟩;exact⟨Kl (lE xs lo hi) g,_,(r.drop (HT.sIx xs.length 0 lo)).take (HT.sIx xs.length xs.length hi-HT.sIx xs.length 0 lo),Tj _ _⟩
def uY(K:Kt):R2:=λx y H Q=>∃a b xs ys,x= .ref a/\y= .ref b/\hH K H a xs/\hH K H b ys/\xs≠[]/\xs.length+ys.length<=Ki/\
 (ys=[]->Q (.ref a) H)/\(ys≠[]->∀p,H p=JT->Q (.ref p) (upd H p (.tup (xs++ys))))
theorem aq.nil_iff(r:aq xs us):us=[]↔xs=[]:=by
 cases r with
 |nil=>simp
 |cons _ _=>simp
theorem ES:f_ X (ML .Add) (uY X.K):=by
 intro f s p H x y v u Q I j k h;obtain⟨a,b,xs,ys,rfl,rfl,ha,l,m,g,q1,q2⟩:=h;cases j;cases k;obtain⟨its,d,n,_⟩:=I.tuple ha;obtain⟨i,c,p2,_⟩:=I.tuple l;refine HT.cat_tup n p2 (λz=>m (d.nil_iff.mp z)) (λz=>⟨.ref a,H,I,rfl,q1 (c.nil_iff.mp z)⟩) (λz=>?_) (by rw[<-d.length,<-c.length];exact g);refine⟨.ref s.heap.objs.size,_,I.laid (t':=s.toks) (o:= .tup (xs++ys)) (λb r q=>JV _ q) (J3 _) ?_,rfl,q2 (λw=>z (c.nil_iff.mpr w)) _ (I.hok.fresh (J3 _))⟩;exact⟨by rw[Kg];exact g,_,d.append c,Tj _ _⟩
noncomputable def ix(n:Nat)(i:Int):Option Nat:=if 0<=i then(if i<n then on i.toNat else JT)else if -(n:Int)<=i then on (i+n).toNat else JT
def lp{α:Type}(xs:List α)(i:Int):Option α:=(ix xs.length i).bind λj=>xs[j]?
theorem oF(h:ix n i=on j):seqIndex? i n=on j/\j<n/\-(n:Int)<=i/\i<n:=by
 unfold ix at h;by_cases b:0<=i
 .rw[J8 b]at h
  by_cases a:i<n
  .rw[J8 a]at h
   have e:i.toNat=j:=KE h;exact⟨by rw[seqIndex_of b a,e],by omega,by omega,a⟩
  .rw[J6 a]at h;cases h
 .rw[J6 b]at h
  by_cases a:-(n:Int)<=i
  .rw[J8 a]at h
   have e:(i+n).toNat=j:=KE h;exact⟨by rw[Tx (by omega) a,e],by omega,a,by omega⟩
  .rw[J6 a]at h;cases h
theorem uy{α:Type}{xs:List α}{i:Int}{v:α}(h:lp xs i=on v):∃j,seqIndex? i xs.length=on j/\xs[j]?=on v/\j<xs.length/\-(xs.length:Int)<=i/\i<xs.length:=by
 unfold lp at h;cases e:ix xs.length i with
 |none=>rw[e]at h;cases h
 |some j=>
  rw[e]at h;obtain⟨a,b,c,d⟩:=oF e;exact⟨j,a,h,b,c,d⟩
theorem F6{α:Type}{xs:List α}{j:Nat}{v:α}(h:xs[j]?=on v):lp xs (j:Int)=on v:=by
 have a:j<xs.length:=(Kc.mp h).1;have e:ix xs.length (j:Int)=on j:=by
  unfold ix;rw[J8 (by omega),J8 (by omega)];simp
 unfold lp;rw[e];exact h
def uA(b:Expr):Prop:=∀o i,subscripted b JZ o i=operate [o,i] (QY o i)
def D2(X:Cx)(r:R2):Prop:=
 ∀(c a:Expr) (b:List (JY×KS)) (s:J4) (d:St) (H:Hp) (x y:V) (v u:J0) (Q:VK),cp X b d H s->aI x v->aI y u->r x y H Q->
  subscripted a JZ v u=operate [v,u] (QY v u)->Ke (Ky X.prog X.w) X.A (SL c a v u) (EP X b d Q) X.xe s
def Yu(X:Cx)(c:String)(r:V->List V->Hp->VK->Prop):Prop:=
 ∀(a:List (JY×KS)) (s:J4) (b:St) (H:Hp) (x:V) (xs:List V) (v:J0) (us:List J0) (Q:VK),cp X a b H s->aI x v->aq xs us->r x xs H Q->
  Ke (Ky X.prog X.w) X.A (Qu (.builtin c) (v::us)) (EP X a b Q) X.xe s
variable{a b:Expr}{ta tb:TE}
theorem D2.or(h:D2 X r)(h':D2 X r'):D2 X (λx y H Q=>r x y H Q\/r' x y H Q):=by
 intro c d f s g H x y v u Q I i j q hs;rcases q with q|q
 .exact h c d f s g H x y v u Q I i j q hs
 .exact h' c d f s g H x y v u Q I i j q hs
theorem cN(d:D2 X r)(ha:PE X a ta)(f:PE X b tb)(hs:uA b):PE X (.Subscript a b pos) (KX r ta tb):=by
 intro c s g H Q I h;exact Subscript_ (zY ha f I h λv u i x y j k l m q=>d a b c i g j x y v u Q k l m q (hs _ _))
def oj(K:Kt):R2:=λx y H Q=>∃p xs i v,x= .ref p/\y= .int i/\e_ K H p xs/\lp xs i=on v/\Q v H
def yX(K:Kt):R2:=λx y H Q=>∃p xs i v,x= .ref p/\y= .int i/\hH K H p xs/\lp xs i=on v/\Q v H
theorem bD:D2 X (oj X.K):=by
 intro g k c s o H x y v u Q I C F h hs;obtain⟨p,xs,i,z,rfl,rfl,J,L,q⟩:=h;cases C;obtain⟨t,rfl⟩:=F;obtain⟨its,r,l,T⟩:=I.list J;obtain⟨j,f,N,U,O,P⟩:=uy L;obtain⟨w,A,m⟩:=r.get N;have R:=r.length;have hn:=i5;have d:EP X c o Q w s:=⟨z,H,I,m,q⟩;by_cases B:0<=i
 .have n:i.toNat=j:=by
   rw[seqIndex_of B P]at f;exact KE f
  exact item_listR l.isList B (by omega) (by rw[n];simpa using A) d hs
 .have n:(i+(its.toArray.size:Int)).toNat=j:=by
   rw[Tx (by omega) O]at f;rw[Kh,<-R];exact KE f
  exact P5 (x:=w) l.isList.typeIs slot_list_getitem.lookup
   (wpAny_getItem_list_neg (Q:=λr s'=>r=w/\EP X c o Q r s') l.isList (by omega) (by rw[Kh]<;>omega) (by omega) (by rw[n];simpa using A) ⟨rfl,d⟩) hs
theorem Ht:D2 X (yX X.K):=by
 intro d f c s l H x y v u Q I n o h hs;obtain⟨p,xs,i,z,rfl,rfl,A,B,q⟩:=h;cases n;obtain⟨t,rfl⟩:=o;obtain⟨its,r,m,N⟩:=I.tuple A;obtain⟨j,C,F,O,P,R⟩:=uy B;obtain⟨w,J,g⟩:=r.get F;have L:=r.length;have hn:=i5;have k:EP X c l Q w s:=⟨z,H,I,g,q⟩;exact P5 (x:=w) m.typeIs slot_tuple_getitem.lookup
  (getItem_tuple (j:=j) (Q:=λr s'=>r=w/\EP X c l Q r s') m (by omega) (by omega) (by rw[Kh,<-L];exact C) (by simpa using J) ⟨rfl,k⟩) hs
theorem vh(its:List J0)(n j:Nat)(u:J0):Lo (·.setIfInBounds j u) {cls:= .type "list",data:= .seq its.toArray n}={cls:= .type "list",data:= .seq (its.set j u).toArray n}:=by
 simp[Lo]
theorem cp.lst{s:J4}{xs:List V}(I:cp X ai σ H s)(h:H p=on (.lst xs)):
  ∃(its:List J0) (n:Nat),aq xs its/\s.heap.get? p=on {cls:= .type "list",data:= .seq its.toArray n}/\xs.length<=Ki:=by
 obtain⟨z,its,n,r,e⟩:=I.hok p _ h;exact⟨its,n,r,e,z⟩
theorem cp.lstUpd{s:J4}{xs ys:List V}{its its':List J0}(I:cp X ai σ H s)(h:H p=on (.lst xs))
  (d:s.heap.get? p=on {cls:= .type "list",data:= .seq its.toArray n}) (c:f {cls:= .type "list",data:= .seq its.toArray n}={cls:= .type "list",data:= .seq its'.toArray n'}) (r:aq ys its') (g:ys.length<=Ki) (t:Nat):
  cp X ai σ (upd H p (.lst ys)) {s with heap:=s.heap.update p f,toks:=t}:=by
 have e:(s.heap.update p f).get? p=on {cls:= .type "list",data:= .seq its'.toArray n'}:=by
  rw[MF f d (by rw[c]<;>rfl),c]
 refine I.write (x:=p) (e:=p) (by rw[h];trivial) (.inl rfl) (λb u i q=>(RC _ _ (Ne.symm i)).trans q) ⟨_,e⟩ ?_;exact⟨g,its',n',r,e⟩
def p8:V->V->V->Hp->(Hp->Prop)->Prop:=λo i v H Q=>∃p xs k j,o= .ref p/\i= .int k/\H p=on (.lst xs)/\ix xs.length k=on j/\Q (upd H p (.lst (xs.set j v)))
theorem bP:BH X p8:=by
 intro c s C H o i v P R u Q I F J L h;obtain⟨p,xs,k,j,rfl,rfl,m,N,q⟩:=h;cases F;obtain⟨t,rfl⟩:=J;obtain⟨its,n,r,f,O⟩:=I.lst m;obtain⟨d,T,w,y⟩:=oF N;have g:=r.length;have hn:=i5;have A:cp X c C (upd H p (.lst (xs.set j v))) {s with heap:=s.heap.update p (Lo (·.setIfInBounds j u))}:=
  I.lstUpd m f (vh its n j u) (r.set L j) (by rw[KO];exact O) s.toks
 by_cases B:0<=k
 .have l:k.toNat=j:=by
   rw[seqIndex_of B y]at d;exact KE d
  exact PySem.W.ki_setAt f B (by omega) (by rw[Kh,<-g];exact y) (by rw[l];exact⟨_,A,q⟩)
 .have l:(k+(its.toArray.size:Int)).toNat=j:=by
   rw[Tx (by omega) w]at d;rw[Kh,<-g];exact KE d
  exact PySem.W.ki_setBack f (by omega) (by rw[Kh,<-g];exact w) (by omega) (by rw[l];exact⟨_,A,q⟩)
theorem qN(lo hi:Option Int)(n:Nat):(NN lo hi JT n).1=((HT.sIx n 0 lo:Nat):Int)/\(NN lo hi JT n).2.1=((HT.sIx n n hi:Nat):Int)/\(NN lo hi JT n).2.2=1:=by
 refine⟨?_,?_,rfl⟩
 .cases lo with
  |none=>simp[NN,HT.sIx]
  |some i=>
   simp only[NN,HT.sIx,S4,show(1:Int)>0 by decide,K8];by_cases h:i<0
   .simp only[h,K8]<;>omega
   .simp only[h,Lb]<;>omega
 .cases hi with
  |none=>simp[NN,HT.sIx]
  |some i=>
   simp only[NN,HT.sIx,S4,show(1:Int)>0 by decide,K8];by_cases h:i<0
   .simp only[h,K8]<;>omega
   .simp only[h,Lb]<;>omega
theorem pR(its:List J0)(lo hi:Option Int):Tg its.toArray lo hi JT=((its.drop (HT.sIx its.length 0 lo)).take (HT.sIx its.length its.length hi-HT.sIx its.length 0 lo)).toArray:=by
 obtain⟨c,d,f⟩:=qN lo hi its.toArray.size;unfold Tg;rw[c,d,f];simp only[sliceRange_one,pick_run,Kh]<;>rfl
def U1(K:Kt):V->Option Int->Option Int->Hp->VK->Prop:=λx lo hi H Q=>∃a xs,x= .ref a/\e_ K H a xs/\∀p,H p=JT->Q (.ref p) (upd H p (.lst (hV xs lo hi)))
theorem sY:UD X (U1 X.K):=by
 intro d s m H x v n p lo hi sl Q I g hs i j h;obtain⟨a,xs,rfl,k,q⟩:=h;cases g;obtain⟨its,r,f,l⟩:=I.list k;have c:=r.length;refine⟨"list",_,slot_list_getitem.lookup,f.isList.typeIs,?_⟩;refine SM f.isList hs i j .none (by simp) ?_ (by rw[Kh]<;>omega)
 rw[pR,<-c];refine⟨.ref s.heap.objs.size,_,I.laid (t':=s.toks) (o:= .lst (hV xs lo hi)) (λb t q=>JV _ q) (J3 _) ?_,rfl,q _ (I.hok.fresh (J3 _))⟩;exact⟨Kl (lE xs lo hi) l,_,0,(r.drop (HT.sIx xs.length 0 lo)).take (HT.sIx xs.length xs.length hi-HT.sIx xs.length 0 lo),Kf _ rfl⟩
noncomputable def f7:V->Bool
 | .non=>JW
 | .bl _=>JW
 | .int _=>JW
 | .str _=>JW
 |_=>JZ
noncomputable def Ic:V->V->Bool
 | .non,.non=>JW
 | .bl a,.bl b=>a==b
 | .bl a,.int b=>(if a then 1 else 0)==b
 | .int a,.bl b=>a==(if b then 1 else 0)
 | .int a,.int b=>a==b
 | .str a,.str b=>a==b
 |_,_=>JZ
theorem HI(d:aI y u)(c:aI x v)(g:f7 y=JW)(f:f7 x=JW):LJ A s u v (Ic y x):=by
 cases y with
 |non=>
  cases d;cases x with
  |non=>cases c;exact LJ.same _
  |bl b=>cases c;exact LJ.none_bool b
  |int b=>obtain⟨t,rfl⟩:=c;exact LJ.none_int b t
  |str b=>obtain⟨t,rfl⟩:=c;exact LJ.none_str b t
  |_=>exact Kx (show JZ=JW from f) J7
 |bl a=>
  cases d;cases x with
  |non=>cases c;exact LJ.bool_none a
  |bl b=>cases c;exact LJ.bool_bool a b
  |int b=>obtain⟨t,rfl⟩:=c;exact LJ.bool_int a b t
  |str b=>obtain⟨t,rfl⟩:=c;exact LJ.bool_str a b t
  |_=>exact Kx (show JZ=JW from f) J7
 |int a=>
  obtain⟨t',rfl⟩:=d;cases x with
  |non=>cases c;exact LJ.int_none a t'
  |bl b=>cases c;exact LJ.int_bool a t' b
  |int b=>obtain⟨t,rfl⟩:=c;exact Rp a t' b t
  |str b=>obtain⟨t,rfl⟩:=c;exact LJ.int_str a t' b t
  |_=>exact Kx (show JZ=JW from f) J7
 |str a=>
  obtain⟨t',rfl⟩:=d;cases x with
  |non=>cases c;exact LJ.str_none a t'
  |bl b=>cases c;exact LJ.str_bool a t' b
  |int b=>obtain⟨t,rfl⟩:=c;exact LJ.str_int a t' b t
  |str b=>obtain⟨t,rfl⟩:=c;exact LJ.str_str a t' b t
  |_=>exact Kx (show JZ=JW from f) J7
 |_=>exact Kx (show JZ=JW from g) J7
def Iv(x:V)(u:J0):Bool:=match u with
 | .none=>Ic .non x
 | .bool b=>Ic (.bl b) x
 | .int i _=>Ic (.int i) x
 | .str z _=>Ic (.str z) x
 |_=>JZ
theorem yg(r:aI y u)(f:f7 y=JW):Iv x u=Ic y x:=by
 cases y with
 |non=>cases r;rfl
 |bl b=>cases r;rfl
 |int i=>obtain⟨t,rfl⟩:=r;rfl
 |str z=>obtain⟨t,rfl⟩:=r;rfl
 |_=>exact Kx (show JZ=JW from f) J7
theorem oV:∀{xs:List V} {us:List J0},aq xs us->xs.all f7=JW->us.any (Iv x)=xs.any λy=>Ic y x
 |_,_,.nil,_=>rfl
 |y::xs,u::us,.cons r t,f=>by
  rw[Qb,Kz]at f;rw[Qc,Qc,yg r f.1,oV t f.2]
theorem lZ(c:aI x v)(d:f7 x=JW):∀{xs:List V} {us:List J0},aq xs us->xs.all f7=JW->∀u∈us,LJ A s u v (Iv x u)
 |_,_,.nil,_=>λu hu=>by cases hu
 |y::xs,u::us,.cons r t,f=>λg hu=>by
  rw[Qb,Kz]at f;rcases Kk.mp hu with rfl|hu
  .rw[yg r f.1];exact HI r c f.1 d
  .exact lZ c d t f.2 g hu
def Uw(x:V)(xs:List V):Bool:=xs.any λy=>Ic y x
def WO(K:Kt)(neg:Bool):R2:=λx y H Q=>∃p xs,y= .ref p/\(e_ K H p xs\/hH K H p xs)/\f7 x=JW/\xs.all f7=JW/\Q (.bl (if neg then !Uw x xs else Uw x xs)) H
theorem rf:f_ X (Lp .NotIn) (WO X.K JW):=by
 intro f s l H x y v u Q I g j h;obtain⟨p,xs,rfl,hq,i,fs,q⟩:=h;cases j;rcases hq with hq|hq
 .obtain⟨its,r,c,k⟩:=I.list hq
  refine SeqAt.notIn_listAt (Iv x) c.isList (λw d=>lZ g i r fs w (by simpa using d)) ⟨.bl _,H,I,rfl,?_⟩;rw[show its.toArray.any (Iv x)=its.any (Iv x) by simp,oV r fs];exact q
 .obtain⟨its,r,c,k⟩:=I.tuple hq
  refine SeqAt.notIn_tupleAt (Iv x) c (λw d=>lZ g i r fs w (by simpa using d)) ⟨.bl _,H,I,rfl,?_⟩;rw[show its.toArray.any (Iv x)=its.any (Iv x) by simp,oV r fs];exact q
theorem kC:cI X (.builtin "len") (λxs H Q=>∃p ys,xs=[.ref p]/\(e_ X.K H p ys\/hH X.K H p ys)/\Q (.int ys.length) H):=by
 intro g s k H xs us Q I r h;obtain⟨p,ys,rfl,hq,q⟩:=h;obtain⟨u,rfl,i⟩:=ic r;cases i;have hn:=i5;rcases hq with hq|hq
 .obtain⟨its,d,f,j⟩:=I.list hq
  have c:=d.length;exact Calls.call_len_list f.isList (by simp only[Kh]<;>omega) ⟨.int ys.length,H,I.tok _,⟨s.toks+1,by rw[Kh,c]⟩,q⟩
 .obtain⟨its,d,f,j⟩:=I.tuple hq
  have c:=d.length;exact len_tuple f (by simp only[Kh]<;>omega) ⟨.int ys.length,H,I.tok _,⟨s.toks+1,by rw[Kh,c]⟩,q⟩
theorem bF:cI X (.type "list") (λxs H Q=>∃p ys,xs=[.ref p]/\(e_ X.K H p ys\/hH X.K H p ys)/\∀l,H l=JT->Q (.ref l) (upd H l (.lst ys))):=by
 intro f s y H xs us Q I r h;obtain⟨p,ys,rfl,hq,q⟩:=h;obtain⟨u,rfl,A⟩:=ic r;cases A
 have g:∀(its:List J0),aq ys its->ys.length<=Ki->∀(h':Lj) (c:Nat),(∀b v,s.heap.get? b=on v->h'.get? b=on v)->
   h'.get? s.heap.objs.size=on {cls:= .type "list",dict:=JT,data:= .seq its.toArray c,slots:=#[]}->EP X f y Q (.ref s.heap.objs.size) {s with heap:=h'}:=λits d i h' c kp e=>
  ⟨.ref s.heap.objs.size,_,I.laid (t':=s.toks) kp (J3 _) (show bC X.prog X.w _ h' _ (.lst ys)from⟨i,its,c,d,e⟩),rfl,q _ (I.hok.fresh (J3 _))⟩
 rcases hq with hq|hq
 .obtain⟨its,d,k,i⟩:=I.list hq
  have j:=d.length;obtain⟨o,m,t,n,hd⟩:=k.isList;exact call_list_seq p (.inl rfl) m t hd (λh' c kp e=>g its d i h' c kp e) (by simp only[Kh]<;>omega)
 .obtain⟨its,d,k,i⟩:=I.tuple hq
  have j:=d.length;obtain⟨o,m,t,n,hd⟩:=k;exact call_list_seq p (.inr rfl) m t hd (λh' c kp e=>g its d i h' c kp e) (by simp only[Kh]<;>omega)
theorem cV:cI X (.type "tuple") (λxs H Q=>∃p ys,xs=[.ref p]/\((e_ X.K H p ys/\∀l,H l=JT->Q (.ref l) (upd H l (.tup ys)))\/(hH X.K H p ys/\Q (.ref p) H))):=by
 intro c s i H xs us Q I r h;obtain⟨p,ys,rfl,h⟩:=h;obtain⟨u,rfl,n⟩:=ic r;cases n;rcases h with⟨d,q⟩|⟨d,q⟩
 .obtain⟨its,f,g,j⟩:=I.list d
  have k:=f.length;refine call_tuple_list g.isList (λh' kp=>?_) (by simp only[Kh]<;>omega)
  have m:cp X c i H {s with heap:=h'}:=I.kept (t':=s.toks) kp;have t:cp X c i (upd H h'.objs.size (.tup ys)) {s with heap:=h'.push {cls:= .type "tuple",data:= .seq its.toArray}}:=
   m.laid (t':=s.toks) (λb o e=>JV _ e) (J3 _) (show bC X.prog X.w _ _ _ (.tup ys)from⟨j,its,f,Tj _ _⟩)
  exact⟨.ref h'.objs.size,_,t,rfl,q _ (m.hok.fresh (J3 _))⟩
 .obtain⟨its,f,g,j⟩:=I.tuple d
  exact call_tuple_same g ⟨.ref p,H,I,rfl,q⟩
def WH(K:Kt)(T:String)(x:V)(H:Hp):Prop:=match x with
 | .str _=>T="str"
 | .int _=>T="int"
 | .ref p=>(T="list"/\∃xs,e_ K H p xs)\/(T="tuple"/\∃o,K.lookup p=on o/\o.cls= .type "tuple"/\o.dict=JT)
 |_=>False
theorem Gg{s:J4}(I:cp X ai σ H s)(r:aI x v)(ty:WH X.K T x H):
  s.TypeIs v T/\∀a,v= .ref a->∃d,s.heap.get? a=on d/\d.dict=JT:=by
 cases x with
 |str z=>
  obtain⟨t,rfl⟩:=r;cases(show T="str"from ty);exact⟨typeIs_str s z t,λ_ e=>nomatch e⟩
 |int i=>
  obtain⟨t,rfl⟩:=r;cases(show T="int"from ty);exact⟨typeIs_int s i t,λ_ e=>nomatch e⟩
 |ref p=>
  cases r;rcases ty with⟨rfl,xs,h⟩|⟨rfl,o,f,j,hd⟩
  .obtain⟨its,_,g,_⟩:=I.list h
   refine⟨g.isList.typeIs,λa e=>?_⟩;cases e;obtain⟨o,n,e,c,hd,_⟩:=g;exact⟨o,e,hd⟩
  .refine⟨⟨o,I.kIn p o f,j⟩,λa e=>?_⟩
   cases e;exact⟨o,I.kIn _ o f,hd⟩
 |_=>exact MB ty
def Ur(K:Kt)(T:String)(r:V->List V->Hp->VK->Prop)(to:TE)(t:TA):TE:=λc H Q=>to c H λx H1=>WH K T x H1/\t c H1 λxs d=>r x xs d Q
variable{o:Expr}{es:List Expr}{to:TE}{t:TA}{name:K2}{apos cpos:OH}{T id:String}{r:V->List V->Hp->VK->Prop}
theorem jp(p:PlainAttrs T)(slot:Slot T name id)(j:typeOf (.builtin id)=Mm (.type "method_descriptor"))(hm:Yu X id r)(q:PE X o to)(ha:PA X (e::es) t)
  (f:SI o name X.env (LC o X.env)=LC o X.env:=by rfl)
  (i:((Nw cpos (Kj (e::es) X.env)).all (λx=>!x.1)&&(Ph cpos (NM [] X.env)).all (λx=>x.1.isSome)
   &&decide ((e::es).length+([]:List RE).length+(if([]:List RE).isEmpty then 0 else 1)<30))=JW:=by rfl)
  (g:(apos.endLine==cpos.line)=JW:=by rfl) (hs:Kj (e::es) X.env=(JZ,LC e X.env)::Kj es X.env:=by rfl) (d:(Nw cpos (Kj es X.env)).any (·.1)=JZ:=by rfl):
  PE X (.Call (.Attribute o name apos) (e::es) [] cpos) (Ur X.K T r to t):=by
 intro c s k H Q I h;refine wpAny_Call_method_late f i g rfl (d_ (q c s k H _ I h) λv u ⟨x,H1,l,m,ty,q1⟩=>?_);obtain⟨w,y⟩:=Gg l m ty;refine⟨T,id,p,slot,j,w,y,?_⟩;have n:=ha cpos c u k H1 _ l q1;rw[hs]at n⊢;refine Ru (by show(JZ||(Nw cpos (Kj es X.env)).any (·.1))=JZ;rw[d]<;>rfl) (Calls.evalArgs_plain ?_)
 exact d_ n λus A ⟨vs,B,C,F,q2⟩=>hm c A k B x vs v us Q C m F q2
def W1(X:Cx)(id:String)(r:V->List V->Hp->VK->Prop):Prop:=
 ∀(c:List (JY×KS)) (s:J4) (d:St) (H:Hp) (x:V) (xs:List V) (v:J0) (us:List J0) (Q:VK),cp X c d H s->aI x v->aq xs us->r x xs H Q->
  Ke (Ky X.prog X.w) X.A (Qu (.builtin id) (v::us)) (EP X c d Q) X.xe s
theorem aq.one:∀{x:V} {us:List J0},aq [x] us->∃u,us=[u]/\aI x u
 |_,_,.cons r .nil=>⟨_,rfl,r⟩
theorem aq.eraseIdx:∀{xs:List V} {us:List J0} (i:Nat),aq xs us->aq (xs.eraseIdx i) (us.eraseIdx i)
 |_,_,_,.nil=> .nil
 |_,_,0,.cons _ t=>t
 |_,_,i+1,.cons r t=> .cons r (aq.eraseIdx i t)
theorem aq.reverse{xs:List V}{us:List J0}(h:aq xs us):aq xs.reverse us.reverse:=by
 induction h with
 |nil=>exact .nil
 |cons r t ih=>rw[O4,O4];exact aq.append ih (.cons r .nil)
theorem aq.rep(h:aq xs us):∀k:Nat,aq (Ks k xs).flatten (Ks k us).flatten
 |0=> .nil
 |k+1=>by
  rw[Mc,Mc,MM,MM];exact aq.append h (aq.rep h k)
theorem pA{α:Type}:∀(l:List α) (i:Nat),(l.eraseIdx i).length<=l.length
 |[],_=>J3 _
 |_::_,0=>Pb _
 |_::r,i+1=>QD (pA r i)
theorem pF(its:List J0):∀(k:Nat) (acc:List J0),
  SW (λc d=>c++d) acc.toArray (Ks k its.toArray)=(acc++(Ks k its).flatten).toArray
 |0,acc=>by simp
 |k+1,acc=>by
  have e:acc.toArray++its.toArray=(acc++its).toArray:=by simp
  have f:(acc++its)++(Ks k its).flatten=acc++(Ks (k+1) its).flatten:=by
   rw[Mc,MM,Lg]
  rw[<-f,<-pF its k (acc++its),<-e,Mc,List.foldl_cons]
end
section
variable{X:Cx}{ai:List (JY×KS)}{σ:St}{H:Hp}{s:J4}{l b:JY}{xs ys zs:List V}
theorem cp.lset{its its':List J0}(I:cp X ai σ H s)(a:H l=on (.lst xs))
  (e:s.heap.get? l=on {cls:= .type "list",data:= .seq its.toArray n}) (c:f its.toArray=its'.toArray) (d:aq ys its') (g:ys.length<=Ki):
  cp X ai σ (upd H l (.lst ys)) {s with heap:=s.heap.update l (Lo f),toks:=t'}:=by
 have q:=PySem.IsL.update e f;rw[c]at q;refine I.write (x:=l) (e:=l) (by rw[a];exact trivial) (.inl rfl) (λj u h i=>(RC s.heap (Lo f) (Ne.symm h)).trans i) ⟨_,q⟩ ?_;exact⟨g,its',_,d,q⟩
theorem cp.lnew{its:List J0}(I:cp X ai σ H s)(a:aq ys its)(c:ys.length<=Ki):
  cp X ai σ (upd H s.heap.objs.size (.lst ys)) {s with heap:=s.heap.push {cls:= .type "list",data:= .seq its.toArray},toks:=t'}:=
 I.laid (λ_ _ q=>JV _ q) (J3 _) ⟨c,its,0,a,Kf _ rfl⟩
theorem cp.fresh(I:cp X ai σ H s):H s.heap.objs.size=JT:=I.hok.fresh (J3 _)
theorem cp.lstM(I:cp X ai σ H s)(a:H l=on (.lst xs)):xs.length<=Ki/\∃(its:List J0) (n:Nat),aq xs its/\xs.length=its.length/\s.heap.get? l=on {cls:= .type "list",data:= .seq its.toArray n}:=by
 obtain⟨z,its,n,r,e⟩:=I.hok l _ a;exact⟨z,its,n,r,r.length,e⟩
theorem zg(h:n<=Ki):Oq n=JZ:=by
 unfold Oq;exact K0 (by omega)
def oq:V->List V->Hp->VK->Prop:=λx vs H Q=>∃l xs y,x= .ref l/\vs=[y]/\H l=on (.lst xs)/\xs.length<Ki/\Q .non (upd H l (.lst (xs++[y])))
theorem eU:W1 X "list.append" oq:=by
 intro ai s σ H x vs v us Q I c d h;obtain⟨l,xs,y,rfl,rfl,a,g,q⟩:=h;cases c;obtain⟨u,rfl,f⟩:=d.one;obtain⟨z,its,n,r,i,e⟩:=I.lstM a;refine QE F.slot_list_append ⟨_,e,rfl⟩ F.entry_list_append (Th _ _) (S7 l its.toArray n u (by rw[Kh];omega)) ⟨e,?_⟩;refine⟨.non,_,I.lset (its':=its++[u]) a e (by simp) (r.append (.cons f .nil)) ?_,rfl,q⟩;rw[Kg,KQ];omega
def xb:V->List V->Hp->VK->Prop:=λx vs H Q=>∃l xs i k y,x= .ref l/\vs=[.int i]/\H l=on (.lst xs)/\-(2^63)<=i/\i<2^63/\seqIndex? i xs.length=on k/\xs[k]?=on y/\Q y (upd H l (.lst (xs.eraseIdx k)))
theorem zj:W1 X "list.pop" xb:=by
 intro ai s σ H x vs v us Q I d f h;obtain⟨l,xs,i,k,y,rfl,rfl,c,g,j,m,o,q⟩:=h;cases d;obtain⟨u,rfl,p⟩:=f.one;obtain⟨t,rfl⟩:=p;obtain⟨z,its,n,r,A,e⟩:=I.lstM c;obtain⟨w,B,a⟩:=r.get o;refine QE F.slot_list_pop ⟨_,e,rfl⟩ F.entry_list_pop (F.args_list_pop_2 _ _)
  (MeetsSeq.list_pop_at l its.toArray n i t k w (fitsIndex_both g j) (by rw[Kh,<-A];exact m) (by rw[<-MC];exact B) (by rw[Kh];omega)) ⟨e,?_⟩
 refine⟨y,_,I.lset (its':=its.eraseIdx k) c e ?_ (r.eraseIdx k) ?_,a,q⟩
 .show its.toArray.eraseIdxIfInBounds k=(its.eraseIdx k).toArray
  rw[List.eraseIdxIfInBounds_toArray]
 .have:=pA xs k
  omega
noncomputable def U6:R2:=λx y H Q=>∃l b xs zs,x= .ref l/\y= .ref b/\H l=on (.lst xs)/\H b=on (.lst zs)/\xs.length+zs.length<=Ki/\∀p,H p=JT->Q (.ref p) (upd H p (.lst (xs++zs)))
theorem Ha:f_ X (ML .Add) U6:=by
 intro ai s σ H x y v u Q I c d h;obtain⟨l,b,xs,zs,rfl,rfl,f,hB,m,q⟩:=h;cases c;cases d;obtain⟨z,its,n,r,o,e⟩:=I.lstM f;obtain⟨p,a,t,g,i,j⟩:=I.lstM hB;refine SC e j ?_ (by rw[Kh,Kh];omega);have k:its.toArray++a.toArray=(its++a).toArray:=by simp
 rw[k];exact⟨.ref _,_,I.lnew (t':=s.toks) (r.append g) (by rw[Kg];omega),rfl,q _ I.fresh⟩
noncomputable def U3:R2:=λx y H Q=>∃l k xs,x= .ref l/\y= .int k/\H l=on (.lst xs)/\-(2^63)<=k/\k<2^63/\xs.length*k.toNat<=Ki/\
 ∀p,H p=JT->Q (.ref p) (upd H p (.lst (Ks k.toNat xs).flatten))
theorem FC{α:Type}(xs:List α)(k:Nat):(Ks k xs).flatten.length=k*xs.length:=by
 induction k with
 |zero=>simp
 |succ k ih=>rw[Mc,MM,Kg,ih,Nat.succ_mul,Qr]
theorem G5:f_ X (ML .Mult) U3:=by
 intro ai s σ H x y v u Q I w A h;obtain⟨l,k,xs,rfl,rfl,B,C,J,p,q⟩:=h;cases w;obtain⟨t,rfl⟩:=A;obtain⟨z,its,n,r,L,e⟩:=I.lstM B;have d:its.toArray.size*k.toNat<=Ki:=by rw[Kh,<-L];exact p
 have f:¬its.toArray.size*k.toNat>(2^63-1)/8:=by
  have:(Ki:Nat)<=(2^63-1)/8:=by decide
  omega
 have g:¬(!Builtin.List.listFitsIndex k)=JW:=by
  rw[fitsIndex_both C J];exact J7
 have c:¬Oq (its.toArray.size*k.toNat)=JW:=by
  rw[zg d];exact J7
 have i:SW (λj o=>j++o) #[] (Ks (if its.toArray.isEmpty=JW then 0 else k.toNat) its.toArray)=(Ks k.toNat its).flatten.toArray:=by
  have N:∀m:Nat,SW (λj o=>j++o) #[] (Ks m its.toArray)=(Ks m its).flatten.toArray:=λm=>by
   have:=pF its m [];rw[MK]at this;exact this
  rw[N];cases its with
  |nil=>simp
  |cons a O=>rw[J6 (by simp)]
 refine wpAny_binaryOp_repeat_ref (T:="list") (U:="int") (by decide) ⟨_,e,rfl⟩ (λs'=>typeIs_int s' k t) noFill_list_mul F.fills_int_mul F.slot_int_rmul repeat_list F.slot_int_index.lookup
  (QE F.slot_int_rmul (typeIs_int s k t) F.entry_int_rmul (F.args_int_rmul_2 _ _) (int___rmul___int_list k t l its.toArray n)
   ⟨e,rfl,⟨_,e,rfl⟩,QE F.slot_list_mul ⟨_,e,rfl⟩ F.entry_list_mul (F.args_list_mul_2 _ _) (AutoListH.list___mul___list_int_3 l its.toArray n k t g f c) ⟨e,?_⟩⟩)
 rw[i];exact⟨.ref _,_,I.lnew (t':=s.toks) (r.rep k.toNat) (by rw[FC,My];exact p),rfl,q _ I.fresh⟩
variable{prog:KF}{w:K1}{A:Lf}{E:J0->J4->Prop}
end
end L2
namespace Att
open PySem PySem.W PySem.Calls PyProof.Rows
theorem nh:∀(ns:List Int) (vs:List J0),WellAll P h vs (ns.map WData.int)->Oh vs ns:=by
 intro ns
 induction ns with
 |nil=>
  intro vs w;rw[NF]at w;cases w;exact .nil
 |cons n ns ih=>
  intro vs w;rw[Kv]at w;cases w with
  |cons a b=>
   cases a;exact .cons _ _ (ih _ b)
theorem wO{l:OpenLaw}(hn:l.most=on n){h:Lj}
  (b:l.row.toRowW.claim.pre args=JW) (g:WellAll P h vals args):
  ∃a vs ns,vals=[Ko a]/\args=[WData.list (ns.map WData.int)]/\h.get? a=on {cls:= .type "list",data:= .seq vs.toArray}/\Oh vs ns/\ns.length<=n:=by
 have hsh:WShape.hasAll [] args [.list .int]=JW:=(pre_splitW b).1;have i:l.pre.holds [] {args:=args}=JW:=(pre_splitW b).2;obtain⟨d,r,rfl,j,k⟩:=hasAllW_cons hsh;obtain rfl:=hasAllW_nil k;obtain⟨xs,rfl,m⟩:=hasW_list j;obtain⟨ns,rfl⟩:=items_int m;have c:ns.length<=n:=by
  unfold OpenLaw.pre at i;have e:(WTm.not (.lt (.lit (.int (n:Int))) (.len (.arg 0)))).holds [] {args:=[.list (ns.map .int)]}=JW:=by
   have e:=(holds_andW i).1;rw[hn]at e;exact e
  have f:=condW_of e (w_not (w_lt w_lit (w_len_list (w_arg rfl))));rw[JS]at f;refine Nat.le_of_not_lt λq=>?_;have o:(n:Int)<((ns.length:Nat):Int):=by omega
  first
   |(rw[Km o]at f;exact Kx f (by decide))
   |(simp at f;omega)
 cases g with
 |cons p t=>
  cases t;cases p with
  |list ho hall=>exact⟨_,_,ns,rfl,rfl,ho,nh ns _ hall,c⟩
theorem xj(l:OpenLaw)(args:List WData):l.row.toRowW.claim.post args (.bool JW) args=JW:=
 postW_of (r:=l.row.toRowW) (X:=(JW==JW))
  (show WShape.has [] (.bool JW) .bool=JW by first|rfl|decide|simp[WShape.has,WShape.arms,WShape.armsAll])
  (show(WTm.eq .res (.lit (.bool JW))).value [] {args:=args,res:=on (.bool JW),after:=args}=on (.bool (JW==JW))from w_eq_bool (w_res rfl) w_lit) rfl
theorem attach_call{l:OpenLaw}{d:DefRec}
  (hn:l.most=on n) (k:d.params.defaults=[])
  (Qu:∀(w:K1) (s₀ b:J4) (mg m:K2->Option J0) (g:JY) (o:KS) (p cd c:J0) (a:JY) (vs:List J0) (ns:List Int),
   Ground q loose [] XP w s₀ mg m b.heap->YP w b.heap->
   b.heap.get? g=on o->o.data= .func (docDef d.name d.params d.body d.scope p cd c)->b.heap.CodeRec cd d.name->mg d.name=on (.ref g)->
   b.heap.get? a=on {cls:= .type "list",data:= .seq vs.toArray}->Oh vs ns->ns.length<=n->b.gens=#[]->
   OF (Ky l.prog w) QX (.call (.ref g) ⟨[.ref a],[]⟩) (λr s'=>r= .ok (.ret (.bool JW))/\OldK b.heap s'.heap/\s'.os=b.os/\O0 s'.gens) b):
  WalkO q loose XP YP l.row.toRowW d [] (λf vs=>SH f vs):=by
 intro w s₀ b mg m G Y g o p cd c B C F hd t y u H args vals as h A I v J;obtain rfl:B= .none:=Dflts.none y k;obtain rfl:C= .none:=Dflts.noKw y;obtain⟨a,vs,ns,rfl,rfl,i,e,j⟩:=wO hn h v;refine enter_call (O7 (Qu w s₀ b mg m g o p cd c a vs ns G Y F (fd_plain hd) t u i e j H) λr s' L=>?_);obtain⟨rfl,N,O,P⟩:=L;exact⟨.inl ⟨.bool JW,.bool JW,[],rfl,λ_=>rfl,.bool JW,xj l _,λ_=>⟨Py,λ_ hm=>(nomatch hm)⟩⟩,N,O,P⟩
section
variable{prog:KF}{w:K1}{A:Lf}{E:J0->J4->Prop}{s:J4}{K:Kt}
end
end Att
namespace L2
open PySem PySem.Spec PyProof.Rows
theorem oZ:∀{vs:List J0} {ns:List Int},Oh vs ns->aq (ns.map V.int) vs
 |_,_,.nil=> .nil
 |_,_,.cons n t h=> .cons ⟨t,rfl⟩ (oZ h)
def BI(H:Hp):Prop:=∀b,H b=JT\/∃o xs,H b=on (.frz o (.lst xs))
theorem zz{K:Kt}{c:J4}{vs:List J0}{ns:List Int}
  (R:K.In c.heap) (p:c.heap.Ns Mj mg) (g:c.heap.Ns RW mb) (I:∀x:K2,x≠"__name__"->mb x=Nk x) (t:c.heap.NoLimit) (hg:c.gens=#[])
  (ha:c.heap.get? a=on {cls:= .type "list",data:= .seq vs.toArray}) (T:Oh vs ns) (U:ns.length<=Ki) (hr:ee k QX)
  (F:∀base:Lj,K.In base->base.Ns Mj mg->f0 P w K mg base CX k fa fd [x] sp) (l:∀(s:J4) (u:J0),Qo s fd ⟨[u],[]⟩ [(x,u)])
  (J:∀H:Hp,BI H->e_ K H a (ns.map V.int)->sp [.ref a] H (λv _=>v= .bl JW) λ_ _ _=>False)
  (L:∀H e s',CX [] H c (λ_ _ _=>False) e s'->False):
  OF (Ky P w) QX (.call (.ref fa) ⟨[.ref a],[]⟩) (λr s'=>r= .ok (.ret (.bool JW))/\OldK c.heap s'.heap/\s'.os=c.os/\O0 s'.gens) c:=by
 have W:=oZ T;have y:=T.length
 --from an abstract heap in which nothing but the script may be tracked
 have j:∀H:Hp,BI H->e_ K H a (ns.map V.int)->j_ P w H c.heap->(∀b,H b≠JT->b=a)->(H a≠JT->K.lookup a=JT)->
   OF (Ky P w) QX (.call (.ref fa) ⟨[.ref a],[]⟩) (λr s'=>r= .ok (.ret (.bool JW))/\OldK c.heap s'.heap/\s'.os=c.os/\O0 s'.gens) c:=by
  intro H X hS hok Y hK;have f:∀{b:JY} {o:KS},c.heap.get? b=on o->H b=JT->(jA c.heap H).get? b=on o:=λe n=>zJ e n;have N:∀{b:JY} {o:KS} {es:Array Mo} {ep:Nat},c.heap.get? b=on o->o.data= .dict es ep->H b=JT:=λ{b o es ep} e d=>by
   cases q:H b with
   |none=>rfl
   |some u=>
    have O:b=a:=Y b (by rw[q];simp);subst O;rw[ha]at e;cases e;have d':Data.seq vs.toArray _=Data.dict es ep:=d;cases d'
  have i:∀{b:JY} {m:K2->Option J0},c.heap.Ns b m->(jA c.heap H).Ns b m:=λ{b m} ⟨o,es,ep,e,d,r⟩=>⟨o,es,ep,f e (N e d),d,r⟩;have A:K.In (jA c.heap H):=λb o e=>f (R b o e) (by
   cases q:H b with
   |none=>rfl
   |some u=>
    have O:b=a:=Y b (by rw[q];simp);subst O;rw[hK (by rw[q];simp)]at e;cases e)
  have hM:Mod K mg (jA c.heap H):=⟨A,i p,⟨mb,i g,I⟩,let ⟨mc,h1,h2⟩:=t;⟨mc,i h1,h2⟩⟩
  have e0:J_ P w K mg (jA c.heap H) QX [] c H:=⟨rfl,hM,λb o e=>EU e,Nat.le_of_eq (x9 _ _),trivial,λb g=>Kx (show b∈([]:List JY)from g) (by simp),hok,.of_eq hg⟩;refine O7 ((F _ A (i p)).run QX [] c H ⟨[.ref a],[]⟩ [.ref a] [.ref a] _ _ hr e0 (l c (.ref a)) (.cons rfl .nil) (J H X hS)) λr s' h=>?_;cases r with
  |error e=>exact(L H e s' h).elim
  |ok fl=>
   cases fl with
   |next=>exact MB h
   |brk=>exact MB h
   |cont=>exact MB h
   |ret u=>
    obtain⟨v,H',os,bare,un,B,r',q⟩:=h;have q':v= .bl JW:=q;subst q';obtain rfl:u=Pq JW:=r';refine⟨rfl,OldK.of_keep λb o e=>?_,os,bare⟩;cases q:H b with
    |none=>exact un.keep b o e q (by intro z;exact Kx (show b∈([]:List JY)from z) (by simp)) (by simp)
    |some u=>
     rcases X b with z|⟨ob,xs,z⟩
     .rw[q]at z;cases z
     .have z2:=un.frzs b ob _ z
      obtain⟨Z,_⟩:=hok b _ z;obtain⟨e2,_⟩:=B b _ z2;rw[e]at Z;cases Z;exact e2
 cases Q:K.lookup a with
 |some o=>
  --the script is one of the module's own objects
  have e:=R a o Q;rw[ha]at e;cases e;refine j (λ_=>JT) (λ_=> .inl rfl) (.inr ⟨_,vs.toArray,_,Q,rfl,rfl,rfl,by rw[Kh,y];exact U,by simpa using W⟩) (λb u z=>by have C:(JT:Option HO)=on u:=z;cases C) (λb z=>Kx rfl z) λz=>Kx rfl z
 |none=>
  refine j (λb=>if b=a then on (.frz {cls:= .type "list",data:= .seq vs.toArray} (.lst (ns.map V.int)))else JT) (λb=>?_) (.inl (.inr ⟨{cls:= .type "list",data:= .seq vs.toArray},J8 rfl⟩)) (λb u z=>?_) (λb z=>?_) λ_=>Q
  .by_cases g:b=a
   .exact .inr ⟨_,_,J8 g⟩
   .exact .inl (J6 g)
  .by_cases g:b=a
   .have C:=(J8 g).symm.trans z
    cases C;subst g;exact⟨ha,by rw[JS];exact U,vs,_,W,ha⟩
   .have C:=(J6 g).symm.trans z
    cases C
  .by_cases g:b=a
   .exact g
   .exact Kx (J6 g) z
theorem walk_of{l:PySem.W.OpenLaw}{n k:Nat}{q:KF}{loose:List K2}{XP:(K2->Option J0)->Lj->Prop}{YP:K1->Lj->Prop}{d:DefRec}{K:Rf->Kt}{CX:K1->D_}{sp:K1->Sp}{x:K2}
  (hn:l.most=on n) (r:n<=Ki) (t:d.params.defaults=[]) (J:ee k QX)
  (L:∀(w:K1) (h:Lj),YP w h->(K w.params).In h)
  (F:∀(w:K1) (mg:K2->Option J0) (p:JY) (h:Lj),(K w.params).In h->h.Ns Mj mg->mg d.name=on (.ref p)->
   ∃B:KJ,(∀(s:J4) (u:J0),Qo s B ⟨[u],[]⟩ [(x,u)])/\
    ∀base:Lj,(K w.params).In base->base.Ns Mj mg->f0 l.prog w (K w.params) mg base (CX w) k p B [x] (sp w))
  (y:∀(w:K1) (H:Hp) (a:JY) (ns:List Int),ns.length<=n->BI H->e_ (K w.params) H a (ns.map V.int)->sp w [.ref a] H (λv _=>v= .bl JW) λ_ _ _=>False)
  (A:∀(w:K1) (H:Hp) (s:J4) (e:J0) (s':J4),CX w [] H s (λ_ _ _=>False) e s'->False):
  PySem.W.WalkO q loose XP YP l.row.toRowW d [] (λf vs=>SH f vs):=by
 refine Att.attach_call hn t λw s₀ j mg Z p o pm cd N a vs ns G Y ho hd O C m i c P=>?_;have I:=L w _ Y;obtain⟨B,Q,R⟩:=F w mg p _ I G.T.g C;exact zz I G.T.g G.T.b G.T.builtins G.T.nolimit P m i (Kl c r) J R Q (λH U X=>y w H a ns c U X) λH e s'=>A w H j e s'
noncomputable def de(s:LM)(j:Nat):LM:=match s with
 | .ClassDef _ _ _ body _ _ _ _ _ _ _=>body.getD j (.Pass ⟨0,0,0,0⟩)
 |_=> .Pass ⟨0,0,0,0⟩
noncomputable def gH(s:LM):Arguments:=match s with
 | .FunctionDef _ a _ _ _ _ _ _ _ _=>a
 |_=>{posonlyargs:=[],args:=[],vararg:=JT,kwonlyargs:=[],kw_defaults:=[],kwarg:=JT,defaults:=[]}
noncomputable def cK(s:LM):List LM:=match s with
 | .FunctionDef _ _ b _ _ _ _ _ _ _=>b
 |_=>[]
noncomputable def ah(s:LM):Scope:=match s with
 | .FunctionDef _ _ _ _ _ _ sc _ _ _=>sc
 |_=>{kind:= .function,names:=[],isGenerator:=JZ,isCoroutine:=JZ}
abbrev E0:St->XK:=λ_ _ _ _=>False
structure YA (K:Kt) (x qual:K2) (st:LM) (f:JY) (fd:KJ):Prop where
 ex:∃(oc:J0) (od:Option JY) (kV doc pm:J0) (an:Option JY) (cdv ct:J0) (osl:Array (Option J0)),
  fd=NY x qual (gH st) (cK st) (ah st) .none kV doc pm an cdv ct/\K.lookup f=on ⟨oc,od,.func fd,osl⟩/\Ov K cdv qual=JW
 kp:Oz K (.ref f)=JW
section
variable{P:KF}{w:K1}{K:Kt}{mg:K2->Option J0}{base:Lj}
theorem qf{A:Lf}(a:ee k A):A.units+1<OI:=LF (S3 (by decide:1<=64) _) a.units
theorem o9(h:n<=1000):n<Ki:=LF h (by decide)
variable{X:Cx}
theorem pv(i:Nat)(b:X.N[i]?=on x:=by rfl)(c:Uc X.env.scope x:=by first|exact Mn rfl|exact NG (Mn rfl)|exact NG (NG rfl))(hd:(x==("__debug__":K2))=JZ:=by decide)
  (a:(x==("__classdict__":K2))=JZ:=by decide):PE X (.Name x pos) (eX i):=GY b c hd a
theorem Vl{A B:Prop}(h:A):if JW=JW then A else B:=by
 rw[J8 rfl];exact h
theorem Vm{c A B:Prop} [Decidable c](a:c->A)(b:¬c->B):if c then A else B:=by
 by_cases h:c
 .rw[J8 h]
  exact a h
 .rw[J6 h]
  exact b h
def bH(H a:Hp):Prop:=∀b o,H b=on o->a b=on o
theorem bH.refl(H:Hp):bH H H:=λ_ _ h=>h
theorem bH.trans(a:bH H H1)(b:bH H1 H2):bH H H2:=λc o h=>b c o (a c o h)
theorem bH.free(e:bH H H')(h:H' l=Option.none):H l=Option.none:=by
 cases q:H l with
 |none=>rfl
 |some o=>
  rw[e l o q]at h;cases h
theorem cU:∀(names:List (K2×NL)) (n:Nat) (acc:List (K2×JY)),LW n names acc=LW n names []++acc
 |[],_,_=>rfl
 |(x,k)::r,n,acc=>by
  unfold LW;split
  .rw[cU r (n+1) ((x,n)::acc),cU r (n+1) [(x,n)],Lg]
   rfl
  .exact cU r n acc
theorem gy:∀{names:List (K2×NL)} {n:Nat} {x:K2} {c:JY},(x,c)∈LW n names []->(x,QP)∈names
 |[],_,_,_,h=>by cases h
 |(y,k)::r,n,x,c,h=>by
  unfold LW at h;split at h
  .rename_i a
   rw[cU]at h;rcases Ll.mp h with h|h
   .exact J1 _ (gy h)
   .obtain⟨rfl,_⟩:x=y/\c=n:=by simpa using h
    obtain rfl:k= .cell:=by simpa using a
    exact J2
  .exact J1 _ (gy h)
noncomputable def cQ(cells:List (K2×JY)):List (K2×NL)->List (K2×JY)->List (K2×JY)
 |[],acc=>acc
 |(x,k)::r,acc=>if k== .free then cQ cells r ((x,(cells.lookup x).getD 0)::acc)else cQ cells r acc
theorem lv{cells:List (K2×JY)}:∀{names:List (K2×NL)} {acc:List (K2×JY)} {x:K2} {c:JY},(x,c)∈cQ cells names acc->(x,c)∈acc\/((x,MI)∈names/\c=(cells.lookup x).getD 0)
 |[],_,_,_,h=> .inl h
 |(y,k)::r,acc,x,c,h=>by
  unfold cQ at h;split at h
  .rename_i a
   obtain rfl:k= .free:=by simpa using a
   rcases lv h with h|⟨h,e⟩
   .rcases Kk.mp h with h|h
    .cases h
     exact .inr ⟨J2,rfl⟩
    .exact .inl h
   .exact .inr ⟨J1 _ h,e⟩
  .rcases lv h with h|⟨h,e⟩
   .exact .inl h
   .exact .inr ⟨J1 _ h,e⟩
theorem ml:∀{names:List (K2×NL)} {acc:List (K2×JY)} {p:K2×JY},p∈acc->p∈cQ cells names acc
 |[],_,_,h=>h
 |(y,k)::r,acc,p,h=>by
  unfold cQ;split
  .exact ml (J1 _ h)
  .exact ml h
theorem mj{cells:List (K2×JY)}:∀{names:List (K2×NL)} {acc:List (K2×JY)} {x:K2},(x,MI)∈names->(x,(cells.lookup x).getD 0)∈cQ cells names acc
 |[],_,_,h=>by cases h
 |(y,k)::r,acc,x,h=>by
  unfold cQ;rcases Kk.mp h with h|h
  .cases h
   rw[J8 (by decide)];exact ml J2
  .split
   .exact mj h
   .exact mj h
theorem jK{α:Type}:∀{l:List (K2×α)} {x:K2} {c:α},(x,c)∈l->∃d,l.lookup x=on d
 |[],_,_,h=>by cases h
 |(y,d)::r,x,c,h=>by
  rw[List.lookup_cons];cases a:x==y with
  |true=>exact⟨d,rfl⟩
  |false=>
   rcases Kk.mp h with h|h
   .cases h
    simp at a
   .exact jK h
theorem cM{α:Type}:∀{l:List (K2×α)} {x:K2} {c:α},(l.map (·.1)).Nodup->(x,c)∈l->l.lookup x=on c
 |[],_,_,_,h=>by cases h
 |(y,d)::r,x,c,nd,h=>by
  rw[Kv]at nd;obtain⟨a,b⟩:=KM.mp nd;rw[List.lookup_cons];rcases Kk.mp h with h|h
  .cases h
   simp
  .have:x≠y:=λe=>a (e▸List.mem_map_of_mem (f:=(·.1)) h)
   rw[beq_eq_false_iff_ne.mpr this];exact cM b h
theorem oR{env:Q6}(f:K2×NL->List (K2×JY)->Sem (ForInStep (List (K2×JY))))
  (g:∀name kind cs,f (name,kind) cs=if kind== .free then(do let a <-cellOf env name;Mm (.yield ((name,a)::cs)))else Mm (.yield cs)):
  ∀(names:List (K2×NL)) (acc:List (K2×JY)),(∀y∈names,y.2= .free->∃c,env.cells.lookup y.1=on c)->forIn names acc f=Mm (cQ env.cells names acc)
 |[],_,_=>by rw[Nq];rfl
 |(x,k)::r,acc,h=>by
  rw[Na,g];unfold cQ;have i:∀y∈r,y.2= .free->∃c,env.cells.lookup y.1=on c:=λy j=>h y (J1 _ j);by_cases b:(k==MI)=JW
  .rw[J8 b,J8 b]
   obtain⟨c,l⟩:=h (x,k) J2 (by simpa using b);have d:env.cells.lookup x=on c:=l;have e:cellOf env x=Mm c:=by unfold cellOf;rw[d]
   rw[e,d];simp only[pure_bind];exact oR f g r _ i
  .rw[J6 b,J6 b]
   simp only[pure_bind];exact oR f g r _ i
theorem vU{scope:Scope}{env:Q6}(h:∀y∈scope.names,y.2= .free->∃c,env.cells.lookup y.1=on c):closureFor scope env=Mm (cQ env.cells scope.names []):=by
 simp only[closureFor];rw[oR (env:=env) _ (λname kind cs=>by cases a:kind==MI<;>simp[a]) scope.names [] h]
 rfl
theorem zO{M:Model}{E:J0->J4->Prop}{s:J4}{scope:Scope}
  (f:∀h':Lj,h'.Ns s.heap.objs.size (λ_=>JT)->(∀b o,s.heap.get? b=on o->h'.get? b=on o)->
   (∀n c,(n,c)∈LW (s.heap.objs.size+1) scope.names []->h'.IsCell c JT/\s.heap.objs.size+1<=c)->
   ((LW (s.heap.objs.size+1) scope.names []).Pairwise λx y=>x.2≠y.2)->
   Q (newEnv scope s.heap.objs.size globals (LW (s.heap.objs.size+1) scope.names cl) qual JT .none (on env) RW) {s with heap:=h'}):
  Ke M A (R5 scope globals cl [] qual JT .none (on env)) Q E s:=by
 simp only[R5,Option.isSome_some,K8];refine JR (wpAny_alloc ?_);refine JR (wpAny_layCells _ (λname kind cells=>by cases a:kind==QP<;>simp[a]) _ _ _ _ ?_)
 have ok:=cellsFrom_ok scope.names (s.heap.push {cls:= .type "dict",data:= .dict #[]}) (s.heap.objs.size+1) [] ⟨λ_ _ hm=>(nomatch hm),Py⟩ (by rw[L9];exact J3 _);rw[L9]at ok;rw[show({s with heap:=s.heap.push {cls:= .type "dict",data:= .dict #[]}}:J4).heap.objs.size=s.heap.objs.size+1 from L9 ..];have d:=f (pushCells (s.heap.push {cls:= .type "dict",data:= .dict #[]}) scope.names) ((Heap.Ns.new s.heap (.type "dict")).keeps (pushCells_keeps _ _)) (λb o e=>pushCells_keeps _ _ b o (JV _ e)) ok.empty ok.apart;exact JR (JU (JU d))
noncomputable abbrev ay(X:Cx)(a:List K2)(scope:Scope)(cl:List (K2×JY))(C:JY)(b:List JY)(s:J4)(H:Hp):Cx:=
 {X with N:=a,s₀:=s,H₀:=H,env:=compEnvC scope cl C X.env,outer:=X.stack,stack:=X.stack,ex:=b,fn:=λx=>scope.names.lookup x !=on .free,pn:=[],xe:=λ_ _=>False}
theorem hY{scope:Scope}{y:K2×NL}(h:y∈(relabel scope env).names):y∈scope.names\/(y.2= .cell/\(y.1,MI)∈scope.names):=by
 obtain⟨⟨n,k⟩,hm,e⟩:=J5.mp h
 dsimp only at e
 split at e
 .rename_i a
  cases e;simp only[Kz,Nj]at a;obtain⟨⟨a,_⟩,_⟩:=a;subst a;exact .inr ⟨rfl,hm⟩
 .cases e
  exact .inl hm
theorem zF{X:Cx}{R:St}{s:J4}{Nc cy:List K2}{b_:List Nat}{scope:Scope}{h':Lj}(I:cp X ai R H s)
  (hk:scope.kind= .function) (g:(scope.names.map (·.1)).Nodup) (f:∀y∈scope.names,y.2= .free->X.env.kindOf y.1=on .cell\/X.env.kindOf y.1=on .free)
  (T:Nc=cy++b_.map (λj=>X.N.getD j NK)) (U:∀j∈b_,j<X.N.length/\scope.names.lookup (X.N.getD j NK)=on .free)
  (F:∀b∈fp,eA X ai H b) (W:∀b∈fp,∃o,s.heap.get? b=on o) (ns:h'.Ns s.heap.objs.size λ_=>JT) (keep:∀b o,s.heap.get? b=on o->h'.get? b=on o)
  (O:∀n c,(n,c)∈LW (s.heap.objs.size+1) scope.names []->h'.IsCell c JT/\s.heap.objs.size+1<=c) (ca:(LW (s.heap.objs.size+1) scope.names []).Pairwise λx y=>x.2≠y.2):
  cp (ay X Nc scope (LW (s.heap.objs.size+1) scope.names (cQ X.env.cells scope.names [])) s.heap.objs.size fp s H) [] (Ks cy.length JT++b_.map (λj=>R.getD j JT)) H {s with heap:=h'}:=by
 --the cells
 have old:∀{x:K2} {c:JY},(x,c)∈cQ X.env.cells scope.names []->X.env.cells.lookup x=on c/\(x,MI)∈scope.names:=λ{x c} h=>by
  rcases lv h with h|⟨hm,e⟩
  .cases h
  .obtain⟨d,hd⟩:=I.ok.has x (f _ hm rfl)
   rw[hd]at e;exact⟨by rw[hd,e];rfl,hm⟩
 have a:∀{x:K2} {c:JY},(LW (s.heap.objs.size+1) scope.names (cQ X.env.cells scope.names [])).lookup x=on c->
   (x,c)∈LW (s.heap.objs.size+1) scope.names []\/(X.env.cells.lookup x=on c/\(x,MI)∈scope.names):=λ{x c} h=>by
  have h:=LB h;rw[cU]at h;rcases Ll.mp h with h|h
  .exact .inl h
  .exact .inr (old h)
 have freeC:∀{x:K2},(x,MI)∈scope.names->∃c,X.env.cells.lookup x=on c/\(LW (s.heap.objs.size+1) scope.names (cQ X.env.cells scope.names [])).lookup x=on c:=λ{x} hm=>by
  obtain⟨d,hd⟩:=I.ok.has x (f _ hm rfl);have e:=mj (cells:=X.env.cells) (acc:=[]) hm;obtain⟨c,Q⟩:=jK (l:=LW (s.heap.objs.size+1) scope.names (cQ X.env.cells scope.names [])) (x:=x) (c:=(X.env.cells.lookup x).getD 0) (by rw[cU];exact K3 _ e);rcases a Q with z|⟨z,_⟩
  .have B:=cM g (gy z)
   rw[cM g hm]at B;cases B
  .exact⟨c,z,Q⟩
 have k:∀{x:K2} {c:JY},X.env.cells.lookup x=on c->c<s.heap.objs.size:=λ{x c} h=>let ⟨v,q⟩:=I.cell x c h;q.lt
 have nofr:H s.heap.objs.size=JT:=I.hok.fresh (J3 _);have Y:∀b∈hE X.stack,b∈X.env.locals::X.fs:=I.stkSub;refine⟨⟨I.ok.mod,hk,I.ok.glob,I.ok.blt,J3 _,λx y c h1 h2=>?_,λx hx=>?_,λx c hf h=>?_,I.ok.hd,I.ok.frames,.inl rfl,λb J=>⟨?_,λx c h e=>?_⟩,I.bs,Kl I.ok.bsz I.sz,λb o e J=>?_,λb J hf=>?_,I.stack,I.stkFree⟩,
  rfl,I.bare,Un.kept keep,⟨_,ns,λi x v e1 A e3=>?_⟩,λx c h=>?_,nofr,λx c h=>?_,λp hp=>Kx hp (by simp),I.hok.kept keep,?_⟩
 .rcases a h1 with B|⟨B,_⟩<;>rcases a h2 with Z|⟨Z,_⟩
  .exact name_of_addr ca B Z
  .exact Kx (Ku (k Z) (Kl (Pb _) (O _ _ B).2)) (Lc _)
  .exact Kx (Ku (k B) (Kl (Pb _) (O _ _ Z).2)) (Lc _)
  .exact I.ok.inj _ _ _ B Z
 .--has
  have hx:(relabel scope X.env).names.lookup x=on .cell\/(relabel scope X.env).names.lookup x=on .free:=hx;have hm:(x,QP)∈scope.names\/(x,MI)∈scope.names:=by
   rcases hx with hx|hx
   .rcases hY (LB hx)with z|⟨_,z⟩
    .exact .inl z
    .exact .inr z
   .rcases hY (LB hx)with z|⟨_,z⟩
    .exact .inr z
    .exact .inr z
  rcases hm with hm|hm
  .have q:=RX scope.names (s.heap.objs.size+1) (cQ X.env.cells scope.names []) (x:=x) (.inl (cM g hm))
   exact Q9.mp q
  .obtain⟨c,_,Q⟩:=freeC hm
   exact⟨c,Q⟩
 .--cab
  rcases a h with z|⟨_,z⟩
  .exact Kl (Pb _) (O _ _ z).2
  .have z':(scope.names.lookup x !=on .free)=JW:=hf
   rw[cM g z]at z';exact Kx z' (by decide)
 .obtain⟨o,e⟩:=W b J
  exact K7 (Kr e)
 .rcases a h with z|⟨z,_⟩
  .obtain⟨o,e'⟩:=W b J
   subst e;exact Kx (Ku (Kr e') (Kl (Pb _) (O _ _ z).2)) (Lc _)
  .exact(F b J).2.2.2.2.1 x c z e
 .obtain⟨_,_,_,h4,_⟩:=F b J
  rcases h4 with z|z
  .exact I.ok.noex b o e z
  .exact Kx (Ku (Kr (I.ok.bs b o e).1) z) (Lc _)
 .obtain⟨_,h2,h3,_⟩:=F b J
  rcases Kk.mp (Y b hf)with z|z
  .exact h2 z
  .exact h3 z
 .--the names' values
  have hi:¬i<cy.length:=λhi=>by
   rw[NJ (by simpa using hi),MT]at A;split at A<;>cases A
  have L:(cy++b_.map (λj=>X.N.getD j NK))[i]?=on x:=by rw[<-T];exact e1
  rw[Ma (by omega)]at L;rw[Ma (by simpa using hi)]at A;rw[LX]at A;cases q:b_[i-cy.length]? with
  |none=>rw[J9,q]at A;cases A
  |some j=>
   rw[J9,q]at L A;have C:X.N.getD j NK=x:=KE L;have e2':R.getD j JT=on v:=KE A;obtain⟨hj,t⟩:=U j (KA q);rw[C]at t;obtain⟨c,Q,hc'⟩:=freeC (LB t);have hNj:X.N[j]?=on x:=by
    rw[<-C,Kd,JX hj];rfl
   have hσj:R[j]?=on (on v):=by
    have hl:j<R.length:=by rw[I.len];exact hj
    rw[Kd,JX hl]at e2';rw[JX hl];exact La on e2'
   have hkx:=f _ (LB t) rfl;obtain⟨m,hn,hl⟩:=I.loc;obtain⟨u,r,l⟩:=hl j x v hNj hσj (hkx.elim (λz=> .inr (.inl z)) λz=> .inr (.inr z));refine⟨u,r,.inr ⟨?_,c,hc',?_⟩⟩
   .rcases e3 with z|z|z
    .exfalso
     rcases hY (LB z)with y|⟨y,_⟩
     .rw[cM g y]at t;cases t
     .cases y
    .exact .inl z
    .exact .inr z
   .rcases l with⟨l,_⟩|⟨_,c',e,z⟩
    .exfalso
     rcases hkx with y|y
     .have y':X.env.kindOf x=on .cell:=y
      rw[l]at y';cases y'
     .have y':X.env.kindOf x=on .free:=y
      rw[l]at y';cases y'
    .rw[Q]at e
     cases e;exact z.keeps keep
 .rcases a h with z|⟨z,_⟩
  .exact⟨JT,(O _ _ z).1⟩
  .obtain⟨v,q⟩:=I.cell x c z
   exact⟨v,q.keeps keep⟩
 .rcases a h with z|⟨z,_⟩
  .exact I.hok.fresh (Kl (Pb _) (O _ _ z).2)
  .exact I.freeC x c z
 .show _=Nc.length
  rw[T,Kg,Kg,LX,JS,JS]
abbrev TB:=St->Hp->(St->Hp->Prop)->Prop
inductive TL where
 |L (e:Expr)|S (e:Expr)|D (k v:Expr)
instance:Coe Expr TL:=⟨.L⟩
noncomputable def p_(c:TL)(gens:List LR)(scope:Scope)(pos:OH):Expr:=match c with
 | .L e=> .ListComp e gens scope pos
 | .S e=> .SetComp e gens scope pos
 | .D k v=> .DictComp k v gens scope pos
noncomputable def Uz(c:TL)(acc:J0)(env:Q6):Sem Unit:=match c with
 | .L e=>do let _ <-Qu (.builtin "list.append") [acc,<-LC e env]
 | .S e=>do let v <-LC e env;O8 e.pos;let _ <-Qu (.builtin "set.add") [acc,v]
 | .D k v=>do
   let kv <-LC k env
   let vv <-P3 [kv] (LC v env)
   match acc with
   | .ref d=>do
    O8 {k.pos with endLine:=v.pos.endLine,endCol:=v.pos.endCol}
    P3 [kv,vv] (dictSet d kv vv)
   |_=>unsupported "internal:dictcomp"
noncomputable def gn(c:TL)(gens:List LR)(scope:Scope)(pos:OH)(d:Nat)(acc:J0)(env:Q6)(k:Sem Pg):Sem Pg:=
 match gens[d+1]? with
 |some g'=>do
  let x <-LC g'.iter env
  O8 g'.iter.pos
  let x <-if g'.is_async !=0 then foldedIterable g'.iter x else K6 g'.iter env x
  let _ <-runOwn (.compStart (p_ c gens scope pos) (d+1) (<-P3 [x] (if g'.is_async !=0 then asyncIter x else P4 x)) acc env) env
  k
 |none=>do
  Uz c acc env
  k
theorem sD{a b:Expr}(e:gens[d]?=on ⟨a,b,ifs,0⟩):
  compTurn (p_ c gens scope pos) d it acc env=(do
   O8 b.pos
   match <-Nx it with
   |none=>Mm (.done .next)
   |some v=>
    OW a it v
    OU a env v
    let mut ok:=JW
    for y in ifs do
     if ok then ok <-isTrue y env (LC y env)
    if ok then gn c gens scope pos d acc env (Qy (.compLoop (p_ c gens scope pos) d it acc env))
    else Qy (.compLoop (p_ c gens scope pos) d it acc env)):=by
 cases c<;>(
  unfold compTurn gn p_ Uz
  dsimp only
  rw[e]
  dsimp only
  cases gens[d+1]?<;>rfl)
variable{prog:KF}{A:Lf}{R:Result->J4->Prop}{s:J4}
theorem zq(C:gens[d]?=on ⟨bb,iter,ifs,0⟩)(I:Nat->J4->Prop)
  (p:∀n s,I n s->Ke (Ky prog w) A (Nx it) (λr a=>match r with
   |none=>R (.ok .next) a
   |some v=>Ke (Ky prog w) A (OW bb it v) (λ_ b=>Ke (Ky prog w) A (OU bb env v) (λ_ j=>
    Ke (Ky prog w) A (forIn ifs JW λy r=>if r=JW then do let ok <-isTrue y env (LC y env);Mm (Pa ok)else Mm (Pa r)) (λok g=>
     if ok=JW then ∀(k:Sem Pg) (u:Pg->J4->Prop) (B:J0->J4->Prop),(∀i m,m<n->I m i->Ke (Ky prog w) A k u B i)->Ke (Ky prog w) A (gn c gens scope pos d acc env k) u B g
     else ∃m,m<n/\I m g) (λ_ _=>False) j) (λ_ _=>False) b) (λ_ _=>False) a) (λ_ _=>False) s)
  (n:Nat) (h:I n s):
  OF (Ky prog w) A (.compLoop (p_ c gens scope pos) d it acc env) R s:=by
 refine codeAny_loop rfl I (λn s hI=>?_) n h
 suffices z:Ke (Ky prog w) A ((compTurn (p_ c gens scope pos) d it acc env).onRaise (λx=>do noteFrame x env;theTreesLotGoes x)) (λt s'=>match t with
   |Fin.done f=>R (M3 f) s'
   |Fin.again c'=>c'=Code.compLoop (p_ c gens scope pos) d it acc env/\∃m,m<n/\I m s') (λe s'=>R (Except.error e) s') s by cases c<;>exact z
 refine wpAny_noted ?_;rw[sD C];refine JR (Mr (JR (Ld (p n s hI) (λr a h₁=>?_) λ_ _ h'=>h'.elim)));cases r with
 |none=>exact JU h₁
 |some v=>
  refine JR (Ld h₁ (λ_ b o=>?_) λ_ _ h'=>h'.elim);refine JR (Ld o (λ_ j q=>JR (Ld q (λok g l=>?_) λ_ _ h'=>h'.elim)) λ_ _ h'=>h'.elim);cases ok with
  |false=>exact JU ⟨rfl,l⟩
  |true=>exact l _ _ _ λi m hm hI=>JU ⟨rfl,m,hm,hI⟩
theorem wH(j:gens[d]?=on ⟨bb,iter,ifs,0⟩)
  (i:OF (Ky prog w) A (.compLoop (p_ c gens scope pos) d it acc env) R s)
  (h:Ke (Ky prog w) A (P4 it) (λa s'=>OF (Ky prog w) A (.compLoop (p_ c gens scope pos) d a acc env) R s') (λ_ _=>False) s):
  OF (Ky prog w) A (.compStart (p_ c gens scope pos) d it acc env) R s:=by
 refine codeAny_of_tree ?_
 suffices z:Ke (Ky prog w) A ((compStart (p_ c gens scope pos) d it acc env).onRaise (λx=>do noteFrame x env;O8 theWindowsPlace)) (λg s'=>match g with
   |Fin.done f=>R (M3 f) s'
   |Fin.again c'=>c'.quiet=JW/\OF (Ky prog w) A c' R s') (λe s'=>R (Except.error e) s') s by cases c<;>exact z
 refine wpAny_notedAt ?_;unfold compStart;have b:(clausesOf (p_ c gens scope pos))[d]?=on ⟨bb,iter,ifs,0⟩:=by cases c<;>exact j
 generalize (clausesOf (p_ c gens scope pos))[d]?=og at b⊢;subst b;show Ke _ _ (ask>>=_) _ _ s;refine JR (OB (wpAny_ite ?_));split
 .first
   |exact JR (JU (JU (RB rfl i)))
   |exact JU (RB rfl i)
 .first
   |exact JR (M0 (JR (Mr (JR (Ld h (λa s' h'=>JU (RB rfl h')) λ_ _ x=>x.elim)))))
   |(refine JR (M0 ?_);show Ke _ _ (O8 iter.pos>>=_) _ _ s;exact JR (Mr (JR (Ld h (λa s' h'=>JU (RB rfl h')) λ_ _ x=>x.elim))))
def dh(X:Cx)(b:List Expr)(t:TT):Prop:=
 ∀(a:List (JY×KS)) (s:J4) (d:St) (H:Hp) (Q:Bool->Hp->Prop),cp X a d H s->t d H Q->
  Ke (Ky X.prog X.w) X.A (forIn b JW λc r=>if r=JW then do let ok <-isTrue c X.env (LC c X.env);Mm (Pa ok)else Mm (Pa r)) (TP X a d Q) X.xe s
noncomputable def Gk:TT:=λ_ H Q=>Q JW H
theorem rc{X:Cx}:dh X [] Gk:=λ_ _ _ H _ I h=>JU ⟨H,I,h⟩
theorem y6{X:Cx}(d:PT X c t):dh X [c] t:=λa s e H Q I h=>by
 simp only[Na,Nq,K8];exact JR (JR (Ld (d a s e H Q I h) (λb s' f=>JU (JU f)) λ_ _ x=>x))
def PB(X:Cx)(c:TL)(gens:List LR)(scope:Scope)(pos:OH)(d:Nat)(D:JY)(t:TB):Prop:=
 ∀(a:List (JY×KS)) (s:J4) (e:St) (H:Hp) (Q:St->Hp->Prop),cp X a e H s->t e H Q->
  ∀(k:Sem Pg) (f:Pg->J4->Prop) (g:J0->J4->Prop),(∀s' b h,cp X a b h s'->Q b h->Ke (Ky X.prog X.w) X.A k f g s')->Ke (Ky X.prog X.w) X.A (gn c gens scope pos d (.ref D) X.env k) f g s
def cP(J:It)(g:TG)(tt:TT)(j:TB):TB:=λc H Q=>∃W:Nat->Nat->St->Hp->Prop,(∃m,W 0 m c H)/\∀i m c H,W i m c H->
 (J.stop i H/\Q c H)\/(J.go i H/\∃N:St->Hp->Prop,(∀d e,N d e->∃f,f<m/\W (i+1) f d e)/\∀x e,J.yld i H x e->g x c e λa k=>tt a k λb h=>if b=JW then j a h N else N a h)
def vY(D:JY)(b:TE):TB:=λa H Q=>b a H λv H1=>∃xs,H1 D=on (.lst xs)/\xs.length<Ki/\Q a (upd H1 D (.lst (xs++[v])))
def vX(b:TI)(c:It->TB):TB:=λa H Q=>b a H λJ H1=>c J a H1 Q
variable{c:TL}{elt bb iter:Expr}{ifs:List Expr}{gens:List LR}{scope:Scope}{pos:OH}{d:Nat}{D:JY}
theorem pI(hg:gens[d]?=on ⟨bb,iter,ifs,0⟩)(hc:X.calm=JW)(F:X.xe=λ_ _=>False)(hgt:PG X bb g)(hts:dh X ifs tt)(j:PB X c gens scope pos d D tb)
  {s:J4}
  (I:cp X ai σ H s) (T:oa X.prog X.w X.K bb J fp it tn) (st:tn 0 s.heap) (hf:∀b∈fp,eA X ai H b) (h:cP J g tt tb σ H Q):
  OF (Ky X.prog X.w) X.A (.compStart (p_ c gens scope pos) d (.ref it) (.ref D) X.env) (λr s'=>r= .ok .next/\∃a f,cp X ai a f s'/\Q a f) s:=by
 obtain⟨W,⟨m0,w0⟩,L⟩:=h;have l:∀{f:Hp},(∀b∈fp,f b=JT)->∀b∈fp,eA X ai f b:=λhn b j=>⟨hn b j,(hf b j).2⟩;have t:OF (Ky X.prog X.w) X.A (.compLoop (p_ c gens scope pos) d (.ref it) (.ref D) X.env) (λr s'=>r= .ok .next/\∃a f,cp X ai a f s'/\Q a f) s:=by
  refine zq hg (λn s'=>∃i a f,cp X ai a f s'/\tn i s'.heap/\(∀b∈fp,f b=JT)/\W i n a f) ?_ m0 ⟨0,σ,H,I,st,λb j=>(hf b j).1,w0⟩;rintro n s3 ⟨i,p,Z,I3,O,U,w3⟩;rcases L i n p Z w3 with⟨stop,qn⟩|⟨go,N,hN,step⟩
  .refine d_ (T.done X rfl rfl rfl hc i ai s3 p Z _ I3 (l U) O stop) λr s4 ⟨hr,I4⟩=>?_
   subst hr;exact⟨rfl,p,Z,I4,qn⟩
  .refine d_ (T.item X rfl rfl rfl hc i ai s3 p Z _ I3 (l U) O go) λr s4 ⟨u,hr,h4⟩=>?_
   subst hr;refine d_ h4 λ_ s5 ⟨x,H5,I5,r5,y5,v,fr5⟩=>?_;have I5':=I5.pinned (l fr5) (T.obj _ _ v);have Qy:∀{q:St} {y:Hp} {B:J4},cp X (ai++j6 fp s5.heap) q y B->N q y->∃m,m<n/\∃i a f,cp X ai a f B/\tn i B.heap/\(∀b∈fp,f b=JT)/\W i m a f:=λ{q y B} C n7=>by
    obtain⟨m',hm,w7⟩:=hN q y n7;refine⟨m',hm,i+1,q,y,C.unpinned,T.keep _ _ _ v λb j o e=>(C.pin (b,o) (K3 _ (K3 _ (gC j e)))).1,λb j=>?_,w7⟩;obtain⟨o,e,d⟩:=T.obj _ _ v b j;exact(C.pin (b,o) (K3 _ (K3 _ (gC j e)))).2.1
   have h6:=hgt _ s5 p H5 x u _ I5' r5 (step x H5 y5);rw[F]at h6;refine d_ h6 λ_ s6 ⟨Y,H6,I6,q6⟩=>?_;have h7:=hts _ s6 Y H6 _ I6 q6;rw[F]at h7;refine d_ h7 λb B ⟨y,C,q7⟩=>?_;cases b with
   |true=>
    rw[J8 rfl]at q7⊢;intro k Q' E' hk;refine j _ B Y y N C q7 k Q' E' λs8 σ8 H8 I8 n8=>?_;obtain⟨m,hm,z⟩:=Qy I8 n8;exact hk s8 m hm z
   |false=>
    rw[J6 J7]at q7⊢;exact Qy C q7
 exact wH hg t (T.self X.A 0 s _ _ st t)
theorem aP(m:gens[d+1]?=JT)(o:PE X elt te)(b:X.xe=λ_ _=>False):PB X elt gens scope pos d D (vY D te):=by
 intro a s g H Q I h k y B p;unfold gn;rw[m];show Ke _ _ ((do let _ <-Qu (.builtin "list.append") [.ref D,<-LC elt X.env])>>=λ_=>k) _ _ _
 have i:=o a s g H _ I h;rw[b]at i;refine JR (JR (Ld i (λu C ⟨v,H1,j,r,xs,l,J,q⟩=>?_) λ_ _ f=>f.elim));obtain⟨z,its,n,t,L,e⟩:=j.lstM l;refine JR (QE F.slot_list_append ⟨_,e,rfl⟩ F.entry_list_append (Th _ _) (S7 D its.toArray n u (by rw[Kh];omega)) ⟨e,?_⟩);refine JU (p _ g _ (j.lset (its':=its++[u]) l e (by simp) (t.append (.cons r .nil)) ?_) q);rw[Kg,KQ];omega
theorem ow(o:gens[d+1]?=on ⟨target',iter',ifs',0⟩)(p:X.calm=JW)(a:X.xe=λ_ _=>False)(t:PI X target' iter' wi)
  (j:PG X target' g) (l:dh X ifs' tt) (u:PB X c gens scope pos (d+1) D tb) (hs:∀x,K6 iter' X.env x=Mm x:=by intro _;rfl):PB X c gens scope pos d D (vX wi λJ=>cP J g tt tb):=by
 intro b s y H Q I h k Y Z B;unfold gn;rw[o];have i:=t b s y H _ I h;rw[a]at i;refine JR (Ld i (λv s1 i=>JR (Mr ?_)) λ_ _ f=>f.elim);show Ke _ _ (K6 iter' X.env v>>=_) _ _ _;refine JR (Ng (hs v) ?_);show Ke _ _ (P3 [v] (P4 v)>>=_) _ _ _;refine JR (Ln (Ld i (λC s2 F=>?_) λ_ _ f=>f.elim));obtain⟨it,fp,tn,J,H2,e,L,T,m,f2,q⟩:=F;subst e;refine JR (wpAny_runOwn (O7 (pI o p a j l u L T m f2 q) λr s' ⟨N,z⟩=>?_));subst N;obtain⟨n,O,U,W⟩:=z;exact B s' n O U W
noncomputable def jc(cy:List K2)(b_:List Nat)(a:St):St:=Ks cy.length JT++b_.map (λj=>a.getD j JT)
def UI(X:Cx)(mk:Sem J0)(g:JY->HO):Prop:=∀(a:List (JY×KS)) (s:J4) (f:St) (H:Hp) (E:J0->J4->Prop) (Q:J0->J4->Prop),cp X a f H s->
 (∀e:J4,cp X a f (upd H s.heap.objs.size (g s.heap.objs.size)) e->(∀b o,s.heap.get? b=on o->e.heap.get? b=on o)->Q (.ref s.heap.objs.size) e)->Ke (Ky X.prog X.w) X.A mk Q E s
theorem rC{X:Cx}:UI X (newList []) λ_=> .lst []:=λa s f H E Q I h=>KU (h _ (I.lnew (t':=s.toks) .nil (Lq _)) λb o e=>JV _ e)
def mE(cy:List K2)(b_:List Nat)(b:TI)(e:JY->It->TB):TE:=λa H Q=>b a H λJ H1=>∀D,H1 D=JT->e D J (jc cy b_ a) (upd H1 D (.lst [])) λ_ f=>Q (.ref D) f
structure c4 (X:Cx) (scope:Scope) (Nc cy:List K2) (b_:List Nat):Prop where
 kind:scope.kind= .function
 nd:(scope.names.map (·.1)).Nodup
 free:∀y∈scope.names,y.2= .free->X.env.kindOf y.1=on .cell\/X.env.kindOf y.1=on .free
 names:Nc=cy++b_.map (λj=>X.N.getD j NK)
 cap:∀j∈b_,j<X.N.length/\scope.names.lookup (X.N.getD j NK)=on .free
variable{rest:List LR}{Nc cy:List K2}{b_:List Nat}{g:TG}{tt:TT}{tb:JY->TB}{wi:TI}
def II(X:Cx)(a:List (JY×KS))(H:Hp)(C:JY):Prop:=H C=JT/\C≠X.env.locals/\X.s₀.heap.objs.size<=C/\(∀x c,X.env.cells.lookup x=on c->c≠C)/\∀p∈X.pn++a,p.1≠C
theorem gm{c:TL}{mk:Sem J0}{B:JY->HO}(O:UI X mk B){f:List (JY×KS)}{F:St}{H:Hp}{s:J4}{it:JY}{h:List JY}{Q:Nat->Lj->Prop}{J:It}{E:J0->J4->Prop}{QQ:JY->Hp->Prop}{RR:J0->JY->Result->J4->Prop}
  (hc:X.calm=JW) (S:c4 X scope Nc cy b_)
  (L:∀(cl:List (K2×JY)) (C:JY) (h:List JY) (s:J4) (H:Hp),PG (ay X Nc scope cl C h s H) bb g/\dh (ay X Nc scope cl C h s H) ifs tt/\∀D,PB (ay X Nc scope cl C h s H) c (⟨bb,iter,ifs,0⟩::rest) scope pos 0 D (tb D))
  (I:cp X f F H s) (T:oa X.prog X.w X.K bb J h it Q) (st:Q 0 s.heap) (U:∀b∈h,eA X f H b)
  (q:∀D,H D=JT->cP J g tt (tb D) (jc cy b_ F) (upd H D (B D)) λ_ k=>QQ D k)
  (W:∀(D C:JY) (s':J4) (k:Hp) (m:K2->Option J0),cp X f F k s'->s'.heap.Ns C m->II X f k C->QQ D k->RR (.ref D) C (.ok .next) s'):
  Ke (Ky X.prog X.w) X.A mk (λacc t=>Ke (Ky X.prog X.w) X.A (R5 scope X.env.globals (cQ X.env.cells scope.names []) [] X.env.qual JT .none (on X.env)) (λj u=>
   OF (Ky X.prog X.w) X.A (.compStart (p_ c (⟨bb,iter,ifs,0⟩::rest) scope pos) 0 (.ref it) acc {j with scope:=relabel scope X.env}) (RR acc j.locals) u) E t) E s:=by
 refine O f s F H _ _ I λi l y=>?_;have hD:H s.heap.objs.size=JT:=I.fresh;have q3:=q s.heap.objs.size hD;have Y:∀b∈h,∃o,i.heap.get? b=on o:=λb L=>let ⟨o,e,_⟩:=T.obj _ _ st b L;⟨o,y b o e⟩
 have Z:∀b∈h,eA X f (upd H s.heap.objs.size (B s.heap.objs.size)) b:=λb a=>⟨by
  rw[a_]
  .exact(U b a).1
  .obtain⟨o,e,_⟩:=T.obj _ _ st b a
   exact K7 (Kr e),(U b a).2⟩
 generalize hH3:upd H s.heap.objs.size (B s.heap.objs.size)=H3 at l q3 Z;generalize s.heap.objs.size=D at hD hH3 q3⊢;refine zO λh' ns keep ce ca=>?_;have N:=zF l S.kind S.nd S.free S.names S.cap Z Y ns keep ce ca;obtain⟨b1,b2,b3⟩:=L (LW (i.heap.objs.size+1) scope.names (cQ X.env.cells scope.names [])) i.heap.objs.size h i H3;have st4:Q 0 h':=T.keep _ _ _ st λb L o e=>keep b o (y b o e);have f4:∀b∈h,eA (ay X Nc scope (LW (i.heap.objs.size+1) scope.names (cQ X.env.cells scope.names [])) i.heap.objs.size h i H3) [] H3 b:=λb a=>
  ⟨(Z b a).1,(N.ok.exf b a).1,N.ok.exfs b a,.inl a,(N.ok.exf b a).2,λp hp=>Kx hp (by simp)⟩
 refine O7 (pI (X:=ay X Nc scope (LW (i.heap.objs.size+1) scope.names (cQ X.env.cells scope.names [])) i.heap.objs.size h i H3) (gens:=⟨bb,iter,ifs,0⟩::rest) (d:=0) rfl hc rfl b1 b2 (b3 D) N T st4 f4 q3) λr s' ⟨hr,σ',k,n,q'⟩=>?_;subst hr;obtain⟨m,hm,_⟩:=n.loc;have C1:X.env.locals<i.heap.objs.size:=l.lt;refine W D _ s' k m (l.call' (ch:=h) n.os n.base n.hok n.bare λb a=>?_) hm ⟨n.free,Mz C1,l.sz,λx c e z=>?_,λp hp z=>?_⟩ q'
 .obtain⟨_,h2,h3,h4,h5,h6⟩:=U b a
  exact⟨h4,h2,h5,h6⟩
 .obtain⟨v,e'⟩:=l.cell x c e
  exact Kx (z▸e'.lt) (Lc _)
 .have:=Kr (l.pin p hp).1
  rw[z]at this;exact Kx this (Lc _)
theorem cp.letgo{s:J4}(I:cp X ai σ H s)(o:II X ai H C)(hs:KI C s.heap h'):cp X ai σ H {s with heap:=h'}:=
 I.turned (t':=s.toks) (λb f a e=>(hs.2 b a).trans e) o.1 (Ne.symm (Ne.symm o.2.1)) (.inr o.2.2.1) o.2.2.2.1 o.2.2.2.2
theorem c4.clo(S:c4 X scope Nc cy b_)(ok:X.Ok):closureFor scope X.env=Mm (cQ X.env.cells scope.names []):=vU λy a b=>ok.has y.1 (S.free y a b)
theorem c4.loc(S:c4 X scope Nc cy b_):∀x∈scope.names,x.2= .local->scope.names.lookup x.1=on .local:=λx a b=>cM S.nd (by rw[<-b];exact a)
theorem kW(j:X.calm=JW)(S:c4 X scope Nc cy b_)(k:PI X bb iter wi)
  (l:∀(cl:List (K2×JY)) (C:JY) (b:List JY) (s:J4) (H:Hp),PG (ay X Nc scope cl C b s H) bb g/\dh (ay X Nc scope cl C b s H) ifs tt/\∀D,PB (ay X Nc scope cl C b s H) elt (⟨bb,iter,ifs,0⟩::rest) scope pos 0 D (tb D))
  (hs:∀x,K6 iter X.env x=Mm x:=by intro _;rfl):PE X (.ListComp elt (⟨bb,iter,ifs,0⟩::rest) scope pos) (mE cy b_ wi λD J=>cP J g tt (tb D)):=by
 intro a s n H Q I h;rw[eval_ListComp];refine MZ (use:=JT) rfl hs (S.clo I.ok) S.kind S.loc (Ld (k a s n H _ I h) (λv N o=>Ld o (λp O r=>?_) λ_ _ x=>x) λ_ _ x=>x);obtain⟨it,b,U,J,W,e,t,T,f,f2,q⟩:=r;subst e;refine gm (c:= .L elt) rC (RR:=λacc C=>RY (Ky X.prog X.w) X.A X.xe JT _ acc C) j S l t T f f2 q λD C s' u m y ns B F=>?_;exact⟨m,ns,λh' i=>⟨.ref D,u,y.letgo B i,rfl,F⟩⟩
theorem tE{b f:OH}(y:X.N.Nodup)(l:X.N[i]?=on x)(B:wl X.env.scope x)(F:X.calm=JW)(S:c4 X scope Nc cy b_)(O:PI X bb iter wi)
  (U:∀(cl:List (K2×JY)) (C:JY) (k:List JY) (s:J4) (H:Hp),PG (ay X Nc scope cl C k s H) bb g/\dh (ay X Nc scope cl C k s H) ifs tt/\∀D,PB (ay X Nc scope cl C k s H) elt (⟨bb,iter,ifs,0⟩::rest) scope pos 0 D (tb D))
  (n:Pd (.ListComp elt (⟨bb,iter,ifs,0⟩::rest) scope pos) (on (.Name x b)) f.line X.env=Mm JW:=by rfl)
  (hs:∀x,K6 iter X.env x=Mm x:=by intro _;rfl) (W:X.fn x=JW\/X.env.scope.names.lookup x=on .local:=by first|exact .inl rfl|exact .inr rfl|assumption):
  PS X (.Assign [.Name x b] (.ListComp elt (⟨bb,iter,ifs,0⟩::rest) scope pos) f) (dH (mE cy b_ wi λD J=>cP J g tt (tb D)) (c9 i)):=by
 intro j s Y H D I h;rw[exec_Assign_Name_used _ _ _ _ n];refine JR (Mr (JR ?_));show Ke _ X.A (do let _ <-comprehension (.ListComp elt (⟨bb,iter,ifs,0⟩::rest) scope pos) scope X.env _ (newList []) JZ (LC iter X.env) (on (OU (.Name x b) X.env))) _ _ s
 refine JR (Ld (MZ (use:=on (OU (.Name x b) X.env)) (Q:=λ_ s'=>SP X j D .next s') rfl hs (S.clo I.ok) S.kind S.loc
  (Ld (O j s Y H _ I h) (λv s1 Z=>Ld Z (λitv s2 h2=>?_) λ_ _ e=>e) λ_ _ e=>e)) (λ_ s' hq=>JU (JU hq)) λ_ _ e=>e)
 obtain⟨it,k,tn,J,H2,e,o,T,p,f2,q⟩:=h2;subst e;refine gm (c:= .L elt) rC (RR:=λacc C=>RY (Ky X.prog X.w) X.A X.xe (on (OU (.Name x b) X.env)) _ acc C) F S U o T p f2 q λA C s' H' m I' ns r q'=>?_;show Ke _ X.A (OU (.Name x b) X.env (.ref A)) _ _ s';refine Q2 (jR I' y l B (v:= .ref A) rfl (λs2 o ⟨a,sb,ha⟩=>?_) W);have t:C≠a:=by
  rcases ha with rfl|ha
  .exact r.2.1
  .exact λz=>r.2.2.2.1 x a ha z.symm
 exact⟨m,ns.sameBut sb t,λh' u=>⟨_,H',o.letgo r u,q'⟩⟩
end
end L2
namespace L2
open PySem PySem.Spec
open Sem (wp)
open Builtin Builtin.ObjectAttr
structure TD (h:Lj) (C:JY) (bm:List J0):Prop where
 at_:∃(nm q:K2) (N:JY) (bs:List J0) (hdct:Bool) (sn:List K2) (sub:List J0) (ab:Bool) (col:Option Bool) (dd:Option JY) (k0 k1 k2 k3 k5:Option J0),
  h.get? C=on (excClassObj nm q C N bs bm hdct sn sub ab col dd k0 k1 k2 k3 k5 "ValueError.__new__")
 val:bm.contains (.type "ValueError")=JW
 bas:bm.contains (.type "BaseException")=JW
 att:bm.contains (.type "AttributeError")=JZ
 nam:bm.contains (.type "NameError")=JZ
section
variable{prog:KF}{w:K1}{A:Lf}{E:J0->J4->Prop}{h:Lj}{g:Array GenState}{d:Drawn}{t:Nat}{os:Qp}{C:JY}{bm rest:List J0}
noncomputable def uk:List J0->Bool
 |[.type a,.type b,.type c,.type d]=>a=="ValueError"&&b=="Exception"&&c=="BaseException"&&d=="object"
 | .ref _::r=>uk r
 |_=>JZ
variable{s:J4}{e:JY}{K:Kt}{cd:ClassData}{name:K2}{v:J0}
end
end L2
namespace L2
open PySem PySem.Spec PyProof.Rows
theorem bC.there{h:Lj}(x:bC P w H h a o):∃b,h.get? a=on b:=by
 cases o with
 |lst xs=>obtain⟨_,_,_,_,e⟩:=x;exact⟨_,e⟩
 |tup xs=>obtain⟨_,_,_,_,e,_⟩:=x;exact⟨_,e⟩
 |ins C dx fs=>obtain⟨_,_,_,e,_⟩:=x;exact⟨_,e⟩
 |own y=>exact x
 |xd fs=>obtain⟨_,⟨_,_,_,e,_⟩,_⟩:=x;exact⟨_,e⟩
 |rng lo hi=>obtain⟨_,_,_,e⟩:=x;exact⟨_,e⟩
 |frz b u=>obtain⟨e,_⟩:=x;exact⟨_,e⟩
 |tbl ps=>exact⟨_,(show h.get? a=on _ from x)⟩
 |met f y=>exact⟨_,(show h.get? a=on _ from x)⟩
 |ext φ=>obtain⟨_,e,_⟩:=x;exact e
structure L_ (P:KF) (w:K1) (outer:List Q6) (H:Hp) (s:J4) (E:XK) (x C:JY) (H':Hp) (s':J4):Prop where
 os:s'.os=s.os
 bare:O0 s'.gens
 un:Un (hE outer) [] H H' s.heap s'.heap
 hok:j_ P w H' s'.heap
 tr:∃(oe:KS) (vs:Array J0) (T:JY) (oT:KS) (ts:Array J0) (a0:J0),s'.heap.get? x=on oe/\(oe.cls= .ref C/\vs[0]?=on a0)/\oe.data= .fields vs/\vs[1]?=on (.ref T)/\T≠x/\s'.heap.get? T=on oT/\oT.data= .fields ts/\ts[3]?=on .none/\H' T=JT/\s.heap.get? T=JT
 xn:H' x=JT
 xs:s.heap.get? x=JT
 wish:E (.ref C) JT H'
def iv(P:KF)(w:K1):D_:=λouter H s E e s'=>∃x C a,e= .ref x/\L_ P w outer H s E x C a s'
theorem xR{X:Cx}{s s':J4}{E:XK}(I:cp X ai σ H s)(g:X.stack=X.env::X.outer)(i:X.env.frame=on X.env.locals)(R:X.ex=[])
  (os:s'.os=X.s₀.os) (bare:O0 s'.gens) (d:Un (hE X.stack) [] X.H₀ H' X.s₀.heap s'.heap) (hok:j_ X.prog X.w H' s'.heap) (y:∀b∈hE X.stack,H' b=JT)
  (c:∀b∈ext,X.s₀.heap.get? b=JT/\H' b=JT) (O:x∈ext) (wish:E (.ref C) JT H')
  (L:Heap.LeftW (Tu s'.heap (ext++hE X.stack)) (X.env::X.outer) x (.ref C) a0 s'.heap h'):L_ X.prog X.w X.outer X.H₀ X.s₀ E x C H' {s' with heap:=h'}:=by
 obtain⟨U,L2,W,Y⟩:=L;have j:∀b∈hE X.outer,b∈hE X.stack:=λb hb=>by
  rw[g];unfold hE;rw[LS,i];exact J1 _ hb
 have h:∀b∈hE X.stack,b=X.env.locals\/b∈hE X.outer:=λb hb=>by
  rw[g]at hb;unfold hE at hb;rw[LS,i]at hb;exact Kk.mp hb
 have A:∀b o,X.s₀.heap.get? b=on o->b≠X.env.locals:=λb o e=>K7 (Ku (Kr e) I.ok.above);have stay:∀b o,s'.heap.get? b=on o->b∉ext->b∉hE X.stack->h'.get? b=on o:=λb o e B Z=>
  U b o (hideAll_get _ e λhm=>(Ll.mp hm).elim B Z)
 have k:∀b o,X.s₀.heap.get? b=on o->b∉ext:=λb o e hb=>by rw[(c b hb).1]at e;cases e
 have f:∀b∈hE X.stack,∃o,h'.get? b=on o/\∀vs,o.data≠ .fields vs:=λb hb=>(L2.mem (by rw[<-g];exact hb)).2;obtain⟨oe,vs,T,oT,P,he,hc,hd,B,l,F,Q,m,h3⟩:=W;have p:H' T=JT/\X.s₀.heap.get? T=JT:=by
  by_cases hm:T∈ext++hE X.stack
  .rcases Ll.mp hm with hm|hm
   .exact⟨(c T hm).2,(c T hm).1⟩
   .obtain⟨o,e,nf⟩:=f T hm
    rw[Q]at e;cases e;exact Kx m (nf P)
  .have hs:s'.heap.get? T=JT:=by
    cases q:s'.heap.get? T with
    |none=>rfl
    |some o=>rw[hideAll_get _ q hm]at l;cases l
   constructor
   .cases q:H' T with
    |none=>rfl
    |some o=>obtain⟨ob,e⟩:=(hok T o q).there;rw[hs]at e;cases e
   .cases q:X.s₀.heap.get? T with
    |none=>rfl
    |some o=>obtain⟨ob,e⟩:=d.there T o q (by simp);rw[hs]at e;cases e
 refine⟨os,bare,⟨λb o e n hb _=>?_,λb o e n hb _=>?_,λb o e n hb=>d.free b o e n hb,λb o e _=>?_,d.tups,d.frzs,d.tbls⟩,λa o e=>?_,⟨oe,vs,T,oT,P,a0,he,hc,hd,B,F,Q,m,h3,p.1,p.2⟩,(c x O).2,(c x O).1,wish⟩
 .have nf:b∉hE X.stack:=λz=>(h b z).elim (A b o e) hb
  exact stay b o (d.keep b o e n nf (by simp)) (k b o e) nf
 .obtain⟨sl,r⟩:=d.slot b o e n (j b hb) (by simp)
  obtain⟨_,J,v,nf⟩:=I.ok.funs.mem hb;rw[e]at v;cases v;obtain⟨N,e3⟩:=Y b _ r nf;exact⟨N,e3⟩
 .obtain⟨J,r⟩:=d.there b o e (by simp)
  by_cases hb:b∈hE X.stack
  .obtain⟨o2,v,_⟩:=f b hb
   exact⟨o2,v⟩
  .exact⟨J,stay b J r (k b o e) hb⟩
 .refine(hok a o e).stay (λb u hb r=>?_) (λ_ q=>q) λ_ _ q=>q
  have t:H' b≠JT:=by
   rcases hb with rfl|hb
   .rw[e];simp
   .rw[hb];simp
  exact stay b u r (λz=>t (c b z).2) λz=>t (y b z)
theorem yb{h base:Lj}(d:h.FunFrames base l)(c:∀b∈hE l,b∈as):h.FunFrames (Tu h as) l:=
 PySem.W.funFrames_hide d λenv e a ha=>c a (by unfold hE;exact ON.mpr ⟨env,e,ha⟩)
theorem EO{X:Cx}{E F:XK}(a:X.stack=X.env::X.outer)(d:X.env.frame=on X.env.locals)(f:X.ex=[])(R:∀cls J H,F cls J H->E cls J H)
  (I:cp X ai σ H s) (h:iv X.prog X.w X.stack H s F e s'):
  Ke (Ky X.prog X.w) X.A (leaving X.env e) (λ_ j=>iv X.prog X.w X.outer X.H₀ X.s₀ E e j) E1 s':=by
 obtain⟨x,C,N,rfl,os,bare,un,hok,⟨U,vs,T,W,Y,a0,Z,hc,hd,h1,k,hT,m,h3,n,p⟩,xn,xs,wish⟩:=h;have nofs:∀b∈X.fs,b∈hE X.stack:=λb hb=>by
  rw[a];unfold hE;rw[LS,d];exact J1 _ hb
 have O:Un (hE X.stack) [] X.H₀ H X.s₀.heap s.heap:=by
  have b:=I.base;rw[f]at b;exact b.mono nofs λ_ z=>z
 have U0:=O.trans un;have g:∀b,s.heap.get? b=JT->X.s₀.heap.get? b=JT:=λb e=>by
  cases q:X.s₀.heap.get? b with
  |none=>rfl
  |some o=>obtain⟨o',P⟩:=O.there b o q (by simp);rw[e]at P;cases P
 have c:=I.stack;have i:s'.heap.FunFrames X.base X.stack:=by
  have all:∀(l:List Q6),(∀b∈hE l,b∈hE X.stack)->s.heap.FunFrames X.base l->s'.heap.FunFrames X.base l:=by
   intro l
   induction l with
   |nil=>intro _ _;trivial
   |cons env r ih=>
    intro hs hl;obtain⟨hk,⟨L,o,t,hn,u,v⟩,hr⟩:=hl;have Q:L∈hE X.stack:=hs L (by unfold hE;rw[LS,t];exact J2);obtain⟨sl,e⟩:=un.slot L o u (I.stkFree L Q) Q (by simp);exact⟨hk,⟨L,_,t,hn,e,v⟩,ih (λb hb=>hs b (by unfold hE;rw[LS,t];exact J1 _ hb)) hr⟩
  exact all X.stack (λ_ hb=>hb) c
 have y:∀b∈hE X.stack,N b=JT:=λb hb=>by
  obtain⟨_,o,u,_⟩:=c.mem hb;exact un.free b o u (I.stkFree b hb) (by simp)
 have B:∀b∈hE X.stack,b∈[x,T]++hE X.stack:=λb hb=>K3 _ hb;have hF:s'.heap.FunFrames (Tu s'.heap ([x,T]++hE X.stack)) (X.env::X.outer):=by
  have z:=yb i B;rw[a]at z⊢;exact z
 refine wpAny_leaving_nextW (base:=Tu s'.heap ([x,T]++hE X.stack)) (by rw[<-a];exact I.ok.frames) hF d ⟨U,vs,T,W,Y,Z,hc,hd,h1,Tv _ (by simp),k,hT,m,h3⟩ (λb o q=>RT _ q) (Tv _ (by simp)) λh' L=>?_;refine⟨x,C,N,rfl,xR I a d f (os.trans I.os) bare U0 hok y (λb hb=>?_) (by simp) (R _ _ _ wish) L⟩;rcases Kk.mp hb with rfl|hb
 .exact⟨g _ xs,xn⟩
 .obtain rfl:b=T:=by simpa using hb
  exact⟨g _ p,n⟩
section
variable{X:Cx}{ai:List (JY×KS)}{σ:St}{H H':Hp}{s s':J4}{E:XK}{x C:JY}
structure XC (K:Kt) (C:JY):Prop where
 sh:∃bm,∀h:Lj,K.In h->TD h C bm
 sa:R0 K (.ref C) "__setattr__"=on (on (.builtin "object.__setattr__"))
 cd:∃cd,PySem.W.clsIn K C=on cd/\cd.hasDict=JW/\uk cd.mro=JW
structure Yx (K:Kt) (C f:JY):Prop where
 xc:XC K C
 init:R0 K (.ref C) "__init__"=on (on (.ref f))
 fn:isFn K (.ref f)=JW
 kp:Oz K (.ref C)=JW
end
section
variable{X:Cx}{CX:D_}{k:Nat}{f C:JY}{fd:KJ}{ps:List K2}{sp:Sp}{dvs:List V}{ds:List J0}{E:St->XK}{x m:K2}{p pos apos:OH}{e o:Expr}{es:List Expr}{ta:TE}{t:TA}
structure Uh (K:Kt) (D:JY) (m:K2) (f:JY):Prop where
 ga:specialIn K (.ref D) "__getattribute__"=on (on (.builtin "type.__getattribute__"))
 rd:PySem.W.readsIn K D (.type "type")=JW
 fnd:PySem.W.findCls K (.ref D) (.type "type") m=on (.val (.ref f))
 kp:Oz K (.ref f)=JW
end
section
variable{P:KF}{w:K1}{K:Kt}{mg:K2->Option J0}{base:Lj}{N:List K2}{qual:K2}{scope:Scope}{f:JY}{cd:J0}{A:Lf}{outer:List Q6}{s:J4}{H:Hp}{E:XK}
theorem mZ:dN (iv P w) (fK (iv P w) P w K mg base N qual scope f cd A outer s H E) (λ_=>E):=λa b H1 c e s' I h=>EO (X:=fK (iv P w) P w K mg base N qual scope f cd A outer s H E) rfl rfl rfl (λ_ _ _ z=>z) I h
theorem u6:dN (iv P w) X E0:=λ_ _ _ _ _ _ _ h=>by
 obtain⟨_,_,_,_,F⟩:=h;exact F.wish.elim
theorem bV:PassesOwn (Ky P w) (A.deeper (Oy qual scope s.heap.objs.size f cd)) (Oy qual scope s.heap.objs.size f cd) (fK (iv P w) P w K mg base N qual scope f cd A outer s H E).xe:=PassesOwn.leaving
structure dv (K:Kt) (x qual:K2) (st:LM) (f:JY) (fd:KJ):Prop where
 ex:∃(oc:J0) (od:Option JY) (dV kV doc pm:J0) (an:Option JY) (cdv ct:J0) (osl:Array (Option J0)),
  fd=NY x qual (gH st) (cK st) (ah st) dV kV doc pm an cdv ct/\K.lookup f=on ⟨oc,od,.func fd,osl⟩/\Ov K cdv qual=JW
 kp:Oz K (.ref f)=JW
theorem FO{K:Kt}{x qual:K2}{st:LM}{f:JY}(l:K.lookup f=on ⟨oc,od,.func (NY x qual (gH st) (cK st) (ah st) dV kV doc pm an cdv ct),osl⟩)
  (c:Ov K cdv qual=JW) (k:Oz K (.ref f)=JW):dv K x qual st f (NY x qual (gH st) (cK st) (ah st) dV kV doc pm an cdv ct):=⟨⟨oc,od,dV,kV,doc,pm,an,cdv,ct,osl,rfl,l,c⟩,k⟩
theorem dv.okE{x qual:K2}{st:LM}{f:JY}{N ps:List K2}(F:dv K x qual st f fd)(S:cx N ps (ah st))(len:∀vs H Q E,sp vs H Q E->vs.length=ps.length)
  (b:∀(a:J0) (A:Lf) (outer:List Q6) (s:J4) (H:Hp) (vs:List V) (Q:VK) (E:XK),ee k (A.deeper (Oy qual (ah st) s.heap.objs.size f a))->sp vs H Q E->
   ∃t,PSs (fK (iv P w) P w K mg base N qual (ah st) f a A outer s H E) (cK st) t/\t {nx:=λ_ e=>Q .non e,rt:=Q} (eG N vs) H):f0 P w K mg base (iv P w) (k+1) f fd ps sp:=by
 obtain⟨l,m,n,o,g,p,q,a,ct,h,rfl,i,c⟩:=F.ex;exact CT i c S len λA outer s H vs Q E j d=>b a A outer s H vs Q E j d
theorem dv.ok{x qual:K2}{st:LM}{f:JY}{N ps:List K2}(F:dv K x qual st f fd)(S:cx N ps (ah st))(len:∀vs H Q E,sp vs H Q E->vs.length=ps.length)
  (b:∀(a:J0) (A:Lf) (outer:List Q6) (s:J4) (H:Hp) (vs:List V) (Q:VK) (E:XK),ee k (A.deeper (Oy qual (ah st) s.heap.objs.size f a))->sp vs H Q E->
   ∃t,PSs (fK (iv P w) P w K mg base N qual (ah st) f a A outer s H E).nox (cK st) t/\t {nx:=λ_ e=>Q .non e,rt:=Q} (eG N vs) H):f0 P w K mg base (iv P w) (k+1) f fd ps sp:=by
 obtain⟨m,n,o,p,g,r,u,a,ct,i,rfl,j,c⟩:=F.ex;refine CT j c S len λA outer s H vs Q E l d=>?_;obtain⟨t,h,q⟩:=b a A outer s H vs Q E l d;exact⟨t,h.nox,q⟩
abbrev TJ:=St->Hp->Nat->(Nat->Hp->Prop)->Prop
variable{X:Cx}{es:List Expr}{t:TJ}{pos:OH}
theorem pK(i:X.calm=JW):cI X (.builtin "sum") (λxs H Q=>∃(a:JY) (ns:List Int),xs=[.ref a]/\e_ X.K H a (ns.map V.int)/\Q (.int ns.sum) H):=by
 intro b s u H xs us Q I r h;obtain⟨a,ns,rfl,j,q⟩:=h;cases r with
 |cons k l=>
  cases k;cases l;obtain⟨its,m,p,v⟩:=I.list j;have c:=nl m;obtain⟨xs,ex⟩:=c.allInts.items;have d:=p.isList;rw[ex]at d;refine sum_intListG (I.ok.hd i) d λh' y t' n=>?_;have e:preSum (numAt xs) xs.size=ns.sum:=by
   have g:=c.numsOf;have o:its=(R1 xs).toList:=by rw[<-ex]
   rw[o,nums_intItems]at g;rw[preSum_eq,LO (by simp),g]
  rw[e];exact⟨.int ns.sum,H,I.kept n,⟨_,rfl⟩,q⟩
def qu(i j:Int):Prop:=0<j/\j.natAbs.log2<9000
theorem zd:f_ X (ML .FloorDiv) (rI qu λi j=> .int (i/j)):=o_ λi j _ _ _ _ _ a q=>by
 have b:(0:Int)<j:=a.1;refine floordiv_int (by omega) ?_ (.inl (QW a.2));rw[OR _ (by omega)];exact q
def T7(C:Int->Int->Prop)(f:Int->Int->Int):UC:=λx y H Q=>∃i j,x= .int i/\y= .int j/\C i j/\Q (.int (f i j)) H
theorem FK:UE X .FloorDiv (T7 qu λi j=>i/j):=by
 intro a s e H x y v u Q I b d h;obtain⟨i,j,rfl,rfl,c,q⟩:=h;obtain⟨t,rfl⟩:=b;obtain⟨t',rfl⟩:=d;have g:(0:Int)<j:=c.1;refine ifloordiv_int (by omega) ?_ (.inl (QW c.2));rw[OR _ (by omega)];exact⟨.int _,H,I.tok _,⟨_,rfl⟩,q⟩
theorem wt:∀{cs:List String} {us:List J0},aq (cs.map V.ty) us->us=cs.map M1
 |[],_,r=>by cases r;rfl
 |c::cs,_,r=>by
  cases r with
  |cons a b=>
   cases a;rw[wt b];rfl
theorem vV{K:Kt}{xs:List V}{H:Hp}(Pv:Nat->St->Hp->Prop)(u:Pv 0 c H)(k:∀i c H,i<=xs.length->Pv i c H->e_ K H a xs)
  (h:∀i x c H,xs[i]?=on x->Pv i c H->g x c H λd v=>tt d v λb r=>if b=JW then tb d r (Pv (i+1))else Pv (i+1) d r) (l:∀c H,Pv xs.length c H->Q c H):cP (Ug K a) g tt tb c H Q:=by
 refine⟨λi m c H=>i<=xs.length/\m+i=xs.length/\Pv i c H,⟨xs.length,Lq _,by omega,u⟩,λi m c H ⟨n,hm,j⟩=>?_⟩;by_cases o:i<xs.length
 .refine .inr ⟨⟨xs,xs[i],k i c H n j,JX o⟩,Pv (i+1),λy p q=>⟨m-1,by omega,by omega,by omega,q⟩,λx p ⟨e,B⟩=>?_⟩
  subst e;exact h i x c p (B xs (k i c p n j)) j
 .obtain rfl:i=xs.length:=by omega
  exact .inl ⟨⟨xs,k _ c H n j,J3 _⟩,l c H j⟩
theorem c4.plain{X:Cx}{scope:Scope}(k:scope.kind= .function)(nd:(scope.names.map (·.1)).Nodup)(f:∀y∈scope.names,y.2≠ .free):c4 X scope cy cy []:=
 ⟨k,nd,λy a e=>Kx e (f y a),by simp,λj b=>Kx b (by simp)⟩
def qt(i j:Int):Prop:=i.natAbs<2^1000/\j.natAbs<2^1000
theorem iE{k:Int}(h:k.natAbs<2^1000):Q4 k<=2^20:=by
 unfold Q4;split
 .exact Lq _
 .rename_i a
  have b:k.natAbs≠0:=by
   intro z;have:k=0:=Int.natAbs_eq_zero.mp z;subst this;simp at a
  have:=(Nat.log2_lt b).mpr h;have e:(2:Nat)^20=1048576:=by decide
  omega
theorem eS{X:Cx}:f_ X (ML .Mult) (rI qt λi j=> .int (i*j)):=o_ λ_ _ _ _ _ _ _ a q=>mul_int q (Se (iE a.1) (iE a.2))
theorem bH.upd{H:Hp}(h:H a=JT):bH H (upd H a o):=λb u e=>by rw[a_ (aC e h)];exact e
abbrev d4:=Int×List Int
noncomputable def hI(k:List Int):Int:=reduceHash (Og (k.map hashInt))
def hB:Bool->d4->Int
 |true,k=>reduceHash (Og [hashInt k.1,hI k.2])
 |false,k=>hI k.2
def v7(a:JY)(b:Bool)(ep:Nat)(xs:List (d4×JY×V))(h:Lj):Prop:=
 ∃o es,∃ys:List (d4×JY×J0),h.get? a=on o/\o.ExactDict/\o.data= .dict es ep/\es.toList=ys.map (λy=>⟨hB b y.1,.ref y.2.1,y.2.2⟩)/\(ys.map (·.1)).Nodup/\(a==OA)=JZ/\ys.length<=Ki/\
  OS (λ(x:d4×JY×V) (y:d4×JY×J0)=>x.1=y.1/\x.2.1=y.2.1/\aI x.2.2 y.2.2) xs ys
noncomputable def cD(a:JY)(b:Bool)(ep:Nat)(xs:List (d4×JY×V)):HO:= .ext (v7 a b ep xs)
theorem oO{P:KF}{w:K1}{b:Bool}{H:Hp}(S:v7 a b ep xs h):bC P w H h a (cD a b ep xs):=by
 refine⟨S,?_,λc d z k=>?_⟩
 .obtain⟨o,_,_,e,_⟩:=S
  exact⟨o,e⟩
 .obtain⟨o,es,ys,e,r⟩:=z
  exact⟨o,es,ys,k _ e,r⟩
end
end L2
namespace L2.Pu
open PySem PySem.Spec PyProof.Rows
theorem j1{α d e:Sort _}{P Q R:α->d->e->Prop}{C:Prop}(h:∃a b c,P a b c/\Q a b c/\R a b c)(k:∀a b c,P a b c->Q a b c->R a b c->C):C:=by
 obtain⟨a,b,c,x,y,z⟩:=h;exact k a b c x y z
theorem pj{α c:Sort _}{P Q R:α->c->Prop}{C:Prop}(h:∃a b,P a b/\Q a b/\R a b)(k:∀a b,P a b->Q a b->R a b->C):C:=by
 obtain⟨a,b,x,y,z⟩:=h;exact k a b x y z
inductive D where
 |non|bl (b:Bool)|int (i:Int)|str (x:K2)|ty (n:String)|txt
 |lst (xs:List D)|tup (xs:List D)|scr (xs:List Int)|obj (C:JY) (ns:List K2) (xs:List D)|bag|adr (a:JY)|dct (b:Bool) (ks:List d4) (vs:List D)
structure Bg where
 cells:List Int
 i:Int
 j:Int
structure Fx where
 A:JY->Prop
 bg:Option (JY×JY)
def KL(K:Kt)(a:JY)(xs:List V):Prop:=
 ∃(o:KS) (its:Array J0) (n:Nat),K.lookup a=on o/\o.cls= .type "list"/\o.dict=JT/\o.data= .seq its n/\its.size<=Ki/\aq xs its.toList
def KT(K:Kt)(a:JY)(xs:List V):Prop:=
 ∃(o:KS) (its:Array J0) (n:Nat),K.lookup a=on o/\o.cls= .type "tuple"/\o.data= .seq its n/\its.size<=Ki/\aq xs its.toList
def TQ(K:Kt)(F:Fx)(H:Hp)(c:JY)(xs:List V):Prop:=(¬F.A c/\Rd H c (.tup xs))\/KT K c xs
def ef(K:Kt)(F:Fx)(H:Hp):Bool->d4->JY->Prop
 |true,k,c=>∃e,TQ K F H c [.int k.1,.ref e]/\TQ K F H e (k.2.map V.int)
 |false,k,c=>k.1=0/\TQ K F H c (k.2.map V.int)
mutual
noncomputable def bt(K:Kt)(F:Fx)(H:Hp):D->V->Prop
 | .non,v=>v= .non
 | .bl b,v=>v= .bl b
 | .int i,v=>v= .int i
 | .str x,v=>v= .str x
 | .ty n,v=>v= .ty n
 | .txt,v=>∃z,v= .str z
 | .lst ds,v=>∃a xs,v= .ref a/\(¬F.A a/\Rd H a (.lst xs))/\aj K F H ds xs
 | .scr ns,v=>∃a,v= .ref a/\((¬F.A a/\Rd H a (.lst (ns.map V.int)))\/KL K a (ns.map V.int))
 | .tup ds,v=>∃a xs,v= .ref a/\((¬F.A a/\Rd H a (.tup xs))\/KT K a xs)/\aj K F H ds xs
 | .obj C ns ds,v=>∃a c xs,v= .ref a/\¬F.A a/\H a=on (.ins C c (ns.zip xs))/\ns.length=xs.length/\aj K F H ds xs
 | .bag,v=>∃b l,F.bg=on (b,l)/\v= .ref b
 | .adr a,v=>v= .ref a
 | .dct b ks vs,v=>∃a ep xs,v= .ref a/\(¬F.A a/\H a=on (cD a b ep xs))/\ks=xs.map (·.1)/\(∀x∈xs,ef K F H b x.1 x.2.1)/\aj K F H vs (xs.map (·.2.2))
noncomputable def aj(K:Kt)(F:Fx)(H:Hp):List D->List V->Prop
 |[],xs=>xs=[]
 |d::ds,xs=>∃x r,xs=x::r/\bt K F H d x/\aj K F H ds r
end
structure Tr (F:Fx) (H:Hp) (F2:Fx) (H2:Hp):Prop where
 av:∀a,¬F.A a->H a≠JT->¬F2.A a
 kp:∀a o,¬F.A a->H a=on o->H2 a=on o
 bg:F2.bg=F.bg
theorem Tr.refl(F:Fx)(H:Hp):Tr F H F H:=⟨λ_ h _=>h,λ_ _ _ h=>h,rfl⟩
theorem Tr.trans(a:Tr F H F1 H1)(b:Tr F1 H1 F2 H2):Tr F H F2 H2:=
 ⟨λx c d=>b.av x (a.av x c d) (by
   cases q:H x with
   |none=>exact Kx q d
   |some o=>rw[a.kp x o c q];simp),
  λx o c d=>b.kp x o (a.av x c (by rw[d];simp)) (a.kp x o c d),b.bg.trans a.bg⟩
theorem Rd.tr{F b:Fx}(t:Tr F H b H2)(h:¬F.A a)(r:Rd H a u):¬b.A a/\Rd H2 a u:=by
 rcases r with r|⟨o,r⟩
 .exact⟨t.av a h (by rw[r];simp),.inl (t.kp a _ h r)⟩
 .exact⟨t.av a h (by rw[r];simp),.inr ⟨o,t.kp a _ h r⟩⟩
theorem TQ.tr{K:Kt}(t:Tr F H F2 H2)(h:TQ K F H c xs):TQ K F2 H2 c xs:=h.imp (λh=>Rd.tr t h.1 h.2) id
theorem ef.tr{K:Kt}{b:Bool}(t:Tr F H F2 H2)(h:ef K F H b k c):ef K F2 H2 b k c:=by
 cases b with
 |true=>
  obtain⟨e,a,d⟩:=h;exact⟨e,a.tr t,d.tr t⟩
 |false=>exact⟨h.1,h.2.tr t⟩
mutual
theorem bt.tr{K:Kt}(t:Tr F H F2 H2):∀(d:D) (v:V),bt K F H d v->bt K F2 H2 d v
 | .non,v,h=>h
 | .bl b,v,h=>h
 | .int i,v,h=>h
 | .str x,v,h=>h
 | .ty n,v,h=>h
 | .txt,v,h=>h
 | .lst ds,v,h=>by
  unfold bt at h⊢;obtain⟨a,xs,e,c,f⟩:=h;exact⟨a,xs,e,Rd.tr t c.1 c.2,aj.tr t ds xs f⟩
 | .scr ns,v,h=>by
  unfold bt at h⊢;obtain⟨a,e,c⟩:=h;exact⟨a,e,c.imp (λ⟨p,q⟩=>Rd.tr t p q) id⟩
 | .tup ds,v,h=>by
  unfold bt at h⊢;obtain⟨a,xs,e,c,f⟩:=h;exact⟨a,xs,e,c.imp (λ⟨p,q⟩=>Rd.tr t p q) id,aj.tr t ds xs f⟩
 | .obj C ns ds,v,h=>by
  unfold bt at h⊢;obtain⟨a,k,xs,e,c,f,g,j⟩:=h;exact⟨a,k,xs,e,t.av a c (by rw[f];simp),t.kp a _ c f,g,aj.tr t ds xs j⟩
 | .bag,v,h=>by
  unfold bt at h⊢;rw[t.bg];exact h
 | .adr a,v,h=>by
  unfold bt at h⊢;exact h
 | .dct b ks vs,v,h=>by
  unfold bt at h⊢;obtain⟨a,ep,xs,e,c,f,g,j⟩:=h;exact⟨a,ep,xs,e,⟨t.av a c.1 (by rw[c.2];simp),t.kp a _ c.1 c.2⟩,f,λx l=>(g x l).tr t,aj.tr t vs _ j⟩
theorem aj.tr{K:Kt}(t:Tr F H F2 H2):∀(ds:List D) (xs:List V),aj K F H ds xs->aj K F2 H2 ds xs
 |[],xs,h=>h
 |d::ds,xs,h=>by
  unfold aj at h⊢;obtain⟨x,r,e,a,b⟩:=h;exact⟨x,r,e,bt.tr t d x a,aj.tr t ds r b⟩
end
section
variable{K:Kt}{F:Fx}{H:Hp}
theorem aj.nil:aj K F H [] []:=rfl
theorem aj.cons(h:bt K F H d x)(t:aj K F H ds xs):aj K F H (d::ds) (x::xs):=⟨x,xs,rfl,h,t⟩
theorem aj.length:∀{ds:List D} {xs:List V},aj K F H ds xs->ds.length=xs.length
 |[],xs,h=>by have e:xs=[]:=h;subst e;rfl
 |d::ds,xs,h=>by
  obtain⟨x,r,e,_,a⟩:=h;subst e;rw[Kq,Kq,aj.length a]
theorem aj.get:∀{ds:List D} {xs:List V} {i:Nat} {d:D},aj K F H ds xs->ds[i]?=on d->∃x,xs[i]?=on x/\bt K F H d x
 |[],_,_,_,_,e=>by simp at e
 |c::ds,xs,0,d,h,e=>by
  obtain⟨x,r,q,a,b⟩:=h;subst q;simp at e;subst e;exact⟨x,rfl,a⟩
 |c::ds,xs,i+1,d,h,e=>by
  obtain⟨x,r,q,a,b⟩:=h;subst q;obtain⟨y,f,g⟩:=aj.get (i:=i) (d:=d) b (by simpa using e);exact⟨y,by simpa using f,g⟩
theorem aj.getV:∀{ds:List D} {xs:List V} {i:Nat} {x:V},aj K F H ds xs->xs[i]?=on x->∃d,ds[i]?=on d/\bt K F H d x
 |[],xs,_,_,h,e=>by have q:xs=[]:=h;subst q;simp at e
 |c::ds,xs,0,d,h,e=>by
  obtain⟨x,r,q,a,b⟩:=h;subst q;simp at e;subst e;exact⟨c,rfl,a⟩
 |c::ds,xs,i+1,d,h,e=>by
  obtain⟨x,r,q,a,b⟩:=h;subst q;obtain⟨y,f,g⟩:=aj.getV (i:=i) (x:=d) b (by simpa using e);exact⟨y,by simpa using f,g⟩
theorem aj.append:∀{ds es:List D} {xs ys:List V},aj K F H ds xs->aj K F H es ys->aj K F H (ds++es) (xs++ys)
 |[],_,xs,_,h,h'=>by have q:xs=[]:=h;subst q;exact h'
 |c::ds,es,xs,ys,h,h'=>by
  obtain⟨x,r,q,a,b⟩:=h;subst q;exact⟨x,r++ys,rfl,a,aj.append b h'⟩
theorem aj.take:∀{ds:List D} {xs:List V} (n:Nat),aj K F H ds xs->aj K F H (ds.take n) (xs.take n)
 |[],xs,n,h=>by have q:xs=[]:=h;subst q;simp;rfl
 |c::ds,xs,0,h=>by simp;rfl
 |c::ds,xs,n+1,h=>by
  obtain⟨x,r,q,a,b⟩:=h;subst q;exact⟨x,r.take n,rfl,a,aj.take n b⟩
theorem aj.drop:∀{ds:List D} {xs:List V} (n:Nat),aj K F H ds xs->aj K F H (ds.drop n) (xs.drop n)
 |[],xs,n,h=>by have q:xs=[]:=h;subst q;simp;rfl
 |c::ds,xs,0,h=>h
 |c::ds,xs,n+1,h=>by
  obtain⟨x,r,q,b,a⟩:=h;subst q;exact aj.drop n a
theorem aj.set:∀{ds:List D} {xs:List V} (i:Nat) {d:D} {x:V},aj K F H ds xs->bt K F H d x->aj K F H (ds.set i d) (xs.set i x)
 |[],xs,i,_,_,h,_=>by have q:xs=[]:=h;subst q;simp;rfl
 |c::ds,xs,0,d,x,h,hd=>by
  obtain⟨y,r,q,b,a⟩:=h;subst q;exact⟨x,r,rfl,hd,a⟩
 |c::ds,xs,i+1,d,x,h,hd=>by
  obtain⟨y,r,q,b,a⟩:=h;subst q;exact⟨y,r.set i x,rfl,b,aj.set i a hd⟩
theorem bt.sqL(h:bt K F H (.lst ds) v):∃a xs,v= .ref a/\e_ K H a xs/\aj K F H ds xs:=by
 unfold bt at h;obtain⟨a,xs,e,b,c⟩:=h;exact⟨a,xs,e,.inl b.2,c⟩
theorem bt.rdL(h:bt K F H (.lst ds) v):∃a xs,v= .ref a/\Rd H a (.lst xs)/\aj K F H ds xs:=by
 unfold bt at h;obtain⟨a,xs,e,b,c⟩:=h;exact⟨a,xs,e,b.2,c⟩
theorem bt.scr{ns:List Int}(h:bt K F H (.scr ns) v):∃a,v= .ref a/\e_ K H a (ns.map V.int):=by
 unfold bt at h;obtain⟨a,e,b⟩:=h;exact⟨a,e,b.imp (λp=>p.2) id⟩
theorem bt.sqT(h:bt K F H (.tup ds) v):∃a xs,v= .ref a/\hH K H a xs/\aj K F H ds xs:=by
 unfold bt at h;obtain⟨a,xs,e,b,c⟩:=h;exact⟨a,xs,e,b.imp (λp=>p.2) id,c⟩
theorem bt.int(h:bt K F H (.int i) v):v= .int i:=h
theorem bt.bl{i:Bool}(h:bt K F H (.bl i) v):v= .bl i:=h
theorem bt.str(h:bt K F H (.str i) v):v= .str i:=h
theorem bt.non(h:bt K F H .non v):v= .non:=h
theorem bt.ty(h:bt K F H (.ty n) v):v= .ty n:=h
theorem aj.ints:∀(ns:List Int) {xs:List V},aj K F H (ns.map D.int) xs->xs=ns.map V.int
 |[],xs,h=>h
 |n::ns,xs,h=>by
  obtain⟨x,r,e,a,b⟩:=h;rw[e,aj.ints ns b];have q:x= .int n:=a;rw[q];rfl
theorem aj.ofInts:∀(ns:List Int),aj K F H (ns.map D.int) (ns.map V.int)
 |[]=>rfl
 |n::ns=>⟨.int n,ns.map V.int,rfl,rfl,aj.ofInts ns⟩
structure Fr (F:Fx) (H:Hp) (β:Bg):Prop where
 occ:∀a,F.A a->H a≠JT
 bgA:∀b l,F.bg=on (b,l)->F.A b/\F.A l/\b≠l
 bag:∀b l,F.bg=on (b,l)->H b=on (.lst [.ref l,.int β.i,.int β.j])/\H l=on (.lst (β.cells.map V.int))
structure To (F:Fx) (H H':Hp) (β':Bg):Prop where
 kp:∀a o,H a=on o->(∀b l,F.bg=on (b,l)->a≠b/\a≠l)->H' a=on o
 fr:Fr F H' β'
theorem To.refl{F:Fx}{H:Hp}(fr:Fr F H β):To F H H β:=⟨λ_ _ h _=>h,fr⟩
theorem To.trans{F:Fx}{H H1 c:Hp}(a:To F H H1 β1)(b:To F H1 c β2):To F H c β2:=⟨λx o h n=>b.kp x o (a.kp x o h n) n,b.fr⟩
theorem Fr.same{F:Fx}{H c:Hp}(fr:Fr F H β)(s:bH H c):To F H c β:=
 ⟨λa o h _=>s a o h,⟨λa h q=>(by
  cases e:H a with
  |none=>exact fr.occ a h e
  |some o=>exact Kx ((s a o e).symm.trans q) (by simp)),fr.bgA,λb l e=>⟨s _ _ (fr.bag b l e).1,s _ _ (fr.bag b l e).2⟩⟩⟩
theorem Fr.upd{F:Fx}{H:Hp}(fr:Fr F H β)(o:HO)(h:H p=JT):To F H (upd H p o) β:=fr.same (bH.upd h)
theorem Fr.fresh{F:Fx}{H:Hp}(fr:Fr F H β)(h:H p=JT):¬F.A p:=λq=>fr.occ p q h
theorem To.tr{F:Fx}{H c:Hp}(fr:Fr F H β)(t:To F H c β'):Tr F H F c:=
 ⟨λ_ h _=>h,λa o h e=>t.kp a o e λb l q=>⟨λz=>h (z▸(fr.bgA b l q).1),λz=>h (z▸(fr.bgA b l q).2.1)⟩,rfl⟩
abbrev Dn:=List (Option D)
structure hU (K:Kt) (F:Fx) (H:Hp) (δ:Dn) (σ:St):Prop where
 len:δ.length=σ.length
 tell:∀(i:Nat) (d:D),δ[i]?=on (on d)->∃v,σ[i]?=on (on v)/\bt K F H d v
theorem hU.tr{K:Kt}{F a:Fx}{H b:Hp}(t:Tr F H a b)(h:hU K F H δ σ):hU K a b δ σ:=⟨h.len,λi d e=>let ⟨v,h1,h2⟩:=h.tell i d e;⟨v,h1,bt.tr t d v h2⟩⟩
theorem hU.set{K:Kt}{F:Fx}{H:Hp}{δ:Dn}{a:St}(h:hU K F H δ a)(hd:bt K F H d v):hU K F H (δ.set i (on d)) (a.set i (on v)):=by
 refine⟨by rw[KO,KO,h.len],λj c e=>?_⟩;rw[LV]at e;rw[LV];by_cases q:i=j
 .subst q
  rw[J8 rfl]at e⊢;split at e
  .rename_i b
   cases e;rw[J8 (by rw[<-h.len];exact b)];exact⟨v,rfl,hd⟩
  .cases e
 .rw[J6 q]at e⊢
  exact h.tell j c e
def Sub(δ a:Dn):Prop:=∀(i:Nat) (d:D),δ[i]?=on (on d)->a[i]?=on (on d)
theorem hU.sub{K:Kt}{F:Fx}{H:Hp}{δ a:Dn}(h:hU K F H a σ)(s:Sub δ a)(l:δ.length=a.length):hU K F H δ σ:=⟨l.trans h.len,λi d e=>h.tell i d (s i d e)⟩
abbrev M(α:Type):=Bg->Option (Except JY α×Bg)
noncomputable def M.ret{α:Type}(a:α):M α:=λβ=>on (.ok a,β)
noncomputable def M.bind{α b:Type}(m:M α)(k:α->M b):M b:=λβ=>match m β with
 |none=>JT
 |some (.error C,β1)=>on (.error C,β1)
 |some (.ok a,β1)=>k a β1
noncomputable def M.ofO{α:Type}(o:Option α):M α:=λβ=>match o with
 |some a=>on (.ok a,β)
 |none=>JT
noncomputable def M.fail{α:Type}:M α:=λ_=>JT
theorem M.bind_some{α b:Type}(a:α)(k:α->M b):M.bind (M.ofO (on a)) k=k a:=rfl
theorem M.bind_ok{α b:Type}{m:M α}{k:α->M b}{β β1:Bg}{a:α}(h:m β=on (.ok a,β1)):M.bind m k β=k a β1:=by unfold M.bind;rw[h]
theorem M.bind_err{α a:Type}{m:M α}{k:α->M a}{β β1:Bg}{C:JY}(h:m β=on (.error C,β1)):M.bind m k β=on (.error C,β1):=by unfold M.bind;rw[h]
def run{α c:Type}(R:Hp->α->c->Prop)(F:Fx)(E:St->XK)(e:St)(m:M α)(H:Hp)(Q:c->Hp->Prop)(β:Bg):Prop:=
 ∃r a,m β=on (r,a)/\match r with
  | .ok d=>∀v b,To F H b a->R b d v->Q v b
  | .error C=>∀b,To F H b a->E e (.ref C) JT b
theorem run.mono{α c:Type}{R:Hp->α->c->Prop}{F:Fx}{E:St->XK}{g:St}{m:M α}{H:Hp}{Q i:c->Hp->Prop}{β:Bg}(h:run R F E g m H Q β)(f:∀v a,Q v a->i v a):run R F E g m H i β:=by
 obtain⟨r,b,e,h⟩:=h;refine⟨r,b,e,?_⟩;cases r with
 |ok d=>exact λv a t q=>f v a (h v a t q)
 |error C=>exact h
theorem run.bind{α l g i:Type}{R:Hp->α->l->Prop}{R2:Hp->g->i->Prop}{F:Fx}{E:St->XK}{a:St}{m:M α}{k:α->M g}{H:Hp}{Q:i->Hp->Prop}{β:Bg}(h:run R2 F E a (M.bind m k) H Q β):
  run R F E a m H (λv H1=>∃d β1,To F H H1 β1/\R H1 d v/\run R2 F E a (k d) H1 Q β1) β:=by
 obtain⟨r,b,e,h⟩:=h;cases q:m β with
 |none=>unfold M.bind at e;rw[q]at e;cases e
 |some z=>
  obtain⟨j,β1⟩:=z;refine⟨j,β1,q,?_⟩;cases j with
  |error C=>
   rw[M.bind_err q]at e;cases e;exact h
  |ok d=>
   rw[M.bind_ok q]at e;intro v H1 t hd;refine⟨d,β1,t,hd,r,b,e,?_⟩;cases r with
   |ok d2=>exact λn c f o=>h n c (t.trans f) o
   |error C=>exact λc f=>h c (t.trans f)
theorem run.ret{α b:Type}{R:Hp->α->b->Prop}{F:Fx}{E:St->XK}{c:St}{a:α}{v:b}{H:Hp}{Q:b->Hp->Prop}{β:Bg}(fr:Fr F H β)(h:run R F E c (M.ret a) H Q β)(r:R H a v):Q v H:=by
 obtain⟨_,_,e,h⟩:=h;cases e;exact h v H (To.refl fr) r
theorem run.ofO{α c:Type}{R:Hp->α->c->Prop}{F:Fx}{E:St->XK}{d:St}{o:Option α}{H:Hp}{Q:c->Hp->Prop}{β:Bg}(h:run R F E d (M.ofO o) H Q β):∃a,o=on a/\∀v b,To F H b β->R b a v->Q v b:=by
 obtain⟨_,_,e,h⟩:=h;cases o with
 |none=>cases e
 |some a=>cases e;exact⟨a,rfl,h⟩
abbrev FD:=Dn->M D
abbrev FL:=Dn->M (List D)
def tV(K:Kt)(f:FD)(E:St->XK):TE:=λa H Q=>∃F δ β,Fr F H β/\hU K F H δ a/\run (bt K F) F E a (f δ) H Q β
def hW(K:Kt)(f:FL)(E:St->XK):TA:=λa H Q=>∃F δ β,Fr F H β/\hU K F H δ a/\run (aj K F) F E a (f δ) H Q β
def g8(K:Kt)(f:Dn->M Bool)(E:St->XK):TT:=λc H Q=>∃F δ β,Fr F H β/\hU K F H δ c/\run (λ_ (a b:Bool)=>b=a) F E c (f δ) H Q β
theorem _root_.L2.PE.imp(h:PE X e t)(f:∀a H Q,t' a H Q->t a H Q):PE X e t':=λb s a H Q I q=>h b s a H Q I (f a H Q q)
theorem _root_.L2.PT.imp(h:PT X e t)(f:∀a H Q,t' a H Q->t a H Q):PT X e t':=λb s a H Q I q=>h b s a H Q I (f a H Q q)
theorem _root_.L2.PW.imp(h:PW X e t)(f:∀a H Q,t' a H Q->t a H Q):PW X e t':=λc b s a H Q I q=>h c b s a H Q I (f a H Q q)
theorem _root_.L2.PA.imp(h:PA X e t)(f:∀a H Q,t' a H Q->t a H Q):PA X e t':=λpos b s a H Q I q=>h pos b s a H Q I (f a H Q q)
def aB(i:Nat):FD:=λδ=>M.ofO (δ.getD i JT)
def fC(d:D):FD:=λ_=>M.ret d
def f1(op:D->Option D)(f:FD):FD:=λδ=>M.bind (f δ) λa=>M.ofO (op a)
def f2(op:D->D->Option D)(f g:FD):FD:=λδ=>M.bind (f δ) λa=>M.bind (g δ) λb=>M.ofO (op a b)
noncomputable def aT:FL:=λ_=>M.ret []
def ar(f:FD)(g:FL):FL:=λδ=>M.bind (f δ) λa=>M.bind (g δ) λas=>M.ret (a::as)
def bf(op:List D->Option D)(g:FL):FD:=λδ=>M.bind (g δ) λas=>M.ofO (op as)
def lf(m:List D->M D)(g:FL):FD:=λδ=>M.bind (g δ) λas=>m as
variable{X:Cx}{E:St->XK}{e a b:Expr}{es:List Expr}{pos:OH}
theorem IL(i:Nat)(h:PE X (.Name x pos) (eX i)):PE X (.Name x pos) (tV X.K (aB i) E):=h.imp λl H Q c=>by
 obtain⟨F,δ,β,fr,f,r⟩:=c;obtain⟨d,e,r⟩:=run.ofO r;have g:δ[i]?=on (on d):=by
  rw[Kd]at e;cases q:δ[i]? with
  |none=>rw[q]at e;cases e
  |some z=>rw[q]at e;simp at e;rw[e]
 obtain⟨v,j,k⟩:=f.tell i d g;exact⟨v,j,r v H (To.refl fr) k⟩
theorem q0(h:PE X e (tC v))(hd:∀F H,bt X.K F H d v):PE X e (tV X.K (fC d) E):=h.imp λf H Q c=>by obtain⟨F,δ,β,fr,g,r⟩:=c;exact run.ret fr r (hd F H)
theorem ac{i j pos}:PE X (.Constant (.int i) j pos) (tV X.K (fC (.int i)) E):=q0 bL λ_ _=>rfl
theorem jN{i j pos}:PE X (.Constant (.bool i) j pos) (tV X.K (fC (.bl i)) E):=q0 Jc λ_ _=>rfl
theorem uK{j pos}:PE X (.Constant .none j pos) (tV X.K (fC .non) E):=q0 G2 λ_ _=>rfl
theorem iQ:PA X [] (hW X.K aT E):=ge.imp λd H Q c=>by obtain⟨F,δ,β,fr,f,r⟩:=c;exact run.ret fr r aj.nil
theorem kM(ha:PE X e (tV X.K f E))(k:PA X es (hW X.K g E))(hs:Kj (e::es) X.env=(JZ,LC e X.env)::Kj es X.env:=by rfl):PA X (e::es) (hW X.K (ar f g) E):=
 (dC ha k hs).imp λn H Q c=>j1 c λF δ β fr i r=>⟨F,δ,β,fr,i,(run.bind (R:=bt X.K F) r).mono λv H1 ⟨d,β1,t,hd,l⟩=>
  ⟨F,δ,β1,t.fr,i.tr (t.tr fr),(run.bind (R:=aj X.K F) l).mono λvs o c=>pj c λds β2 j h m=>run.ret j.fr m (aj.cons (bt.tr (j.tr t.fr) _ _ hd) h)⟩⟩
def aV(K:Kt)(r:R2)(op:D->D->Option D):Prop:=∀(F:Fx) (H:Hp) (β:Bg) (Q:VK) (d1 d2 d:D) (f g:V),Fr F H β->bt K F H d1 f->bt K F H d2 g->op d1 d2=on d->
 (∀v c,To F H c β->bt K F c d v->Q v c)->r f g H Q
def DA(K:Kt)(r:V->Hp->VK->Prop)(op:D->Option D):Prop:=∀(F:Fx) (H:Hp) (β:Bg) (Q:VK) (d1 d:D) (f:V),Fr F H β->bt K F H d1 f->op d1=on d->
 (∀v c,To F H c β->bt K F c d v->Q v c)->r f H Q
def da(K:Kt)(r:List V->Hp->VK->Prop)(op:List D->Option D):Prop:=∀(F:Fx) (H:Hp) (β:Bg) (Q:VK) (ds:List D) (d:D) (vs:List V),Fr F H β->aj K F H ds vs->op ds=on d->
 (∀v c,To F H c β->bt K F c d v->Q v c)->r vs H Q
theorem mC{K:Kt}(l:aV K r op){H:Hp}(h:tV K (f2 op f g) E σ H Q):KX r (tV K f E) (tV K g E) σ H Q:=by
 obtain⟨F,δ,β,fr,j,h⟩:=h;refine⟨F,δ,β,fr,j,(run.bind (R:=bt K F) h).mono λv H1 c=>pj c λd β1 t hd n=>⟨F,δ,β1,t.fr,j.tr (t.tr fr),(run.bind (R:=bt K F) n).mono λo p c=>pj c λd2 β2 m i q=>?_⟩⟩;obtain⟨d3,u,k⟩:=run.ofO q;exact l F p β2 Q d d2 d3 v o m.fr (bt.tr (m.tr t.fr) _ _ hd) i u k
theorem aE(c:f_ X (ML op) r)(l:aV X.K r o)(ha:PE X a (tV X.K f E))(d:PE X b (tV X.K g E)):PE X (.BinOp a op b pos) (tV X.K (f2 o f g) E):=
 (c8 c ha d).imp λ_ _ _=>mC l
theorem ie(c:f_ X (Lp op) r)(l:aV X.K r o)(ha:PE X a (tV X.K f E))(d:PE X b (tV X.K g E))(hm:OE op b=JZ:=by first|exact rn _|rfl):PE X (.Compare a [op] [b] pos) (tV X.K (f2 o f g) E):=
 (EN c ha d hm).imp λ_ _ _=>mC l
theorem uJ(g:UB X (unaryOp op) r)(l:DA X.K r o)(ha:PE X a (tV X.K f E)):PE X (.UnaryOp op a pos) (tV X.K (f1 o f) E):=
 (Jb g ha).imp λm H Q c=>j1 c λF δ β fr i h=>⟨F,δ,β,fr,i,(run.bind (R:=bt X.K F) h).mono λv H1 c=>pj c λd β1 t hd j=>let ⟨d3,e3,k⟩:=run.ofO j;l F H1 β1 Q d d3 v t.fr hd e3 k⟩
theorem bc(c:D2 X r)(l:aV X.K r o)(ha:PE X a (tV X.K f E))(d:PE X b (tV X.K g E))(hs:uA b:=by exact λ_ _=>rfl):PE X (.Subscript a b pos) (tV X.K (f2 o f g) E):=
 (cN c ha d hs).imp λ_ _ _=>mC l
theorem wF{K:Kt}(l:da K r op){H:Hp}(h:tV K (bf op g) E σ H Q):UU r (hW K g E) σ H Q:=by
 obtain⟨F,δ,β,fr,c,h⟩:=h;refine⟨F,δ,β,fr,c,(run.bind (R:=aj K F) h).mono λv H1 f=>pj f λd β1 t hd i=>?_⟩;obtain⟨d3,j,k⟩:=run.ofO i;exact l F H1 β1 Q d d3 v t.fr hd j k
theorem bZ{f:String}(h:cI X (.builtin f) r)(l:da X.K r op)(i:Gl X x)(hm:X.mg x=JT)(j:Nk x=on (.builtin f))(ha:PA X (e::es) (hW X.K g E))(hn:x≠"__name__":=by decide)(c:(x==("__debug__":K2))=JZ:=by decide)
  (k:Kj (e::es) X.env=(JZ,LC e X.env)::Kj es X.env:=by rfl) (d:(Nw pos (Kj es X.env)).any (·.1)=JZ:=by rfl):PE X (.Call (.Name x p) (e::es) [] pos) (tV X.K (bf op g) E):=
 (jo h i hm j ha hn c k d).imp λ_ _ _=>wF l
theorem bG(f:cI X (.type T) r)(l:da X.K r op)(h:Gl X x)(hm:X.mg x=JT)(i:Nk x=on (.type T))(ha:PA X (e::es) (hW X.K g E))(hn:x≠"__name__":=by decide)(c:(x==("__debug__":K2))=JZ:=by decide)
  (j:Kj (e::es) X.env=(JZ,LC e X.env)::Kj es X.env:=by rfl) (d:(Nw pos (Kj es X.env)).any (·.1)=JZ:=by rfl):PE X (.Call (.Name x p) (e::es) [] pos) (tV X.K (bf op g) E):=
 (pp f h hm i ha hn c j d).imp λ_ _ _=>wF l
noncomputable def dW(ds:List D):Option D:=if ds.length<=Ki then on (.tup ds)else JT
noncomputable def iu(ds:List D):Option D:=if ds.length<=Ki then on (.lst ds)else JT
theorem bt.newT{K:Kt}{F:Fx}{H:Hp}(fr:Fr F H β)(h:H p=JT)(hd:aj K F H ds xs):bt K F (upd H p (.tup xs)) (.tup ds) (.ref p):=
 ⟨p,xs,rfl,.inl ⟨fr.fresh h,.inl af⟩,aj.tr ((fr.upd _ h).tr fr) _ _ hd⟩
theorem bt.newL{K:Kt}{F:Fx}{H:Hp}(fr:Fr F H β)(h:H p=JT)(hd:aj K F H ds xs):bt K F (upd H p (.lst xs)) (.lst ds) (.ref p):=
 ⟨p,xs,rfl,⟨fr.fresh h,.inl af⟩,aj.tr ((fr.upd _ h).tr fr) _ _ hd⟩
theorem ck{x1}(h:PA X es (hW X.K g E)):PE X (.Tuple es x1 pos) (tV X.K (bf dW g) E):=
 (GZ h).imp λl H Q d=>j1 d λF δ β fr i r=>⟨F,δ,β,fr,i,(run.bind (R:=aj X.K F) r).mono λvs H1 d=>by
  obtain⟨ds,β1,t,hd,j⟩:=d;obtain⟨d3,c,k⟩:=run.ofO j;unfold dW at c;split at c
  .cases c
   exact⟨by rw[<-hd.length];assumption,λp f=>k _ _ (t.fr.upd _ f) (bt.newT t.fr f hd)⟩
  .cases c⟩
theorem eW(h:PA X es (hW X.K g E)):PE X (.List es pos) (tV X.K (bf iu g) E):=
 (fq h).imp λl H Q d=>j1 d λF δ β fr i r=>⟨F,δ,β,fr,i,(run.bind (R:=aj X.K F) r).mono λvs H1 d=>by
  obtain⟨ds,β1,t,hd,j⟩:=d;obtain⟨d3,c,k⟩:=run.ofO j;unfold iu at c;split at c
  .cases c
   exact⟨by rw[<-hd.length];assumption,λp f=>k _ _ (t.fr.upd _ f) (bt.newL t.fr f hd)⟩
  .cases c⟩
def F0(K:Kt)(n:Nat)(m:List D->M D):Sp:=λvs H Q E=>vs.length=n/\∃F ds β,Fr F H β/\aj K F H ds vs/\run (bt K F) F (λ_=>E) [] (m ds) H Q β
variable{p:OH}{x:K2}{k n:Nat}{f:JY}{fd:KJ}{ps:List K2}
theorem run.toE{α c:Type}{R:Hp->α->c->Prop}{F:Fx}{E:St->XK}{d:St}{m:M α}{H:Hp}{Q:c->Hp->Prop}{β:Bg}(h:run R F E d m H Q β):run R F (λ_=>E d) [] m H Q β:=h
theorem wr(G:f0 X.prog X.w X.K X.mg X.base (iv X.prog X.w) k f fd ps (F0 X.K n m))(u:ee k X.A)(v:Gl X x)(hm:X.mg x=on (.ref f))(y:Oz X.K (.ref f)=JW)(B:aS X.K fd ps [])(I:dN (iv X.prog X.w) X E)
  (ha:PA X (e::es) (hW X.K g E)) (hn:∀δ β r h,g δ β=on (.ok r,h)->r.length=n) (c:(x==("__debug__":K2))=JZ:=by decide) (J:Kj (e::es) X.env=(JZ,LC e X.env)::Kj es X.env:=by rfl) (d:(Nw pos (Kj es X.env)).any (·.1)=JZ:=by rfl):
  PE X (.Call (.Name x p) (e::es) [] pos) (tV X.K (lf m g) E):=
 (kX G u v hm y B .nil I ha c J d).imp λU H Q L=>j1 L λF δ β fr N r=>⟨F,δ,β,fr,N,by
  obtain⟨l,i,o,q⟩:=run.bind (R:=aj X.K F) r;refine⟨l,i,o,?_⟩;cases l with
  |error C=>exact q
  |ok ds=>
   intro vs H1 t hd;obtain⟨d',β1,O,j,P⟩:=q vs H1 t hd;have T:=hn _ _ _ _ o;refine⟨by rw[KW,<-hd.length,T],F,d',β1,O.fr,by rw[KW];exact j,run.toE P⟩⟩
theorem BE{r:List D}(h:aT δ β=on (.ok r,β')):r.length=0:=by cases h;rfl
theorem bx{f:FD}{n:Nat}(d:∀δ β r c,g δ β=on (.ok r,c)->r.length=n):∀δ β r c,ar f g δ β=on (.ok r,c)->r.length=n+1:=by
 intro δ β r c h;unfold ar M.bind at h;split at h
 .cases h
 .cases h
 .dsimp only at h
  split at h
  .cases h
  .cases h
  .rename_i as _ i
   cases h;rw[Kq,d _ _ _ _ i]
noncomputable def o_(g:Int->Int->Option D):D->D->Option D
 | .int i,.int j=>g i j
 |_,_=>JT
theorem gX{a b d:D}(h:o_ g a b=on d):∃i j,a= .int i/\b= .int j/\g i j=on d:=by
 cases a<;>cases b<;>first|(exact⟨_,_,rfl,rfl,h⟩)|(cases h)
theorem xO{g:Int->Int->Int}:aV K (q_ λi j=> .int (g i j)) (o_ λi j=>on (.int (g i j))):=λF H β Q d1 d2 d l m fr c h e k=>by
 obtain⟨i,j,rfl,rfl,e⟩:=gX e;cases e;exact⟨i,j,c,h,k _ H (To.refl fr) rfl⟩
theorem jw{g:Int->Int->Bool}:aV K (q_ λi j=> .bl (g i j)) (o_ λi j=>on (.bl (g i j))):=λF H β Q d1 d2 d l m fr c h e k=>by
 obtain⟨i,j,rfl,rfl,e⟩:=gX e;cases e;exact⟨i,j,c,h,k _ H (To.refl fr) rfl⟩
theorem pz{C:Int->Int->Prop}{c:Int->Int->Bool}{g:Int->Int->Int}(l:∀i j,c i j=JW->C i j):aV K (rI C λi j=> .int (g i j)) (o_ λi j=>if c i j=JW then on (.int (g i j))else JT):=λF H β Q d1 d2 d q r fr m o e k=>by
 obtain⟨i,j,rfl,rfl,h⟩:=gX e;split at h
 .cases h
  exact⟨i,j,m,o,l _ _ (by assumption),k _ H (To.refl fr) rfl⟩
 .cases h
noncomputable def bO(i:Int):Bool:=decide (i.natAbs<2^1000)
def UV:D->D->Option D:=o_ λi j=>on (.int (i-j))
def vN:D->D->Option D:=o_ λi j=>if(decide (0<j)&&decide (j.natAbs.log2<9000))=JW then on (.int (i/j))else JT
def Uv:D->D->Option D:=o_ λi j=>on (.bl (decide (i<j)))
def PJ:D->D->Option D:=o_ λi j=>on (.bl (decide (i<=j)))
def Vr:D->D->Option D:=o_ λi j=>on (.bl (decide (j<i)))
theorem fF:aV K (q_ λi j=> .int (i-j)) UV:=xO
theorem vn:aV K (q_ λi j=> .bl (decide (i<j))) Uv:=jw
theorem l7:aV K (q_ λi j=> .bl (decide (i<=j))) PJ:=jw
theorem vp:aV K (q_ λi j=> .bl (decide (j<i))) Vr:=jw
theorem Ho:aV K (rI qu λi j=> .int (i/j)) vN:=pz λi j h=>by
 simp only[Kz,KV]at h;exact h
noncomputable def uZ:R2:=λx y H Q=>∃l b xs c,x= .ref l/\y= .ref b/\Rd H l (.lst xs)/\Rd H b (.lst c)/\xs.length+c.length<=Ki/\∀p,H p=JT->Q (.ref p) (upd H p (.lst (xs++c)))
theorem tM:f_ X (ML .Add) uZ:=by
 intro d s t H x y v u Q I i j h;obtain⟨l,b,xs,w,rfl,rfl,m,hB,A,q⟩:=h;cases i;cases j;obtain⟨z,its,n,r,e⟩:=m.ok I.hok;obtain⟨B,c,C,g,o⟩:=hB.ok I.hok;have J:=r.length;have L:=g.length;refine SC e o ?_ (by simp only[Kh];omega);rw[show its.toArray++c.toArray=(its++c).toArray by simp];exact⟨.ref _,_,I.lnew (t':=s.toks) (r.append g) (by rw[Kg];omega),rfl,q _ I.fresh⟩
def u3(K:Kt):R2:=λx y H Q=>∃a b ys,x= .ref a/\y= .ref b/\hH K H a []/\hH K H b ys/\Q (.ref b) H
theorem ET:f_ X (ML .Add) (u3 X.K):=by
 intro l s P H x y v u Q I t w h;obtain⟨a,b,ys,rfl,rfl,ha,A,q⟩:=h;cases t;cases w;obtain⟨its,B,C,_⟩:=I.tuple ha;obtain⟨m,R,J,_⟩:=I.tuple A;cases B;obtain⟨⟨c1,d1,L,i⟩,o,r,n,hd⟩:=C;obtain⟨⟨c2,d2,N,j⟩,c,d,O,g⟩:=J;simp only at r hd d g;subst r hd d g;exact PySem.concat_meets ⟨_,o,rfl⟩ ⟨_,c,rfl⟩ Ri SK Pf O6 (OT _ _) (tuple_addW0 a b _ _ n O d1 d2 i j (by simp)) ⟨o,c,⟨.ref b,H,I,rfl,q⟩⟩
noncomputable def iO:D->D->Option D
 | .int i,.int j=>on (.int (i+j))
 | .tup [],.tup b=>on (.tup b)
 | .lst a,.lst b=>if a.length+b.length<=Ki then on (.lst (a++b))else JT
 | .tup (c::a),.tup b=>if(c::a).length+b.length<=Ki then on (.tup (c::a++b))else JT
 |_,_=>JT
theorem bp:aV K (λx y H Q=>(q_ λi j=> .int (i+j)) x y H Q\/uZ x y H Q\/uY K x y H Q\/u3 K x y H Q) iO:=λF H β Q d1 d2 d w A fr h l e k=>by
 unfold iO at e;split at e
 .cases e
  exact .inl ⟨_,_,h,l,k _ H (To.refl fr) rfl⟩
 .cases e
  obtain⟨a,xs,rfl,m,c⟩:=bt.sqT h;obtain⟨b,ys,rfl,o,g⟩:=bt.sqT l;have q:xs=[]:=c;subst q;exact .inr (.inr (.inr ⟨a,b,ys,rfl,rfl,m,o,k _ H (To.refl fr) l⟩))
 .split at e
  .cases e
   obtain⟨a,xs,rfl,m,c⟩:=bt.rdL h;obtain⟨b,ys,rfl,o,g⟩:=bt.rdL l;exact .inr (.inl ⟨a,b,xs,ys,rfl,rfl,m,o,by rw[<-c.length,<-g.length];assumption,λp r=>k _ _ (fr.upd _ r) (bt.newL fr r (c.append g))⟩)
  .cases e
 .split at e
  .cases e
   obtain⟨a,xs,rfl,m,c⟩:=bt.sqT h;obtain⟨b,ys,rfl,o,g⟩:=bt.sqT l;have t:=c.length;have u:=g.length;refine .inr (.inr (.inl ⟨a,b,xs,ys,rfl,rfl,m,o,(λz=>by subst z;cases t),by rw[<-t,<-u];assumption,λz=>?_,λ_ p r=>k _ _ (fr.upd _ r) (bt.newT fr r (c.append g))⟩));subst z;have v:=Pl.mp u;subst v;rw[KW]at k;exact k _ H (To.refl fr) h
  .cases e
 .cases e
theorem aA:f_ X (ML .Add) (λx y H Q=>(q_ λi j=> .int (i+j)) x y H Q\/uZ x y H Q\/uY X.K x y H Q\/u3 X.K x y H Q):=m3.or (tM.or (ES.or ET))
def rA:D->D->Option D:=o_ λi j=>if(bO i&&bO j)=JW then on (.int (i*j))else JT
theorem iA:aV K (rI qt λi j=> .int (i*j)) rA:=pz λi j h=>by
 simp only[Kz,bO,KV]at h;exact h
noncomputable def Ua:D->D->Option Bool
 | .non,.non=>on JW
 | .int i,.int j=>on (decide (i=j))
 | .bl i,.bl j=>on (decide (i=j))
 | .str i,.str j=>on (decide (i=j))
 | .int _,.str _=>on JZ
 | .str _,.int _=>on JZ
 | .bl _,.str _=>on JZ
 | .str _,.bl _=>on JZ
 | .non,.int _=>on JZ
 | .int _,.non=>on JZ
 | .non,.str _=>on JZ
 | .str _,.non=>on JZ
 |_,_=>JT
theorem yh{F:Fx}{H:Hp}{a b:D}{c:Bool}(h:Ua a b=on c)(d:bt K F H a v)(g:bt K F H b w):yU v w=JW/\decide (v=w)=c:=by
 unfold Ua at h;split at h<;>first
  |(cases h;cases d.int;cases g.int;exact⟨rfl,by simp⟩)
  |(cases h;cases d.bl;cases g.bl;exact⟨rfl,by simp⟩)
  |(cases h;cases d.str;cases g.str;exact⟨rfl,by simp⟩)
  |(cases h;cases d.non;cases g.non;exact⟨rfl,by simp⟩)
  |(cases h;cases d.int;cases g.str;exact⟨rfl,rfl⟩)
  |(cases h;cases d.str;cases g.int;exact⟨rfl,rfl⟩)
  |(cases h;cases d.bl;cases g.str;exact⟨rfl,rfl⟩)
  |(cases h;cases d.str;cases g.bl;exact⟨rfl,rfl⟩)
  |(cases h;cases d.non;cases g.int;exact⟨rfl,rfl⟩)
  |(cases h;cases d.int;cases g.non;exact⟨rfl,rfl⟩)
  |(cases h;cases d.non;cases g.str;exact⟨rfl,rfl⟩)
  |(cases h;cases d.str;cases g.non;exact⟨rfl,rfl⟩)
  |cases h
noncomputable def WR:D->Bool
 | .non=>JW
 |_=>JZ
theorem Hv{F:Fx}{H:Hp}(h:bt K F H d v):decide (v= .non)=WR d:=by
 cases d with
 |non=>cases h.non;rfl
 |bl b=>cases h.bl;rfl
 |int b=>cases h.int;rfl
 |str b=>cases h.str;rfl
 |ty b=>cases h.ty;rfl
 |txt=>unfold bt at h;obtain⟨z,rfl⟩:=h;rfl
 |lst ds=>obtain⟨a,xs,rfl,_⟩:=bt.sqL h;rfl
 |tup ds=>obtain⟨a,xs,rfl,_⟩:=bt.sqT h;rfl
 |scr ds=>obtain⟨a,rfl,_⟩:=bt.scr h;rfl
 |obj C ns ds=>
  unfold bt at h;obtain⟨a,_,_,rfl,_⟩:=h;rfl
 |bag=>
  unfold bt at h;obtain⟨a,_,_,rfl⟩:=h;rfl
 |adr a=>
  unfold bt at h;obtain rfl:=h;rfl
 |dct b ks vs=>
  unfold bt at h;obtain⟨a,_,xs,rfl,_⟩:=h;rfl
noncomputable def vG:D->D->Option D
 |a,.non=>on (.bl (WR a))
 |_,_=>JT
theorem vo:aV K (λx y H Q=>y= .non/\Q (.bl (decide (x= .non))) H) vG:=λF H β Q d1 d2 d h i fr c g e k=>by
 unfold vG at e;split at e
 .cases e
  exact⟨g,by rw[Hv c];exact k _ H (To.refl fr) rfl⟩
 .cases e
noncomputable def dZ:D->Bool
 | .int _=>JW| .bl _=>JW| .str _=>JW| .non=>JW|_=>JZ
noncomputable def WV:D->D->Bool
 | .non,.non=>JW
 | .bl a,.bl b=>a==b
 | .bl a,.int b=>(if a then 1 else 0)==b
 | .int a,.bl b=>a==(if b then 1 else 0)
 | .int a,.int b=>a==b
 | .str a,.str b=>a==b
 |_,_=>JZ
noncomputable def c5:D->Option (List D)
 | .lst a=>on a
 | .tup a=>on a
 |_=>JT
def Ux(x:D)(ys:List D):Bool:=ys.any λy=>WV y x
def Vn(neg:Bool)(x y:D):Option D:=(c5 y).bind λys=>if(dZ x&&ys.all dZ)=JW then on (.bl (if neg then !Ux x ys else Ux x ys))else JT
theorem oJ{F:Fx}{H:Hp}(f:dZ d=JW)(h:bt K F H d v):f7 v=JW:=by
 cases d<;>first|(cases h.int;rfl)|(cases h.bl;rfl)|(cases h.str;rfl)|(cases h.non;rfl)|cases f
theorem HH{F:Fx}{H:Hp}{a b:D}(g:dZ a=JW)(h:dZ b=JW)(c:bt K F H a v)(d:bt K F H b w):Ic v w=WV a b:=by
 cases a<;>first
  |(exfalso;exact J7 g)
  |(cases b<;>first
   |(exfalso;exact J7 h)
   |(cases c.int;cases d.int;rfl)|(cases c.int;cases d.bl;rfl)|(cases c.int;cases d.str;rfl)|(cases c.int;cases d.non;rfl)
   |(cases c.bl;cases d.int;rfl)|(cases c.bl;cases d.bl;rfl)|(cases c.bl;cases d.str;rfl)|(cases c.bl;cases d.non;rfl)
   |(cases c.str;cases d.int;rfl)|(cases c.str;cases d.bl;rfl)|(cases c.str;cases d.str;rfl)|(cases c.str;cases d.non;rfl)
   |(cases c.non;cases d.int;rfl)|(cases c.non;cases d.bl;rfl)|(cases c.non;cases d.str;rfl)|(cases c.non;cases d.non;rfl))
theorem rV{F:Fx}{H:Hp}{x:D}(c:dZ x=JW)(g:bt K F H x v):∀{ds:List D} {vs:List V},ds.all dZ=JW->aj K F H ds vs->vs.all f7=JW/\Uw v vs=Ux x ds
 |[],vs,_,h=>by have q:vs=[]:=h;subst q;exact⟨rfl,rfl⟩
 |d::ds,vs,f,h=>by
  obtain⟨y,r,q,i,l⟩:=h;subst q;rw[Qb,Kz]at f;obtain⟨m,j⟩:=rV c g f.2 l;refine⟨by rw[Qb,oJ f.1 i,m];rfl,?_⟩;unfold Uw Ux at j⊢;rw[Qc,Qc,j,HH f.1 c i g]
theorem Ve{neg:Bool}:aV K (WO K neg) (Vn neg):=λF H β Q d1 d2 d o r fr g m e k=>by
 unfold Vn at e;cases q:c5 d2 with
 |none=>rw[q]at e;cases e
 |some ys=>
  rw[q]at e;simp only[MQ]at e;split at e
  .rename_i c
   rw[Kz]at c;cases e;cases d2<;>first|(cases q;obtain⟨a,xs,rfl,h,i⟩:=bt.sqL m;obtain⟨j,l⟩:=rV c.1 g c.2 i;exact⟨a,xs,rfl,.inl h,oJ c.1 g,j,by rw[l];exact k _ H (To.refl fr) rfl⟩)|(cases q;obtain⟨a,xs,rfl,h,i⟩:=bt.sqT m;obtain⟨j,l⟩:=rV c.1 g c.2 i;exact⟨a,xs,rfl,.inr h,oJ c.1 g,j,by rw[l];exact k _ H (To.refl fr) rfl⟩)|cases q
  .cases e
def qv:D->D->Option D
 | .lst xs,.int i=>lp xs i
 | .tup xs,.int i=>lp xs i
 |_,_=>JT
theorem nU{F:Fx}{H:Hp}(h:aj K F H ds vs)(e:lp ds i=on d):∃v,lp vs i=on v/\bt K F H d v:=by
 unfold lp at e⊢;rw[<-h.length];cases q:ix ds.length i with
 |none=>rw[q]at e;cases e
 |some j=>
  rw[q]at e;exact h.get e
theorem bi:aV K (λx y H Q=>oj K x y H Q\/yX K x y H Q) qv:=λF H β Q d1 d2 d l m fr i j e k=>by
 unfold qv at e;split at e
 .obtain⟨a,xs,rfl,c,g⟩:=bt.sqL i
  obtain⟨v,h,hd⟩:=nU g e;exact .inl ⟨a,xs,_,v,rfl,j,c,h,k _ H (To.refl fr) hd⟩
 .obtain⟨a,xs,rfl,c,g⟩:=bt.sqT i
  obtain⟨v,h,hd⟩:=nU g e;exact .inr ⟨a,xs,_,v,rfl,j,c,h,k _ H (To.refl fr) hd⟩
 .cases e
theorem az:D2 X (λx y H Q=>oj X.K x y H Q\/yX X.K x y H Q):=bD.or Ht
noncomputable def jx:List D->Option D
 |[.lst xs]=>on (.int xs.length)
 |[.tup xs]=>on (.int xs.length)
 |_=>JT
theorem aj.one{F:Fx}{H:Hp}(h:aj K F H [d] vs):∃v,vs=[v]/\bt K F H d v:=by
 obtain⟨x,r,e,c,g⟩:=h;have q:r=[]:=g;subst q;exact⟨x,e,c⟩
theorem aj.two{F:Fx}{H:Hp}(h:aj K F H [d,c] vs):∃v w,vs=[v,w]/\bt K F H d v/\bt K F H c w:=by
 obtain⟨x,r,e,g,i⟩:=h;obtain⟨y,rfl,j⟩:=aj.one i;exact⟨x,y,e,g,j⟩
theorem Jw:da K (λxs H Q=>∃p ys,xs=[.ref p]/\(e_ K H p ys\/hH K H p ys)/\Q (.int ys.length) H) jx:=λF H β Q ds d vs fr h e k=>by
 unfold jx at e;split at e
 .cases e
  obtain⟨v,rfl,g⟩:=aj.one h;obtain⟨a,xs,rfl,r,c⟩:=bt.sqL g;exact⟨a,xs,rfl,.inl r,by rw[<-c.length];exact k _ H (To.refl fr) rfl⟩
 .cases e
  obtain⟨v,rfl,g⟩:=aj.one h;obtain⟨a,xs,rfl,r,c⟩:=bt.sqT g;exact⟨a,xs,rfl,.inr r,by rw[<-c.length];exact k _ H (To.refl fr) rfl⟩
 .cases e
noncomputable def rE:List D->Option D
 |[.int i,.int j]=>on (.int (if j<i then j else i))
 |_=>JT
noncomputable def vg:List D->Option D
 |[.int i,.int j]=>on (.int (if j>i then j else i))
 |_=>JT
theorem vm:da K (λxs H Q=>∃i j,xs=[.int i,.int j]/\Q (.int (if j<i then j else i)) H) rE:=λF H β Q ds d vs fr h e k=>by
 unfold rE at e;split at e
 .cases e
  obtain⟨v,w,rfl,g,g'⟩:=aj.two h;cases g.int;cases g'.int;exact⟨_,_,rfl,k _ H (To.refl fr) rfl⟩
 .cases e
theorem Jv:da K (λxs H Q=>∃i j,xs=[.int i,.int j]/\Q (.int (if j>i then j else i)) H) vg:=λF H β Q ds d vs fr h e k=>by
 unfold vg at e;split at e
 .cases e
  obtain⟨v,w,rfl,g,g'⟩:=aj.two h;cases g.int;cases g'.int;exact⟨_,_,rfl,k _ H (To.refl fr) rfl⟩
 .cases e
noncomputable def dM:List D->Option (List Int)
 |[]=>on []
 | .int i::r=>(dM r).map (i::·)
 |_=>JT
theorem i4:∀{ds:List D} {ns:List Int},dM ds=on ns->ds=ns.map D.int
 |[],ns,h=>by cases h;rfl
 |d::ds,ns,h=>by
  cases d with
  |int i=>
   unfold dM at h;cases q:dM ds with
   |none=>rw[q]at h;cases h
   |some c=>rw[q]at h;cases h;rw[i4 q];rfl
  |_=>cases h
def yQ:List D->Option D
 |[.lst xs]=>(dM xs).map λns=> .int ns.sum
 |_=>JT
theorem Ju:da K (λxs H Q=>∃(a:JY) (ns:List Int),xs=[.ref a]/\e_ K H a (ns.map V.int)/\Q (.int ns.sum) H) yQ:=λF H β Q ds d vs fr h e k=>by
 unfold yQ at e;split at e
 .rename_i xs
  cases q:dM xs with
  |none=>rw[q]at e;cases e
  |some ns=>
   rw[q]at e;cases e;obtain⟨v,rfl,g⟩:=aj.one h;obtain⟨a,ys,rfl,r,c⟩:=bt.sqL g;rw[i4 q]at c;have i:=aj.ints ns c;subst i;exact⟨a,ns,rfl,r,k _ H (To.refl fr) rfl⟩
 .cases e
noncomputable def CO:List D->Option D
 |[.lst xs]=>on (.lst xs)
 |[.tup xs]=>on (.lst xs)
 |_=>JT
theorem fG:da K (λxs H Q=>∃p ys,xs=[.ref p]/\(e_ K H p ys\/hH K H p ys)/\∀l,H l=JT->Q (.ref l) (upd H l (.lst ys))) CO:=λF H β Q ds d vs fr h e k=>by
 unfold CO at e;split at e
 .cases e
  obtain⟨v,rfl,g⟩:=aj.one h;obtain⟨a,xs,rfl,r,i⟩:=bt.sqL g;exact⟨a,xs,rfl,.inl r,λl c=>k _ _ (fr.upd _ c) (bt.newL fr c i)⟩
 .cases e
  obtain⟨v,rfl,g⟩:=aj.one h;obtain⟨a,xs,rfl,r,i⟩:=bt.sqT g;exact⟨a,xs,rfl,.inr r,λl c=>k _ _ (fr.upd _ c) (bt.newL fr c i)⟩
 .cases e
noncomputable def qC:List D->Option D
 |[.lst xs]=>on (.tup xs)
 |[.tup xs]=>on (.tup xs)
 |_=>JT
theorem gG:da K (λxs H Q=>∃p ys,xs=[.ref p]/\((e_ K H p ys/\∀l,H l=JT->Q (.ref l) (upd H l (.tup ys)))\/(hH K H p ys/\Q (.ref p) H))) qC:=λF H β Q ds d vs fr h e k=>by
 unfold qC at e;split at e
 .cases e
  obtain⟨v,rfl,g⟩:=aj.one h;obtain⟨a,xs,rfl,r,c⟩:=bt.sqL g;exact⟨a,xs,rfl,.inl ⟨r,λl i=>k _ _ (fr.upd _ i) (bt.newT fr i c)⟩⟩
 .cases e
  obtain⟨v,rfl,g⟩:=aj.one h;obtain⟨a,xs,rfl,r,c⟩:=bt.sqT g;exact⟨a,xs,rfl,.inr ⟨r,k _ H (To.refl fr) g⟩⟩
 .cases e
noncomputable def asB:D->Option Bool
 | .bl b=>on b
 |_=>JT
theorem ia{b:Bool}(h:asB d=on b):d= .bl b:=by cases d<;>first|(cases h;rfl)|cases h
noncomputable def yJ:D->Option Bool
 | .non=>on JZ
 | .bl b=>on b
 | .int i=>on (i !=0)
 | .lst xs=>on (!xs.isEmpty)
 | .tup xs=>on (!xs.isEmpty)
 |_=>JT
def fB(f:FD):Dn->M Bool:=λδ=>M.bind (f δ) λd=>M.ofO (asB d)
def sf(f:FD):Dn->M Bool:=λδ=>M.bind (f δ) λd=>M.ofO (yJ d)
def jD(f g:Dn->M Bool):Dn->M Bool:=λδ=>M.bind (f δ) λc=>if c=JW then g δ else M.ret JZ
def oK(f g:Dn->M Bool):Dn->M Bool:=λδ=>M.bind (f δ) λc=>if c=JW then M.ret JW else g δ
def vP(f:Dn->M Bool):Dn->M Bool:=λδ=>M.bind (f δ) λc=>M.ret (!c)
def vQ(f g:FD):FD:=λδ=>M.bind (f δ) λd=>M.bind (M.ofO (asB d)) λc=>if c=JW then g δ else M.ret (.bl JZ)
def nB(o d:D->D->Option D)(f g h:FD):FD:=λδ=>M.bind (f δ) λa=>M.bind (g δ) λb=>M.bind (M.ofO (o a b)) λz=>M.bind (M.ofO (asB z)) λc=>if c=JW then M.bind (h δ) (λw=>M.ofO (d b w))else M.ret (.bl JZ)
variable{c:Expr}{rest:List Expr}
theorem M.ofO_bind{α d:Type}{o:Option α}{k:α->M d}{β:Bg}{z:Except JY d×Bg}(h:M.bind (M.ofO o) k β=on z):∃a,o=on a/\k a β=on z:=by
 cases o with
 |none=>cases h
 |some a=>exact⟨a,rfl,h⟩
theorem run.ofO_bind{α g i:Type}{R:Hp->g->i->Prop}{F:Fx}{j:St}{o:Option α}{k:α->M g}{H:Hp}{Q:i->Hp->Prop}{β:Bg}(h:run R F E j (M.bind (M.ofO o) k) H Q β):∃a,o=on a/\run R F E j (k a) H Q β:=by
 obtain⟨r,d,e,h⟩:=h;obtain⟨a,q,e⟩:=M.ofO_bind e;exact⟨a,q,r,d,e,h⟩
theorem run.bOk{F:Fx}{H:Hp}(fr:Fr F H β)(hd:bt K F H d v)(h:run (λ_ (a b:Bool)=>b=a) F E σ (M.ofO (asB d)) H Q β):∃k,v= .bl k/\Q k H:=by
 obtain⟨b,e,k⟩:=run.ofO h;rw[ia e]at hd;exact⟨b,hd,k b H (To.refl fr) rfl⟩
theorem lL{f:FD}{H:Hp}(h:g8 K (fB f) E σ H Q):tV K f E σ H λx g=>∃k,x= .bl k/\Q k g:=by
 obtain⟨F,δ,β,fr,i,h⟩:=h;exact⟨F,δ,β,fr,i,(run.bind (R:=bt K F) h).mono λv H1 j=>pj j λd β1 t hd l=>run.bOk t.fr hd l⟩
theorem bh{f g:FD}(d:f_ X (Lp op) r)(l:aV X.K r o)(ha:PE X a (tV X.K f E))(i:PE X b (tV X.K g E))(hm:OE op b=JZ:=by first|exact rn _|rfl):PT X (.Compare a [op] [b] pos) (g8 X.K (fB (f2 o f g)) E):=
 (tz d ha i hm).imp λj H Q h=>mC l (lL h)
theorem wD{f g h:FD}(l:aV K r o)(Y:aV K r' o'){H:Hp}(B:tV K (nB o o' f g h) E σ H Q):wE r r' (tV K f E) (tV K g E) (tV K h E) σ H Q:=by
 obtain⟨F,δ,β,fr,I,B⟩:=B;refine⟨F,δ,β,fr,I,(run.bind (R:=bt K F) B).mono λv H1 j=>pj j λd β1 t hd Z=>⟨F,δ,β1,t.fr,I.tr (t.tr fr),(run.bind (R:=bt K F) Z).mono λP H2 j=>pj j λd2 β2 m u r2=>?_⟩⟩;obtain⟨z,T,r3⟩:=run.ofO_bind r2;obtain⟨c,ec,A⟩:=run.ofO_bind r3;rw[ia ec]at T;refine l F H2 β2 _ d d2 _ v P m.fr (bt.tr (m.tr t.fr) _ _ hd) u T λvz U i hz=>⟨c,hz,?_⟩;cases c with
 |true=>
  rw[J8 rfl]at A;refine⟨F,δ,β2,i.fr,I.tr ((t.tr fr).trans ((m.tr t.fr).trans (i.tr m.fr))),?_⟩;have r5:run (bt K F) F E σ (M.bind (h δ) λw=>M.ofO (o' d2 w)) U Q β2:=by
   obtain⟨J,y,e,q⟩:=A;refine⟨J,y,e,?_⟩;cases J with
   |ok d=>exact λv L tt=>q v L (i.trans tt)
   |error C=>exact λL tt=>q L (i.trans tt)
  refine(run.bind (R:=bt K F) r5).mono λw H4 j=>pj j λdw N W O r6=>?_;obtain⟨d3,e3,k⟩:=run.ofO r6;exact Y F H4 N Q d2 dw d3 P w W.fr (bt.tr ((i.tr m.fr).trans (W.tr i.fr)) _ _ u) O e3 k
 |false=>
  rw[J6 J7]at A;obtain⟨J,y,e,q⟩:=A;cases e;exact q _ U i rfl
theorem sT{f g h:FD}(i:f_ X (Lp op) r)(d:f_ X (Lp op') r')(l:aV X.K r o)(j:aV X.K r' o')(ha:PE X a (tV X.K f E))(m:PE X b (tV X.K g E))(t:PE X c (tV X.K h E))(hm:Tf [op,op'] [b,c]=JZ:=by with_unfolding_all rfl):
  PT X (.Compare a [op,op'] [b,c] pos) (g8 X.K (fB (nB o o' f g h)) E):=(yZ i d ha m t hm).imp λu H Q q=>wD l j (lL q)
theorem DM{F:Fx}{H:Hp}{k:Bool}(h:yJ d=on k)(hd:bt K F H d v):BF K v H k:=by
 cases d with
 |non=>cases h;cases hd.non;rfl
 |bl b=>cases h;cases hd.bl;rfl
 |int i=>cases h;cases hd.int;rfl
 |lst xs=>
  cases h;obtain⟨a,ys,rfl,r,g⟩:=bt.sqL hd;refine .inl ⟨ys,r,?_⟩;have:=g.length;cases xs<;>cases ys<;>first|rfl|(simp at this)
 |tup xs=>
  cases h;obtain⟨a,ys,rfl,r,g⟩:=bt.sqT hd;refine .inr ⟨ys,r,?_⟩;have:=g.length;cases xs<;>cases ys<;>first|rfl|(simp at this)
 |_=>cases h
theorem pW{f:FD}(ha:PE X a (tV X.K f E))(j:∀g,isTrue a X.env g=(do let v <-g;O8 a.pos;P3 [v] (truthy v)):=by intro _;rfl):PT X a (g8 X.K (sf f) E):=
 (yY ha j).imp λo H Q i=>j1 i λF δ β fr l h=>⟨F,δ,β,fr,l,(run.bind (R:=bt X.K F) h).mono λv H1 i=>by
  obtain⟨d,β1,t,hd,m⟩:=i;obtain⟨k,e,q⟩:=run.ofO m;exact⟨k,DM e hd,q k H1 (To.refl t.fr) rfl⟩⟩
theorem uO{f:Dn->M Bool}(ha:PT X a (g8 X.K f E)):PT X (.UnaryOp .Not a pos) (g8 X.K (vP f) E):=
 (GU ha).imp λl H Q g=>j1 g λF δ β fr i h=>⟨F,δ,β,fr,i,(run.bind (R:=λ_ (a b:Bool)=>b=a) h).mono λv H1 g=>by
  obtain⟨d,β1,t,hd,j⟩:=g;subst hd;exact run.ret t.fr j rfl⟩
theorem DP{f g:Dn->M Bool}{H:Hp}(h:g8 K (jD f g) E σ H Q):Gp (g8 K f E) (g8 K g E) σ H Q:=by
 obtain⟨F,δ,β,fr,j,h⟩:=h;refine⟨F,δ,β,fr,j,(run.bind (R:=λ_ (a b:Bool)=>b=a) h).mono λv H1 l=>pj l λd β1 t hd i=>?_⟩;subst hd;cases v with
 |true=>rw[J8 rfl]at i⊢;exact⟨F,δ,β1,t.fr,j.tr (t.tr fr),i⟩
 |false=>rw[J6 J7]at i⊢;exact run.ret t.fr i rfl
theorem Gi{f g:Dn->M Bool}{H:Hp}(h:g8 K (oK f g) E σ H Q):WK (g8 K f E) (g8 K g E) σ H Q:=by
 obtain⟨F,δ,β,fr,j,h⟩:=h;refine⟨F,δ,β,fr,j,(run.bind (R:=λ_ (a b:Bool)=>b=a) h).mono λv H1 l=>pj l λd β1 t hd i=>?_⟩;subst hd;cases v with
 |false=>rw[J6 J7]at i⊢;exact⟨F,δ,β1,t.fr,j.tr (t.tr fr),i⟩
 |true=>rw[J8 rfl]at i⊢;exact run.ret t.fr i rfl
theorem wn{f:Dn->M Bool}(ha:PT X a (g8 X.K f E)):PW X (.BoolOp .And [a] pos) (g8 X.K f E):=EF ha
theorem pV{f:Dn->M Bool}(ha:PT X a (g8 X.K f E)):PW X (.BoolOp .Or [a] pos) (g8 X.K f E):=GR ha
theorem BT{f g:Dn->M Bool}(ha:PT X a (g8 X.K f E))(d:PW X (.BoolOp .And (b::rest) pos) (g8 X.K g E)):PW X (.BoolOp .And (a::b::rest) pos) (g8 X.K (jD f g) E):=(GS ha d).imp λ_ _ _=>DP
theorem uF{f g:Dn->M Bool}(ha:PT X a (g8 X.K f E))(d:PW X (.BoolOp .Or (b::rest) pos) (g8 X.K g E)):PW X (.BoolOp .Or (a::b::rest) pos) (g8 X.K (oK f g) E):=(I9 ha d).imp λ_ _ _=>Gi
theorem iR{e:Expr}{f:Dn->M Bool}(h:PW X e (g8 X.K f E)):PT X e (g8 X.K f E):=PW.pt h
theorem IN{op}{f:FD}(h:PE X a (tV X.K f E)):PE X (.BoolOp op [a] pos) (tV X.K f E):=G1 h
theorem run.asB{F:Fx}{k:Bool->M D}{H:Hp}(hd:bt K F H d v)(h:run (bt K F) F E σ (M.bind (M.ofO (asB d)) k) H Q β):∃c,v= .bl c/\run (bt K F) F E σ (k c) H Q β:=by
 obtain⟨c,e,h⟩:=run.ofO_bind h;rw[ia e]at hd;exact⟨c,hd,h⟩
theorem IO{f g:FD}(ha:PE X a (tV X.K f E))(m:PE X (.BoolOp .And (b::rest) pos) (tV X.K g E)):PE X (.BoolOp .And (a::b::rest) pos) (tV X.K (vQ f g) E):=
 (G3 ha m).imp λq H Q j=>j1 j λF δ β fr l h=>⟨F,δ,β,fr,l,(run.bind (R:=bt X.K F) h).mono λv H1 j=>by
  obtain⟨d,β1,t,hd,o⟩:=j;obtain⟨c,e,i⟩:=run.asB hd o;refine⟨c,e,?_⟩;cases c with
  |true=>rw[J8 rfl]at i⊢;exact⟨F,δ,β1,t.fr,l.tr (t.tr fr),i⟩
  |false=>rw[J6 J7]at i⊢;exact run.ret t.fr i rfl⟩
noncomputable def T0:D->Option String
 | .non=>on "NoneType"| .bl _=>on "bool"| .int _=>on "int"| .str _=>on "str"| .lst _=>on "list"| .tup _=>on "tuple"|_=>JT
noncomputable def vA:String->String->Option Bool
 |"int","str"=>on JZ|"int","bool"=>on JZ|"int","list"=>on JZ|"int","tuple"=>on JZ|"int","int"=>on JW
 |"bool","str"=>on JZ|"bool","bool"=>on JW|"bool","list"=>on JZ|"bool","tuple"=>on JZ
 |"str","str"=>on JW|"str","bool"=>on JZ|"str","list"=>on JZ|"str","tuple"=>on JZ
 |"NoneType","str"=>on JZ|"NoneType","bool"=>on JZ|"NoneType","list"=>on JZ|"NoneType","tuple"=>on JZ
 |"list","list"=>on JW|"list","tuple"=>on JZ|"list","str"=>on JZ|"list","bool"=>on JZ
 |"tuple","list"=>on JZ|"tuple","tuple"=>on JW|"tuple","str"=>on JZ|"tuple","bool"=>on JZ
 |_,_=>JT
noncomputable def vy:String->String->String->Option Bool
 |"int","list","tuple"=>on JZ|"bool","list","tuple"=>on JZ|"str","list","tuple"=>on JZ|"NoneType","list","tuple"=>on JZ|"list","list","tuple"=>on JW|"tuple","list","tuple"=>on JW
 |"int","int","str"=>on JW|"bool","int","str"=>on JW|"str","int","str"=>on JW|"NoneType","int","str"=>on JZ|"list","int","str"=>on JZ|"tuple","int","str"=>on JZ
 |_,_,_=>JT
theorem FH{a b:String}{c:Bool}(h:vA a b=on c):kitOne K (.type a) (.type b)=on c:=by
 unfold vA at h;split at h<;>first|(cases h;kernel_rfl)|cases h
theorem FG{a b d:String}{c:Bool}(h:vy a b d=on c):Tq K (.type a) ([b,d].map M1)=on c:=by
 unfold vy at h;split at h<;>first|(cases h;kernel_rfl)|cases h
def Ww(K:Kt)(H:Hp)(x:V)(t:J0):Prop:=n_ K H x t\/(∃a ys,x= .ref a/\e_ K H a ys/\t= .type "list")\/(∃a ys,x= .ref a/\hH K H a ys/\t= .type "tuple")
def CH(K:Kt):List V->Hp->VK->Prop:=λxs H Q=>∃x c t b,xs=[x,.ty c]/\Ww K H x t/\kitOne K t (.type c)=on b/\Q (.bl b) H
theorem yq:cI X (.builtin "isinstance") (CH X.K):=by
 intro m s w H xs us Q I r h;obtain⟨x,c,t,b,rfl,ty,e,q⟩:=h;cases r with
 |cons d g=>
  cases g with
  |cons g v=>
   cases v;cases g;rcases ty with ty|⟨a,ys,rfl,sq,rfl⟩|⟨a,ys,rfl,sq,rfl⟩
   .exact x4 I d ty e λu=>⟨.bl b,H,I.tok _,rfl,q⟩
   .cases d
    obtain⟨its,_,i,_⟩:=I.list sq;obtain⟨o,j,l,_⟩:=i.isList;exact Pt Qq I.kIn ⟨o,j,l⟩ e (λz=>nomatch z) λu=>⟨.bl b,H,I.tok _,rfl,q⟩
   .cases d
    obtain⟨its,_,i,_⟩:=I.tuple sq;obtain⟨o,j,l,_⟩:=i;exact Pt R3 I.kIn ⟨o,j,l⟩ e (λz=>nomatch z) λu=>⟨.bl b,H,I.tok _,rfl,q⟩
theorem wv{F:Fx}{H:Hp}(h:T0 d=on t)(hd:bt K F H d v):Ww K H v (.type t):=by
 cases d with
 |non=>cases h;cases hd.non;exact .inl .non
 |bl b=>cases h;cases hd.bl;exact .inl (.bl b)
 |int b=>cases h;cases hd.int;exact .inl (.int b)
 |str b=>cases h;cases hd.str;exact .inl (.str b)
 |lst ds=>cases h;obtain⟨a,xs,rfl,sq,_⟩:=bt.sqL hd;exact .inr (.inl ⟨a,xs,rfl,sq,rfl⟩)
 |tup ds=>cases h;obtain⟨a,xs,rfl,sq,_⟩:=bt.sqT hd;exact .inr (.inr ⟨a,xs,rfl,sq,rfl⟩)
 |_=>cases h
def g9:List D->Option D
 |[x,.ty c]=>(T0 x).bind λt=>(vA t c).map D.bl
 |_=>JT
theorem Jx:da K (CH K) g9:=λF H β Q ds d vs fr h e k=>by
 unfold g9 at e;split at e
 .rename_i x c
  cases q:T0 x with
  |none=>rw[q]at e;cases e
  |some t=>
   rw[q]at e;simp only[MQ]at e;cases q2:vA t c with
   |none=>rw[q2]at e;cases e
   |some b=>
    rw[q2]at e;cases e;obtain⟨v,w,rfl,g,i⟩:=aj.two h;cases i.ty;exact⟨v,c,_,b,rfl,wv q g,FH q2,k _ H (To.refl fr) rfl⟩
 .cases e
def xf(K:Kt):List V->Hp->VK->Prop:=λxs H Q=>∃(x:V) (d:JY) (cs:List String) (t:J0) (b:Bool),xs=[x,.ref d]/\hH K H d (cs.map V.ty)/\Ww K H x t/\Tq K t (cs.map M1)=on b/\Q (.bl b) H
theorem nN:cI X (.builtin "isinstance") (xf X.K):=by
 intro u s T H xs us Q I r h;obtain⟨x,tp,cs,t,b,rfl,B,ty,e,q⟩:=h;cases r with
 |cons g L=>
  cases L with
  |cons L U=>
   cases U;cases L;obtain⟨its,W,⟨⟨oc,Y,Z,osl⟩,j,v,n,l⟩,_⟩:=I.tuple B;rw[wt W]at l
   dsimp only at v l
   subst v l;have d:∀R,EP X u T Q (.bool b) {s with toks:=R}:=λR=>⟨.bl b,H,I.tok _,rfl,q⟩;rcases ty with ty|⟨a,ys,rfl,sq,rfl⟩|⟨a,ys,rfl,sq,rfl⟩
   .cases ty with
    |non=>cases g;exact Pw Sj I.kIn Oc j e (λz=>nomatch z) d
    |bl y=>cases g;exact Pw Si I.kIn Oc j e (λz=>nomatch z) d
    |int i=>obtain⟨t,rfl⟩:=g;exact Pw SD I.kIn Oc j e (λz=>nomatch z) d
    |str y=>obtain⟨t,rfl⟩:=g;exact Pw SF I.kIn Oc j e (λz=>nomatch z) d
    |@lst a xs ea=>
     cases g;obtain⟨_,_,n,_,A⟩:=(show bC X.prog X.w H s.heap a (.lst xs)from I.hok a _ ea);exact Pw Qq I.kIn ⟨_,A,rfl⟩ j e (λz=>nomatch z) d
    |@frz a ob xs ea=>
     cases g;obtain⟨_,_,_,n,_,A⟩:=(show bC X.prog X.w H s.heap a (.frz ob (.lst xs))from I.hok a _ ea);exact Pw Qq I.kIn ⟨_,A,rfl⟩ j e (λz=>nomatch z) d
    |@tup a xs ea=>
     cases g;obtain⟨_,_,_,p⟩:=(show bC X.prog X.w H s.heap a (.tup xs)from I.hok a _ ea);obtain⟨o,A,h2,_⟩:=p;exact Pw R3 I.kIn ⟨o,A,h2⟩ j e (λz=>nomatch z) d
    |@ins a C dx fs ea cl ha hn htk hm=>
     cases g;obtain⟨mA,O,_⟩:=t7 I.hok ea;obtain⟨Y,J,_⟩:=O.look;exact Pw (SE (cl.get _) cl.hd ha hn htk hm) I.kIn J j e (λz=>nomatch z) d
   .cases g
    obtain⟨its,_,N,_⟩:=I.list sq;obtain⟨o,m,P,_⟩:=N.isList;exact Pw Qq I.kIn ⟨o,m,P⟩ j e (λz=>nomatch z) d
   .cases g
    obtain⟨its,_,N,_⟩:=I.tuple sq;obtain⟨o,m,P,_⟩:=N;exact Pw R3 I.kIn ⟨o,m,P⟩ j e (λz=>nomatch z) d
def qe:List D->Option D
 |[x,.tup [.ty a,.ty b]]=>(T0 x).bind λt=>(vy t a b).map D.bl
 |_=>JT
theorem xU:da K (xf K) qe:=λF H β Q ds d vs fr h e k=>by
 unfold qe at e;split at e
 .rename_i x a b
  cases q:T0 x with
  |none=>rw[q]at e;cases e
  |some t=>
   rw[q]at e;simp only[MQ]at e;cases q2:vy t a b with
   |none=>rw[q2]at e;cases e
   |some c=>
    rw[q2]at e;cases e;obtain⟨v,w,rfl,g,i⟩:=aj.two h;obtain⟨p,xs,rfl,sq,j⟩:=bt.sqT i;obtain⟨y,z,rfl,l,m⟩:=aj.two j;cases l.ty;cases m.ty;exact⟨v,p,[a,b],_,c,rfl,sq,wv q g,FG q2,k _ H (To.refl fr) rfl⟩
 .cases e
def s9(K:Kt)(J:It)(F:Fx)(H:Hp)(ds:List D):Prop:=∀(h:Fx) (g:Hp) (β2:Bg),Tr F H h g->Fr h g β2->∀i,(∀d,ds[i]?=on d->J.go i g/\∀x j,J.yld i g x j->bH g j/\bt K h j d x)/\(i=ds.length->J.stop i g)
theorem s9.tr{K:Kt}{F g:Fx}{H i:Hp}(t:Tr F H g i)(h:s9 K J F H ds):s9 K J g i ds:=λj l d m fr=>h j l d (t.trans m) fr
def iV(K:Kt)(f:FL)(E:St->XK):TI:=λd H R=>∃F δ β,Fr F H β/\hU K F H δ d/\run (λg (ds:List D) (J:It)=>s9 K J F g ds) F E d (f δ) H R β
theorem _root_.L2.PI.imp{X:Cx}{tg e:Expr}(h:PI X tg e t)(f:∀d H Q,t' d H Q->t d H Q):PI X tg e t':=λg s d H Q I q=>h g s d H Q I (f d H Q q)
variable{tg:Expr}
def Hw(K:Kt)(d:TE):TI:=λg H R=>d g H λx H1=>(∃a,x= .ref a/\(∃xs,e_ K H1 a xs)/\R (Ug K a) H1)\/(∃a,x= .ref a/\(∃xs,hH K H1 a xs)/\R (WC K a) H1)
theorem xl(t:PE X l tl):PI X tg l (Hw X.K tl):=by
 intro g s u H R I h;refine d_ (t g s u H _ I h) λv d ⟨x,H1,i,r,q1⟩=>?_;have j:∀b∈[d.heap.objs.size],eA X g H1 b:=λb w=>by
  obtain rfl:b=d.heap.objs.size:=by simpa using w
  exact i.fpOk (J3 _) (i.hok.fresh (J3 _))
 rcases q1 with⟨a,e,⟨xs,m⟩,q⟩|⟨a,e,⟨xs,m⟩,q⟩
 .subst e
  cases r;obtain⟨its,y,p,A⟩:=i.list m;exact Px p.isList ⟨d.heap.objs.size,[d.heap.objs.size],_,_,H1,rfl,i.kept (t':=d.toks) λb o e=>JV _ e,o3 a _,⟨_,Kf _ rfl,rfl,rfl⟩,j,q⟩
 .subst e
  cases r;obtain⟨its,y,p,A⟩:=i.tuple m;exact QH (show d.heap.IsTuple a its.toArray from p) ⟨d.heap.objs.size,[d.heap.objs.size],_,_,H1,rfl,i.kept (t':=d.toks) λb o e=>JV _ e,uL a _,⟨_,Kf _ rfl,rfl,rfl⟩,j,q⟩
theorem rS{F:Fx}{H:Hp}{a:JY}(h:bt K F H (.lst ds) (.ref a)):s9 K (Ug K a) F H ds:=λu v β2 t fr i=>by
 have o:=bt.tr t _ _ h;obtain⟨w,xs,e,sq,g⟩:=bt.sqL o;cases e;refine⟨λd hd=>?_,λq=>⟨xs,sq,by rw[<-g.length,q];exact J3 _⟩⟩;obtain⟨x,r,_⟩:=g.get hd;refine⟨⟨xs,x,sq,r⟩,λy A j=>?_⟩;obtain⟨rfl,j⟩:=j;obtain⟨d',m,l⟩:=g.getV (j xs sq);rw[hd]at m;cases m;exact⟨bH.refl _,l⟩
theorem tY{F:Fx}{H:Hp}{a:JY}(h:bt K F H (.tup ds) (.ref a)):s9 K (WC K a) F H ds:=λu v β2 t fr i=>by
 have o:=bt.tr t _ _ h;obtain⟨w,xs,e,sq,g⟩:=bt.sqT o;cases e;refine⟨λd hd=>?_,λq=>⟨xs,sq,by rw[<-g.length,q];exact J3 _⟩⟩;obtain⟨x,r,_⟩:=g.get hd;refine⟨⟨xs,x,sq,r⟩,λy A j=>?_⟩;obtain⟨rfl,j⟩:=j;obtain⟨d',m,l⟩:=g.getV (j xs sq);rw[hd]at m;cases m;exact⟨bH.refl _,l⟩
def fA(f:FD):FL:=λδ=>M.bind (f δ) λd=>M.ofO (c5 d)
theorem aU{f:FD}(i:PE X l (tV X.K f E)):PI X tg l (iV X.K (fA f) E):=
 (xl i).imp λq H R g=>j1 g λF δ β fr j h=>⟨F,δ,β,fr,j,(run.bind (R:=bt X.K F) h).mono λv H1 g=>by
  obtain⟨d,β1,t,hd,m⟩:=g;obtain⟨ds,e,k⟩:=run.ofO m;cases d<;>first
   |(cases e;obtain⟨a,xs,rfl,sq,o⟩:=bt.sqL hd;exact .inl ⟨a,rfl,⟨xs,sq⟩,k _ H1 (To.refl t.fr) (rS hd)⟩)
   |(cases e;obtain⟨a,xs,rfl,sq,o⟩:=bt.sqT hd;exact .inr ⟨a,rfl,⟨xs,sq⟩,k _ H1 (To.refl t.fr) (tY hd)⟩)
   |cases e⟩
noncomputable def bn(lo:Int)(n:Nat):List D:=(Ka n).map λ(i:Nat)=> .int (lo+(i:Int))
theorem pB{F:Fx}{H:Hp}{lo:Int}{n:Nat}:s9 K (Uf lo n) F H (bn lo n):=λl m β2 t fr i=>by
 refine⟨λd hd=>?_,λg=>?_⟩
 .unfold bn at hd
  have g:i<n:=by
   have:=(Kc.mp hd).1;simpa using this
  rw[J9,Li g]at hd;cases hd;exact⟨g,λx o ⟨h,j⟩=>by subst h j;exact⟨bH.refl _,rfl⟩⟩
 .show n<=i
  rw[g];simp[bn]
def ji:List D->Option (List D)
 |[.int j]=>if(decide (-(2^62)<=j)&&decide (j<2^62))=JW then on (bn 0 j.toNat)else JT
 |_=>JT
def lR:List D->Option (List D)
 |[.int i,.int j]=>if(decide (-(2^62)<=i)&&decide (i<2^62)&&decide (-(2^62)<=j)&&decide (j<2^62))=JW then on (bn i (j-i).toNat)else JT
 |_=>JT
def dF(op:List D->Option (List D))(g:FL):FL:=λδ=>M.bind (g δ) λas=>M.ofO (op as)
theorem dy{a:Expr}{p pos:OH}(j:Gl X "range")(hm:X.mg "range"=JT)(ha:PA X [a] (hW X.K g E))(hs:Kj [a] X.env=[(JZ,LC a X.env)]:=by rfl):PI X tg (.Call (.Name "range" p) [a] [] pos) (iV X.K (dF ji g) E):=
 (xq j hm ha hs).imp λr H R d=>j1 d λF δ β fr m h=>⟨F,δ,β,fr,m,(run.bind (R:=aj X.K F) h).mono λvs H1 d=>by
  obtain⟨ds,β1,t,hd,o⟩:=d;obtain⟨l,e,k⟩:=run.ofO o;unfold ji at e;split at e
  .split at e
   .rename_i i
    cases e;simp only[Kz,KV]at i;obtain⟨v,rfl,q⟩:=aj.one hd;cases q.int;exact⟨_,rfl,i.1,i.2,k _ H1 (To.refl t.fr) pB⟩
   .cases e
  .cases e⟩
theorem jz{a b:Expr}{p pos:OH}(m:Gl X "range")(hm:X.mg "range"=JT)(ha:PA X [a,b] (hW X.K g E))(hs:Kj [a,b] X.env=[(JZ,LC a X.env),(JZ,LC b X.env)]:=by rfl)(i:Kj [b] X.env=[(JZ,LC b X.env)]:=by rfl):PI X tg (.Call (.Name "range" p) [a,b] [] pos) (iV X.K (dF lR g) E):=
 (xp m hm ha hs i).imp λy H R j=>j1 j λF δ β fr o h=>⟨F,δ,β,fr,o,(run.bind (R:=aj X.K F) h).mono λvs H1 j=>by
  obtain⟨ds,β1,t,hd,q⟩:=j;obtain⟨l,e,k⟩:=run.ofO q;unfold lR at e;split at e
  .split at e
   .rename_i d
    cases e;simp only[Kz,KV]at d;obtain⟨v,w,rfl,r,u⟩:=aj.two hd;cases r.int;cases u.int;exact⟨_,_,rfl,⟨d.1.1.1,d.1.1.2,d.1.2,d.2⟩,k _ H1 (To.refl t.fr) pB⟩
   .cases e
  .cases e⟩
abbrev l0:=D->Dn->Option Dn
abbrev ib:=List D->Dn->Option Dn
def cz(K:Kt)(g:TG)(tg:l0):Prop:=∀(F:Fx) (H:Hp) (δ h:Dn) (j:St) (d:D) (v:V) (Q:St->Hp->Prop),hU K F H δ j->bt K F H d v->tg d δ=on h->(∀i,hU K F H h i->Q i H)->g v j H Q
def nX(K:Kt)(g:I_)(tg:ib):Prop:=∀(F:Fx) (H:Hp) (δ d:Dn) (i:St) (ds:List D) (vs:List V) (Q:St->Hp->Prop),hU K F H δ i->aj K F H ds vs->tg ds δ=on d->(∀h,hU K F H d h->Q h H)->g vs i H Q
noncomputable def jn(i:Nat):l0:=λd δ=>if(δ.getD i (on .non)).isNone then on (δ.set i (on d))else JT
noncomputable def jP:ib:=λds δ=>match ds with
 |[]=>on δ
 |_=>JT
noncomputable def fP(t:l0)(u:ib):ib:=λds δ=>match ds with
 |[]=>JT
 |d::r=>(t d δ).bind λg=>u r g
noncomputable def N_(t:ib):l0:=λd δ=>match d with
 | .tup ds=>t ds δ
 |_=>JT
theorem qF{δ g:Dn}(h:jn i d δ=on g):δ[i]?=on JT/\g=δ.set i (on d):=by
 unfold jn at h;split at h
 .rename_i q
  cases h;refine⟨?_,rfl⟩;rw[Kd]at q;cases e:δ[i]? with
  |none=>rw[e]at q;cases q
  |some z=>
   rw[e]at q;cases z with
   |none=>rfl
   |some w=>cases q
 .cases h
theorem ao:cz K (c9 i) (jn i):=λF H δ g j d v Q h hd e k=>by
 obtain⟨_,rfl⟩:=qF e;exact k _ (h.set hd)
theorem cw:nX K gNil jP:=λF H δ d h ds vs Q g hd e k=>by
 cases ds with
 |nil=>cases e;exact⟨hd,k _ g⟩
 |cons _ _=>cases e
theorem aN(o:cz K t tf)(v:nX K u uf):nX K (vI t u) (fP tf uf):=λF H δ g w ds vs Q y hd e k=>by
 cases ds with
 |nil=>cases e
 |cons d r=>
  obtain⟨x,m,rfl,A,B⟩:=hd;have i:(tf d δ).bind (λg=>uf r g)=on g:=e;cases q:tf d δ with
  |none=>rw[q]at i;cases i
  |some h=>
   rw[q]at i;exact⟨x,m,rfl,o F H δ h w d x _ y A q λj l=>v F H h g j r m Q l B i k⟩
theorem cX{n:Nat}(h:nX K t tf)(hn:∀ds δ g,tf ds δ=on g->ds.length=n):cz K (zL K n t) (N_ tf):=λF H δ g j d v Q l hd e k=>by
 cases d<;>first
  |(obtain⟨a,xs,rfl,sq,i⟩:=bt.sqT hd;exact⟨a,xs,rfl,sq,by rw[<-i.length];exact hn _ _ _ e,h F H δ g j _ xs Q l i e k⟩)
  |cases e
theorem bN:∀ds δ d,jP ds δ=on d->ds.length=0:=λds δ d h=>by
 cases ds with
 |nil=>rfl
 |cons _ _=>cases h
theorem aL{n:Nat}(h:∀ds δ g,u ds δ=on g->ds.length=n):∀ds δ g,fP t u ds δ=on g->ds.length=n+1:=λds δ g e=>by
 cases ds with
 |nil=>cases e
 |cons d r=>
  have i:(t d δ).bind (λg=>u r g)=on g:=e;cases q:t d δ with
  |none=>rw[q]at i;cases i
  |some j=>rw[q]at i;rw[Kq,h _ _ _ i]
def dg(tg:l0):Prop:=∀d δ g,tg d δ=on g->Sub δ g/\δ.length=g.length
def qr(tg:ib):Prop:=∀d δ g,tg d δ=on g->Sub δ g/\δ.length=g.length
theorem au:dg (jn i):=λd δ h e=>by
 obtain⟨q,rfl⟩:=qF e;refine⟨λj c g=>?_,by rw[KO]⟩;rw[LV];by_cases z:i=j
 .subst z;rw[q]at g;cases g
 .rw[J6 z];exact g
theorem cu:qr jP:=λds δ d e=>by
 cases ds with
 |nil=>cases e;exact⟨λ_ _ h=>h,rfl⟩
 |cons _ _=>cases e
theorem aM(l:dg t)(m:qr u):qr (fP t u):=λds δ g e=>by
 cases ds with
 |nil=>cases e
 |cons d r=>
  have j:(t d δ).bind (λg=>u r g)=on g:=e;cases q:t d δ with
  |none=>rw[q]at j;cases j
  |some o=>
   rw[q]at j;obtain⟨a1,a2⟩:=l _ _ _ q;obtain⟨b1,b2⟩:=m _ _ _ j;exact⟨λi c h=>b1 i c (a1 i c h),a2.trans b2⟩
theorem cW(h:qr t):dg (N_ t):=λd δ g e=>by
 cases d<;>first|exact h _ _ _ e|cases e
structure m_ (F:Fx) (D:JY) (H H':Hp) (β':Bg):Prop where
 kp:∀a o,H a=on o->a≠D->(∀b l,F.bg=on (b,l)->a≠b/\a≠l)->H' a=on o
 fr:Fr F H' β'
theorem m_.trans{F:Fx}{D:JY}{H H1 d:Hp}(a:m_ F D H H1 β1)(b:m_ F D H1 d β2):m_ F D H d β2:=⟨λx o h n m=>b.kp x o (a.kp x o h n m) n m,b.fr⟩
theorem To.toD{F:Fx}{H d:Hp}(t:To F H d β')(D:JY):m_ F D H d β':=⟨λa o h _ m=>t.kp a o h m,t.fr⟩
theorem m_.tr{F:Fx}{D:JY}{H d:Hp}(fr:Fr F H β)(g:F.A D)(t:m_ F D H d β'):Tr F H F d:=
 ⟨λ_ h _=>h,λa o h e=>t.kp a o e (λz=>h (z▸g)) λb l q=>⟨λz=>h (z▸(fr.bgA b l q).1),λz=>h (z▸(fr.bgA b l q).2.1)⟩,rfl⟩
structure AR where
 R:Fx->Hp->JY->List Pu.D->Prop
 Z:List Pu.D->Prop
 tr:∀{F F2:Fx} {H H':Hp} {D:JY} {as:List Pu.D},R F H D as->(∀o,H D=on o->H' D=on o)->Tr F H F2 H'->R F2 H' D as
 zp:∀{as os:List Pu.D},Z (as++os)->Z as
noncomputable def RL(K:Kt):AR where
 R:=λF H D as=>∃acc,H D=on (.lst acc)/\aj K F H as acc
 Z:=λl=>l.length<=Ki
 tr:=λh k t=>by
  obtain⟨acc,d,g⟩:=h;exact⟨acc,k _ d,aj.tr t _ _ g⟩
 zp:=λh=>by rw[Kg]at h;omega
def dO(K:Kt)(R:AR)(D:JY)(i:TB)(f:Dn->M (List Pu.D)):Prop:=∀(F:Fx) (H:Hp) (δ:Dn) (β d:Bg) (h:St) (as os:List Pu.D) (Q:St->Hp->Prop),Fr F H β->F.A D->(∀b l,F.bg=on (b,l)->D≠b/\D≠l)->hU K F H δ h->R.R F H D as->
 f δ β=on (.ok os,d)->R.Z (as++os)->(∀g H1,m_ F D H H1 d->hU K F H1 δ g->R.R F H1 D (as++os)->Q g H1)->i h H Q
abbrev iF(K:Kt):=dO K (RL K)
def nS(f:Dn->M Pu.D):Dn->M (List Pu.D):=λδ=>M.bind (f δ) λd=>M.ret [d]
theorem M.bind_inv{α g:Type}{m:M α}{k:α->M g}{β d:Bg}{r:g}(h:M.bind m k β=on (.ok r,d)):∃a β1,m β=on (.ok a,β1)/\k a β1=on (.ok r,d):=by
 unfold M.bind at h;split at h
 .cases h
 .cases h
 .rename_i a β1 e
  exact⟨a,β1,e,h⟩
theorem E0.run{α i:Type}{R:Hp->α->i->Prop}{F:Fx}{j:St}{m:M α}{H:Hp}{Q:i->Hp->Prop}{β d:Bg}{a:α}(e:m β=on (.ok a,d))(h:∀v g,To F H g d->R g a v->Q v g):run R F E0 j m H Q β:=⟨.ok a,d,e,h⟩
theorem aY{D:JY}{f:Dn->M Pu.D}:iF K D (vY D (tV K f E0)) (nS f):=λF H δ β g u as os Q fr w i m y e A k=>by
 obtain⟨acc,B,hd⟩:=y;obtain⟨d,β1,C,I⟩:=M.bind_inv e;cases I;refine⟨F,δ,β,fr,m,E0.run C λv H1 t J=>?_⟩;have j:=t.kp D _ B i;have L:=aj.tr (t.tr fr) _ _ hd;refine⟨acc,j,by rw[<-hd.length];have:=(show(as++[d]).length<=Ki from A);simp at this;omega,?_⟩;have r:m_ F D H1 (upd H1 D (.lst (acc++[v]))) g:=by
  refine⟨λa o h n _=>by rw[a_ n];exact h,λa h q=>?_,fr.bgA,λb l q=>?_⟩
  .by_cases z:a=D
   .subst z;rw[af]at q;cases q
   .rw[a_ z]at q;exact t.fr.occ a h q
  .rw[a_ (i b l q).1.symm,a_ (i b l q).2.symm]
   exact t.fr.bag b l q
 have tt:=r.tr t.fr w;exact k u _ ((t.toD D).trans r) (m.tr ((t.tr fr).trans tt)) ⟨_,af,aj.append (aj.tr tt _ _ L) ⟨v,[],rfl,bt.tr tt _ _ J,rfl⟩⟩
def nw(tg:l0)(tt:Dn->M Bool)(b:Dn->M (List Pu.D)):List Pu.D->Dn->M (List Pu.D)
 |[],_=>M.ret []
 |d::ds,δ=>match tg d δ with
  |none=>M.fail
  |some g=>M.bind (tt g) λc=>M.bind (if c=JW then b g else M.ret []) λo=>M.bind (nw tg tt b ds δ) λos=>M.ret (o++os)
theorem k7{R:AR}{D:JY}{tg:l0}{b:Dn->M (List Pu.D)}(hg:cz K g tg)(sg:dg tg)(hb:dO K R D tb b){F:Fx}{H:Hp}{as os ds:List Pu.D}(fr:Fr F H β)(hA:F.A D)(hn:∀b l,F.bg=on (b,l)->D≠b/\D≠l)(vk:hU K F H δ σ)(hR:R.R F H D as)
  (it:s9 K J F H ds) (e:nw tg tt b ds δ β=on (.ok os,β')) (hz:R.Z (as++os)) (k:∀j H1,m_ F D H H1 β'->hU K F H1 δ j->R.R F H1 D (as++os)->Q j H1):cP J g (g8 K tt E0) tb σ H Q:=by
 refine⟨λi m j H1=>m+i=ds.length/\∃β1 r u,m_ F D H H1 β1/\hU K F H1 δ j/\R.R F H1 D r/\nw tg tt b (ds.drop i) δ β1=on (.ok u,β')/\r++u=as++os,
  ⟨ds.length,by omega,β,as,os,⟨λ_ _ h _ _=>h,fr⟩,vk,hR,e,rfl⟩,?_⟩
 rintro i m j H1 ⟨hm,β1,r,u,C,I,L,t,ea⟩;have tr1:=C.tr fr hA;obtain⟨iy,is⟩:=it F H1 β1 tr1 C.fr i;cases U:ds[i]? with
 |none=>
  have W:ds.length<=i:=OY.mp U;rw[M2 W]at t;cases t;refine .inl ⟨is (by omega),k j H1 C I ?_⟩;rw[<-ea,KW];exact L
 |some d=>
  have W:i<ds.length:=(Kc.mp U).1;obtain⟨go,yl⟩:=iy d U;have ed:ds.drop i=d::ds.drop (i+1):=by
   rw[Ls W];congr 1;exact KE ((JX W).symm.trans U)
  rw[ed]at t;unfold nw at t;cases q:tg d δ with
  |none=>rw[q]at t;cases t
  |some v=>
   rw[q]at t;obtain⟨c,β2,e2,e3⟩:=M.bind_inv t;obtain⟨o,w,Y,e5⟩:=M.bind_inv e3;obtain⟨os2,β4,e6,e7⟩:=M.bind_inv e5;cases e7;obtain⟨s1,s2⟩:=sg _ _ _ q;refine .inr ⟨go,λN H9=>m_ F D H H9 w/\hU K F H9 δ N/\R.R F H9 D (r++o),?_,λx H2 hy=>?_⟩
   .rintro N H9 ⟨t9,vk9,hR9⟩
    exact⟨m-1,by omega,by omega,w,r++o,os2,t9,vk9,hR9,e6,by rw[Lg];exact ea⟩
   .obtain⟨sm,dx⟩:=yl x H2 hy
    have t2:To F H1 H2 β1:=C.fr.same sm;have O:=t2.tr C.fr;refine hg F H2 δ v j d x _ (I.tr O) dx q λσ2 y=>⟨F,v,β1,t2.fr,y,E0.run e2 λc' H3 t3 ec=>?_⟩;subst ec;have B:=t3.tr t2.fr;have P:=R.tr L (λo z=>t3.kp D o (sm _ _ z) hn) (O.trans B);have T:m_ F D H H3 β2:=C.trans ((t2.trans t3).toD D);have hle:R.Z (r++o):=by
     rw[<-ea,<-Lg]at hz;exact R.zp hz
    cases c' with
    |true=>
     rw[J8 rfl]at Y⊢;refine hb F H3 v β2 w σ2 r o _ t3.fr hA hn (y.tr B) P Y hle λσ4 H4 t4 vk4 hR4=>?_;exact⟨T.trans t4,vk4.sub s1 s2,hR4⟩
    |false=>
     rw[J6 J7]at Y⊢;cases Y;exact⟨T,(y.tr B).sub s1 s2,by rw[KW];exact P⟩
def TW(it:Dn->M (List Pu.D))(tg:l0)(tt:Dn->M Bool)(b:Dn->M (List Pu.D)):Dn->M (List Pu.D):=λδ=>M.bind (it δ) λds=>nw tg tt b ds δ
theorem l5{D:JY}{tg:l0}{b:Dn->M (List Pu.D)}(i:cz K g tg)(j:dg tg)(l:dO K R D tb b):dO K R D (vX (iV K it E0) λJ=>cP J g (g8 K tt E0) tb) (TW it tg tt b):=λF H δ β m B as os Q fr q hn h r e u k=>by
 obtain⟨ds,β1,v,w⟩:=M.bind_inv e;refine⟨F,δ,β,fr,h,E0.run v λJ H1 t y=>?_⟩;exact k7 i j l t.fr q hn (h.tr (t.tr fr)) (R.tr r (λo z=>t.kp D o z hn) (t.tr fr)) y w u λd H1 A=>k d H1 ((t.toD D).trans A)
theorem FF{D:JY}{tg:l0}{b:Dn->M (List Pu.D)}(d:cz K g tg)(h:dg tg)(i:iF K D tb b):iF K D (vX (iV K it E0) λJ=>cP J g (g8 K tt E0) tb) (TW it tg tt b):=l5 d h i
noncomputable def lg(nv:Nat)(b_:List Nat)(δ:Dn):Dn:=Ks nv JT++b_.map λj=>δ.getD j JT
def d6(nv:Nat)(b_:List Nat)(it:Dn->M (List Pu.D))(tg:l0)(tt:Dn->M Bool)(b:Dn->M (List Pu.D)):Dn->M Pu.D:=λδ β=>match it δ β with
 |none=>JT
 |some (.error C,β1)=>on (.error C,β1)
 |some (.ok ds,β1)=>match nw tg tt b ds (lg nv b_ δ) β1 with
  |some (.ok os,β2)=>if os.length<=Ki then on (.ok (.lst os),β2)else JT
  |_=>JT
theorem nP{F:Fx}{H:Hp}{cy:List K2}(h:hU K F H δ σ):hU K F H (lg cy.length b_ δ) (jc cy b_ σ):=by
 refine⟨by simp[lg,jc],λi d e=>?_⟩;unfold lg at e;unfold jc;rw[PV]at e⊢;rw[LX]at e⊢;by_cases g:i<cy.length
 .rw[J8 g,MT,J8 g]at e
  cases e
 .rw[J6 g,J9]at e⊢
  cases q:b_[i-cy.length]? with
  |none=>rw[q]at e;cases e
  |some j=>
   rw[q]at e;simp only[Md,Ro]at e⊢;rw[Kd]at e;cases z:δ[j]? with
   |none=>rw[z]at e;cases e
   |some w=>
    rw[z]at e;have l:w=on d:=e;subst l;obtain⟨v,m,o⟩:=h.tell j d z;exact⟨v,by rw[Kd,m];rfl,o⟩
theorem qG{cy:List K2}{b_:List Nat}{it:Dn->M (List Pu.D)}{g:TG}{tg:l0}{tt:Dn->M Bool}{O:JY->TB}{b:Dn->M (List Pu.D)}(Y:cz K g tg)(Z:dg tg)(hb:∀D,iF K D (O D) b){P:St}{H:Hp}{Q:VK}(h:tV K (d6 cy.length b_ it tg tt b) E P H Q):
  mE cy b_ (iV K it E) (λD J=>cP J g (g8 K tt E0) (O D)) P H Q:=by
 obtain⟨F,δ,β,fr,T,r,u,e,h⟩:=h;unfold d6 at e;refine⟨F,δ,β,fr,T,?_⟩;split at e
 .cases e
 .rename_i C β1 q
  cases e;exact⟨.error C,_,q,h⟩
 .rename_i ds β1 q
  split at e
  .rename_i os β2 q2
   split at e
   .rename_i hz
    cases e;refine⟨.ok ds,β1,q,λJ H1 t hJ D i=>?_⟩;have d:¬F.A D:=t.fr.fresh i;have nb:∀b l,F.bg=on (b,l)->D≠b/\D≠l:=λb l z=>⟨λw=>d (w▸(fr.bgA b l z).1),λw=>d (w▸(fr.bgA b l z).2.1)⟩;have U:=t.fr.upd (.lst []) i;have v:Fr ⟨λa=>F.A a\/a=D,F.bg⟩ (upd H1 D (.lst [])) β1:=by
     refine⟨λa ha z=>?_,λb l z=>let ⟨x,y,w⟩:=fr.bgA b l z;⟨.inl x,.inl y,w⟩,U.fr.bag⟩
     rcases ha with ha|ha
     .exact U.fr.occ a ha z
     .subst ha;rw[af]at z;cases z
    have j:Tr F H1 ⟨λa=>F.A a\/a=D,F.bg⟩ (upd H1 D (.lst [])):=⟨λa ha hs z=>by
     rcases z with z|z
     .exact ha z
     .subst z;exact hs i,λa o ha z=>by rw[a_ (aC z i)];exact z,rfl⟩
    refine k7 (R:=RL K) (D:=D) (as:=[]) (os:=os) Y Z (hb D) v (.inr rfl) nb (nP (T.tr ((t.tr fr).trans j))) ⟨[],af,rfl⟩ (hJ.tr j) q2 (show os.length<=Ki from hz) λσ1 W B vk3 I=>?_;obtain⟨m,L,N⟩:=I;have tf:To F H1 W u:=by
     refine⟨λa o z n=>B.kp a o (by rw[a_ (aC z i)];exact z) (aC z i) n,λa ha z=>B.fr.occ a (Mn ha) z,fr.bgA,B.fr.bag⟩
    refine h _ W (t.trans tf) ⟨D,m,rfl,⟨d,.inl L⟩,aj.tr (F:=⟨λa=>F.A a\/a=D,F.bg⟩) ⟨λa ha _ z=>ha (Mn z),λa o _ z=>z,rfl⟩ _ _ N⟩
   .cases e
  .cases e
inductive Sl where
 |sh (d:D)|own (ds:List D)|grd (ba:List (List D))|odc (b:Bool) (ks:List d4) (vs:List D)
abbrev Ds:=List (Option Sl)
inductive nj where
 |nx (δ:Ds)|rt (d:D)|bk (δ:Ds)|ct (δ:Ds)|ex (C:JY) (δ:Ds)|rg (ba:List (List D))
abbrev G:=Ds->Bg->Option (nj×Bg)
abbrev Ow:=JY->Option Nat
noncomputable def d5(B:Ow)(bg:Option (JY×JY)):Fx:=⟨λa=>B a≠JT,bg⟩
noncomputable def ko(B:Ow)(bg:Option (JY×JY)):Fx:=⟨λa=>B a=on 0\/B a=on 1,bg⟩
def aG(K:Kt)(F:Fx)(H:Hp)(P:JY->Prop):List (List D)->List JY->Prop
 |[],[]=>True
 |ds::ba,r::rs=>P r/\(∃xs,H r=on (.lst xs)/\aj K F H ds xs)/\aG K F H P ba rs
 |_,_=>False
theorem aG.tr{K:Kt}{F i:Fx}{H d:Hp}(t:Tr F H i d):∀{ba:List (List D)} {rs:List JY},aG K F H P ba rs->(∀r xs,r∈rs->P r->H r=on (.lst xs)->P2 r/\d r=on (.lst xs))->aG K i d P2 ba rs
 |[],[],_,_=>trivial
 |ds::ba,r::rs,h,f=>by
  obtain⟨j,⟨xs,l,m⟩,o⟩:=h;obtain⟨p,q⟩:=f r xs J2 j l;exact⟨p,⟨xs,q,aj.tr t _ _ m⟩,aG.tr t o λu g v=>f u g (J1 _ v)⟩
 |[],_::_,h,_=>h.elim
 |_::_,[],h,_=>h.elim
theorem aG.all{K:Kt}{F:Fx}{H:Hp}:∀{ba:List (List D)} {rs:List JY},aG K F H P ba rs->∀r∈rs,P r/\∃xs,H r=on (.lst xs)
 |[],[],_,r,hr=>by cases hr
 |ds::ba,r0::rs,h,r,hr=>by
  obtain⟨d,⟨xs,g,j⟩,i⟩:=h;rcases Kk.mp hr with rfl|hr
  .exact⟨d,xs,g⟩
  .exact aG.all i r hr
 |[],_::_,h,_,_=>h.elim
 |_::_,[],h,_,_=>h.elim
theorem aG.den{K:Kt}{F d:Fx}{H:Hp}(t:Tr F H d H):∀{ba:List (List D)} {rs:List JY},aG K F H P ba rs->(∀r,r∈rs->P r->¬d.A r)->aj K d H (ba.map D.lst) (rs.map V.ref)
 |[],[],_,_=>rfl
 |ds::ba,r::rs,h,f=>by
  obtain⟨g,⟨xs,i,j⟩,l⟩:=h;exact aj.cons ⟨r,xs,rfl,⟨f r J2 g,.inl i⟩,aj.tr t _ _ j⟩ (aG.den t l λm o=>f m (J1 _ o))
 |[],_::_,h,_=>h.elim
 |_::_,[],h,_=>h.elim
theorem aG.len{K:Kt}{F:Fx}{H:Hp}:∀{ba:List (List D)} {rs:List JY},aG K F H P ba rs->ba.length=rs.length
 |[],[],_=>rfl
 |ds::ba,r::rs,h=>by simp[aG.len h.2.2]
 |[],_::_,h=>h.elim
 |_::_,[],h=>h.elim
noncomputable def gp(K:Kt)(F:Fx)(H0 H:Hp)(ba:List (List D))(v:V):Prop:=∃a rs,v= .ref a/\H0 a=JT/\H a=on (.lst (rs.map V.ref))/\(a::rs).Nodup/\aG K F H (λr=>H0 r=JT) ba rs
def TY(K:Kt)(F:Fx)(H:Hp)(a:JY)(b:Bool)(ks:List d4)(vs:List D):Prop:=∃ep xs,H a=on (cD a b ep xs)/\ks=xs.map (·.1)/\(∀x∈xs,ef K F H b x.1 x.2.1)/\aj K F H vs (xs.map (·.2.2))
theorem TY.tr{K:Kt}{F g:Fx}{H d:Hp}{a:JY}{b:Bool}(t:Tr F H g d)(h:TY K F H a b ks vs)(k:∀o,H a=on o->d a=on o):TY K g d a b ks vs:=by
 obtain⟨ep,xs,i,j,l,m⟩:=h;exact⟨ep,xs,k _ i,j,λx q=>(l x q).tr t,aj.tr t _ _ m⟩
theorem TY.ne{K:Kt}{F:Fx}{H:Hp}{a:JY}{b:Bool}(h:TY K F H a b ks vs):H a≠JT:=by
 obtain⟨ep,xs,d,_⟩:=h;rw[d];simp
def v_(H:Hp)(a:JY):Prop:=(∃xs,H a=on (.lst xs))\/∃d,H a=on (.ext d)
theorem v_.imp{H d:Hp}{a:JY}(h:v_ H a)(k:∀o,H a=on o->d a=on o):v_ d a:=Or.imp (λ⟨xs,z⟩=>⟨xs,k _ z⟩) (λ⟨g,z⟩=>⟨g,k _ z⟩) h
def kJ(K:Kt)(B:Ow)(bg:Option (JY×JY))(H:Hp)(i:Nat):Sl->V->Prop
 | .sh d,v=>bt K (d5 B bg) H d v
 | .own ds,v=>∃a xs,v= .ref a/\B a=on (i+2)/\H a=on (.lst xs)/\aj K (d5 B bg) H ds xs
 | .grd ba,v=>∃a rs,v= .ref a/\B a=on (i+2)/\H a=on (.lst (rs.map V.ref))/\(a::rs).Nodup/\aG K (d5 B bg) H (λr=>B r=on (i+2)) ba rs
 | .odc b ks vs,v=>∃a,v= .ref a/\B a=on (i+2)/\TY K (d5 B bg) H a b ks vs
theorem kJ.tr{K:Kt}{H g:Hp}(h:kJ K B bg H j s v)(t:Tr (d5 B bg) H (d5 B2 bg) g)(k:∀c,B c=on (j+2)->B2 c=on (j+2)/\∀o,H c=on o->g c=on o):kJ K B2 bg g j s v:=by
 cases s with
 |sh d=>exact bt.tr t _ _ h
 |own cs=>
  obtain⟨c,l,d1,d2,d3,i⟩:=h;exact⟨c,l,d1,(k c d2).1,(k c d2).2 _ d3,aj.tr t _ _ i⟩
 |grd ba=>
  obtain⟨c,rs,d1,d2,d3,i,m⟩:=h;exact⟨c,rs,d1,(k c d2).1,(k c d2).2 _ d3,i,aG.tr t m λr _ _ p q=>⟨(k r p).1,(k r p).2 _ q⟩⟩
 |odc b ks vs=>
  obtain⟨c,d1,d2,d3⟩:=h;exact⟨c,d1,(k c d2).1,d3.tr t (k c d2).2⟩
structure en (K:Kt) (H₀:Hp) (B:Ow) (bg:Option (JY×JY)) (H:Hp) (δ:Ds) (β:Bg) (σ:St):Prop where
 fr:Fr (d5 B bg) H β
 bgt:∀b l,bg=on (b,l)->B b=on 1/\B l=on 1
 len:δ.length=σ.length
 cov:∀a,H₀ a≠JT->H a≠JT
 new:∀a k,B a=on (k+2)->H₀ a=JT
 lst:∀a k,B a=on (k+2)->v_ H a
 tell:∀(i:Nat) (s:Sl),δ[i]?=on (on s)->∃v,σ[i]?=on (on v)/\kJ K B bg H i s v
structure g_ (B:Ow) (H:Hp) (B':Ow) (H':Hp):Prop where
 kp:∀a o,H a=on o->(B a=JT\/B a=on 0)->H' a=on o
 tg:∀a,B a=on 0\/B a=on 1->B' a=B a
 nn:∀a o,H a=on o->B a=JT->B' a=JT
 al:∀a,H a≠JT->H' a≠JT
theorem g_.refl(B:Ow)(H:Hp):g_ B H B H:=⟨λ_ _ h _=>h,λ_ _=>rfl,λ_ _ _ h=>h,λ_ h=>h⟩
theorem g_.trans{H H1 d:Hp}(a:g_ B H B1 H1)(b:g_ B1 H1 B2 d):g_ B H B2 d:=by
 refine⟨λx o h n=>b.kp x o (a.kp x o h n) ?_,λx h=>?_,λx o h n=>b.nn x o (a.kp x o h (.inl n)) (a.nn x o h n),λx h=>b.al x (a.al x h)⟩
 .rcases n with n|n
  .exact .inl (a.nn x o h n)
  .exact .inr ((a.tg x (.inl n)).trans n)
 .have e:=a.tg x h
  rw[<-e]at h;exact(b.tg x h).trans e
def f9(K:Kt)(H₀:Hp)(bg:Option (JY×JY))(E:St->XK)(Dn:rz)(B:Ow)(H:Hp)(o:nj)(j:Bg):Prop:=match o with
 | .nx δ'=>∀h i g,g_ B H i g->en K H₀ i bg g δ' j h->Dn.nx h g
 | .bk δ'=>∀h i g,g_ B H i g->en K H₀ i bg g δ' j h->Dn.bk h g
 | .ct δ'=>∀h i g,g_ B H i g->en K H₀ i bg g δ' j h->Dn.ct h g
 | .rt d=>∀v i g,g_ B H i g->Fr (d5 i bg) g j->bt K (d5 i bg) g d v->Dn.rt v g
 | .rg ba=>∀v i g,g_ B H i g->Fr (d5 i bg) g j->gp K (d5 i bg) H₀ g ba v->Dn.rt v g
 | .ex C δ'=>∀h i g,g_ B H i g->en K H₀ i bg g δ' j h->E h (.ref C) JT g
theorem f9.pre{K:Kt}{E:St->XK}{Dn:rz}{H H1:Hp}(s:g_ B H B1 H1)(h:f9 K H₀ bg E Dn B H o β'):f9 K H₀ bg E Dn B1 H1 o β':=by
 cases o with
 |nx δ=>exact λg i j t=>h g i j (s.trans t)
 |bk δ=>exact λg i j t=>h g i j (s.trans t)
 |ct δ=>exact λg i j t=>h g i j (s.trans t)
 |rt d=>exact λv i j t=>h v i j (s.trans t)
 |rg d=>exact λv i j t=>h v i j (s.trans t)
 |ex C δ=>exact λg i j t=>h g i j (s.trans t)
def tG(K:Kt)(H₀:Hp)(g:G)(E:St->XK):TS:=λDn h H=>∃B bg δ β o d,en K H₀ B bg H δ β h/\g δ β=on (o,d)/\f9 K H₀ bg E Dn B H o d
theorem _root_.L2.PS.imp{X:Cx}{e:LM}(h:PS X e t)(f:∀D d H,t' D d H->t D d H):PS X e t':=λg s d H D I q=>h g s d H D I (f D d H q)
theorem _root_.L2.PSs.imp{X:Cx}{e:List LM}(h:PSs X e t)(f:∀D d H,t' D d H->t D d H):PSs X e t':=λg s d H D I q=>h g s d H D I (f D d H q)
noncomputable def vw(δ:Ds):Dn:=δ.map λs=>match s with
 |some (.sh d)=>on d
 |_=>JT
noncomputable def fw(δ:Ds):Dn:=δ.map λs=>match s with
 |some (.sh d)=>on d
 |some (.own ds)=>on (.lst ds)
 |some (.grd ba)=>on (.lst (ba.map D.lst))
 |some (.odc b ks vs)=>on (.dct b ks vs)
 |none=>JT
variable{H₀:Hp}{B:Ow}{bg:Option (JY×JY)}{H':Hp}{δ:Ds}{β β':Bg}{σ:St}
theorem IK{i:Nat}{d:D}(e:(vw δ)[i]?=on (on d)):δ[i]?=on (on (.sh d)):=by
 unfold vw at e;rw[J9]at e;cases q:δ[i]? with
 |none=>rw[q]at e;cases e
 |some z=>
  rw[q]at e;cases z with
  |none=>cases e
  |some s=>
   cases s with
   |sh c=>cases e;rfl
   |own ds=>cases e
   |grd ba=>cases e
   |odc b ks vs=>cases e
theorem en.view(h:en K H₀ B bg H δ β σ):hU K (d5 B bg) H (vw δ) σ:=⟨by unfold vw;rw[JS,h.len],λi d e=>h.tell i _ (IK e)⟩
theorem T1:Tr (d5 B bg) H (ko B bg) H:=⟨λa h _ z=>by
 have h':¬(B a≠JT):=h;rcases z with z|z
 .exact h' (by rw[z];simp)
 .exact h' (by rw[z];simp),λ_ _ _ h=>h,rfl⟩
theorem en.frA(h:en K H₀ B bg H δ β σ):Fr (ko B bg) H β:=⟨λa ha=>h.fr.occ a (by
 show B a≠JT;rcases ha with z|z<;>rw[z]<;>simp),λb l e=>⟨.inr (h.bgt b l e).1,.inr (h.bgt b l e).2,(h.fr.bgA b l e).2.2⟩,h.fr.bag⟩
theorem en.viewA(h:en K H₀ B bg H δ β σ):hU K (ko B bg) H (fw δ) σ:=by
 refine⟨by unfold fw;rw[JS,h.len],λi d e=>?_⟩;unfold fw at e;rw[J9]at e;cases q:δ[i]? with
 |none=>rw[q]at e;cases e
 |some z=>
  rw[q]at e;cases z with
  |none=>cases e
  |some s=>
   obtain⟨v,m,o⟩:=h.tell i s q;cases s with
   |sh c=>cases e;exact⟨v,m,bt.tr T1 _ _ o⟩
   |own ds=>
    cases e;obtain⟨a,xs,g,j,l,t⟩:=o;refine⟨v,m,a,xs,g,⟨λz=>?_,.inl l⟩,aj.tr T1 _ _ t⟩;have z':B a=on 0\/B a=on 1:=z;rw[j]at z';rcases z' with z'|z'<;>cases z'
   |grd ba=>
    cases e;obtain⟨a,rs,g,j,l,t,u⟩:=o;have w:∀c,B c=on (i+2)->¬(ko B bg).A c:=λc y z=>by
     have z':B c=on 0\/B c=on 1:=z;rw[y]at z';rcases z' with z'|z'<;>cases z'
    exact⟨v,m,a,_,g,⟨w a j,.inl l⟩,aG.den T1 u λr _ C=>w r C⟩
   |odc b ks vs=>
    cases e;obtain⟨a,g,j,ep,xs,l,t,u,I⟩:=o;refine⟨v,m,?_⟩;unfold bt;refine⟨a,ep,xs,g,⟨λz=>?_,l⟩,t,λx J=>(u x J).tr T1,aj.tr T1 _ _ I⟩;have z':B a=on 0\/B a=on 1:=z;rw[j]at z';rcases z' with z'|z'<;>cases z'
theorem en.to{F:Fx}(h:en K H₀ B bg H δ β σ)(g:F.bg=bg)(t:To F H H' β'):en K H₀ B bg H' δ β' σ/\g_ B H B H':=by
 have y:∀a,B a≠on 1->∀b l,F.bg=on (b,l)->a≠b/\a≠l:=λa ha b l e=>by
  rw[g]at e;exact⟨λz=>ha (z▸(h.bgt b l e).1),λz=>ha (z▸(h.bgt b l e).2)⟩
 have kp:∀a o,H a=on o->B a≠on 1->H' a=on o:=λa o e n=>t.kp a o e (y a n);have fr:Fr (d5 B bg) H' β':=⟨λa ha z=>(by
  by_cases A:B a=on 1
  .by_cases j:∃b l,bg=on (b,l)/\(a=b\/a=l)
   .obtain⟨b,l,e,q⟩:=j
    obtain⟨m,r⟩:=t.fr.bag b l (g.trans e);rcases q with rfl|rfl
    .rw[m]at z;cases z
    .rw[r]at z;cases z
   .cases q:H a with
    |none=>exact h.fr.occ a ha q
    |some o=>
     rw[t.kp a o q λb l e=>⟨λw=>j ⟨b,l,g.symm.trans e,.inl w⟩,λw=>j ⟨b,l,g.symm.trans e,.inr w⟩⟩]at z;cases z
  .cases q:H a with
   |none=>exact h.fr.occ a ha q
   |some o=>rw[kp a o q A]at z;cases z),h.fr.bgA,λb l e=>t.fr.bag b l (g.trans e)⟩
 have tr:Tr (d5 B bg) H (d5 B bg) H':=⟨λ_ n _=>n,λa o n e=>kp a o e (λz=>n (by show B a≠JT;rw[z];simp)),rfl⟩;have al:∀a,H a≠JT->H' a≠JT:=λa ha z=>by
  by_cases j:∃b l,bg=on (b,l)/\(a=b\/a=l)
  .obtain⟨b,l,e,q⟩:=j
   obtain⟨m,r⟩:=t.fr.bag b l (g.trans e);rcases q with rfl|rfl
   .rw[m]at z;cases z
   .rw[r]at z;cases z
  .cases q:H a with
   |none=>exact ha q
   |some o=>
    rw[t.kp a o q λb l e=>⟨λw=>j ⟨b,l,g.symm.trans e,.inl w⟩,λw=>j ⟨b,l,g.symm.trans e,.inr w⟩⟩]at z;cases z
 refine⟨⟨fr,h.bgt,h.len,λa ha=>al a (h.cov a ha),h.new,λc k u=>(h.lst c k u).imp λo z=>kp c o z (by rw[u];intro z;cases z),λi s e=>?_⟩,λa o e n=>kp a o e (by rcases n with n|n<;>rw[n]<;>simp),λ_ _=>rfl,λ_ _ _ n=>n,al⟩
 obtain⟨v,C,I⟩:=h.tell i s e;exact⟨v,C,I.tr tr λc d=>⟨d,λo q=>kp c o q (by rw[d];intro z;cases z)⟩⟩
theorem en.set(h:en K H₀ B bg H δ β σ)(hd:bt K (d5 B bg) H d v):en K H₀ B bg H (δ.set i (on (.sh d))) β (σ.set i (on v)):=by
 refine⟨h.fr,h.bgt,by rw[KO,KO,h.len],h.cov,h.new,h.lst,λj c e=>?_⟩;rw[LV]at e;rw[LV];by_cases q:i=j
 .subst q
  rw[J8 rfl]at e⊢;split at e
  .rename_i g
   cases e;rw[J8 (by rw[<-h.len];exact g)];exact⟨v,rfl,hd⟩
  .cases e
 .rw[J6 q]at e⊢
  exact h.tell j c e
noncomputable def gNil:G:=λδ β=>on (.nx δ,β)
noncomputable def aF(g h:G):G:=λδ β=>match g δ β with
 |some (.nx δ1,β1)=>h δ1 β1
 |r=>r
def oH(i:Nat)(f:FD):G:=λδ β=>match f (vw δ) β with
 |some (.ok d,β1)=>on (.nx (δ.set i (on (.sh d))),β1)
 |some (.error C,β1)=>on (.ex C δ,β1)
 |none=>JT
def qi(i:Nat)(f:FD):G:=λδ β=>match f (fw δ) β with
 |some (.ok d,β1)=>if dZ d=JW then on (.nx (δ.set i (on (.sh d))),β1)else JT
 |some (.error C,β1)=>on (.ex C δ,β1)
 |none=>JT
noncomputable def qm(f:FD):G:=λδ β=>match f (fw δ) β with
 |some (.ok _,β1)=>on (.nx δ,β1)
 |some (.error C,β1)=>on (.ex C δ,β1)
 |none=>JT
noncomputable def iN(f:FD):G:=λδ β=>match f (fw δ) β with
 |some (.ok d,β1)=>on (.rt d,β1)
 |some (.error C,β1)=>on (.ex C δ,β1)
 |none=>JT
noncomputable def t_(t:Dn->M Bool)(g h:G):G:=λδ β=>match t (fw δ) β with
 |some (.ok JW,β1)=>g δ β1
 |some (.ok JZ,β1)=>h δ β1
 |some (.error C,β1)=>on (.ex C δ,β1)
 |none=>JT
variable{st:LM}{sts:List LM}
theorem bq:PSs X [] (tG X.K X.H₀ gNil E):=tB.imp λD σ H d=>by
 obtain⟨B,bg,δ,β,o,β',ok,e,h⟩:=d;cases e;exact h σ B H (g_.refl B H) ok
theorem aa(j:PS X st (tG X.K X.H₀ g E))(l:PSs X sts (tG X.K X.H₀ h E)):PSs X (st::sts) (tG X.K X.H₀ (aF g h) E):=(dm j l).imp λD σ H m=>by
 obtain⟨B,bg,δ,β,o,β',ok,e,q⟩:=m;unfold aF at e;split at e
 .rename_i d β1 t
  refine⟨B,bg,δ,β,.nx d,β1,ok,t,λu v H' s i=>⟨v,bg,d,β1,o,β',i,e,f9.pre s ?_⟩⟩;exact q
 .rename_i r w
  refine⟨B,bg,δ,β,o,β',ok,e,?_⟩;cases o with
  |nx d=>exact Kx e (w d β')
  |_=>exact q
theorem ag(d:PS X st (tG X.K X.H₀ g E)):PSs X [st] (tG X.K X.H₀ g E):=kU d
theorem aO{x:K2}{f:FD}(h:PS X (.Assign [.Name x pos'] e pos) (dH (tV X.K f E) (c9 i))):PS X (.Assign [.Name x pos'] e pos) (tG X.K X.H₀ (oH i f) E):=h.imp λD σ H m=>by
 obtain⟨B,bg,δ,β,o,β',ok,e,q⟩:=m;refine⟨d5 B bg,vw δ,β,ok.fr,ok.view,?_⟩;unfold oH at e;split at e
 .rename_i d β1 j
  cases e;refine⟨.ok d,_,j,λv H' t hd=>?_⟩;obtain⟨g,l⟩:=ok.to rfl t;exact q _ B H' l (g.set hd)
 .rename_i C β1 j
  cases e;refine⟨.error C,_,j,λH' t=>?_⟩;obtain⟨g,l⟩:=ok.to rfl t;exact q _ B H' l g
 .cases e
theorem zM{K:Kt}{F g:Fx}{H:Hp}(i:dZ d=JW)(h:bt K F H d v):bt K g H d v:=by
 cases d<;>first|exact h|cases i
theorem GA{x:K2}{f:FD}(h:PS X (.Assign [.Name x pos'] e pos) (dH (tV X.K f E) (c9 i))):PS X (.Assign [.Name x pos'] e pos) (tG X.K X.H₀ (qi i f) E):=h.imp λD σ H m=>by
 obtain⟨B,bg,δ,β,o,β',ok,e,q⟩:=m;refine⟨ko B bg,fw δ,β,ok.frA,ok.viewA,?_⟩;unfold qi at e;split at e
 .rename_i d β1 j
  split at e
  .rename_i r
   cases e;refine⟨.ok d,_,j,λv H' t hd=>?_⟩;obtain⟨g,l⟩:=ok.to rfl t;exact q _ B H' l (g.set (zM r hd))
  .cases e
 .rename_i C β1 j
  cases e;refine⟨.error C,_,j,λH' t=>?_⟩;obtain⟨g,l⟩:=ok.to rfl t;exact q _ B H' l g
 .cases e
theorem qV{f:FD}(h:PS X (.Expr e pos) (mD (tV X.K f E))):PS X (.Expr e pos) (tG X.K X.H₀ (qm f) E):=h.imp λD σ H l=>by
 obtain⟨B,bg,δ,β,o,β',ok,e,q⟩:=l;refine⟨ko B bg,fw δ,β,ok.frA,ok.viewA,?_⟩;unfold qm at e;split at e
 .rename_i d β1 i
  cases e;refine⟨.ok d,_,i,λv H' t hd=>?_⟩;obtain⟨g,j⟩:=ok.to rfl t;exact q _ B H' j g
 .rename_i C β1 i
  cases e;refine⟨.error C,_,i,λH' t=>?_⟩;obtain⟨g,j⟩:=ok.to rfl t;exact q _ B H' j g
 .cases e
noncomputable def fV(B:Ow):Ow:=λa=>if B a=on 0\/B a=on 1 then B a else JT
theorem Hi{B:Ow}{bg:Option (JY×JY)}{H:Hp}:Tr (ko B bg) H (d5 (fV B) bg) H:=⟨λa h _ z=>by
 have d:fV B a≠JT:=z;unfold fV at d;split at d
 .rename_i q;exact h q
 .exact d rfl,λ_ _ _ h=>h,rfl⟩
theorem zu{B:Ow}{H:Hp}:g_ B H (fV B) H:=⟨λ_ _ h _=>h,λa h=>by unfold fV;rw[J8 h],λa o h n=>by unfold fV;rw[n];simp,λ_ h=>h⟩
theorem aX{f:FD}(h:PS X (.Return (on e) pos) (yN (tV X.K f E))):PS X (.Return (on e) pos) (tG X.K X.H₀ (iN f) E):=h.imp λD σ H r=>by
 obtain⟨B,bg,δ,β,o,β',ok,e,q⟩:=r;refine⟨ko B bg,fw δ,β,ok.frA,ok.viewA,?_⟩;unfold iN at e;split at e
 .rename_i d β1 j
  cases e;refine⟨.ok d,_,j,λv H' t hd=>?_⟩;obtain⟨g,m⟩:=ok.to rfl t;refine q _ (fV B) H' (m.trans zu) ⟨λa ha=>g.fr.occ a ?_,λb l e=>?_,g.fr.bag⟩ (bt.tr Hi _ _ hd)
  .have i:fV B a≠JT:=ha
   show B a≠JT;unfold fV at i;split at i
   .exact i
   .exact Kx rfl i
  .refine⟨?_,?_,(g.fr.bgA b l e).2.2⟩
   .show fV B b≠JT
    unfold fV;rw[J8 (.inr (ok.bgt b l e).1),(ok.bgt b l e).1];simp
   .show fV B l≠JT
    unfold fV;rw[J8 (.inr (ok.bgt b l e).2),(ok.bgt b l e).2];simp
 .rename_i C β1 j
  cases e;refine⟨.error C,_,j,λH' t=>?_⟩;obtain⟨g,m⟩:=ok.to rfl t;exact q _ B H' m g
 .cases e
theorem bM{c:Expr}{a b:List LM}(l:PT X c (g8 X.K t E))(ha:PSs X a (tG X.K X.H₀ g E))(m:PSs X b (tG X.K X.H₀ h E)):PS X (.If c a b pos) (tG X.K X.H₀ (t_ t g h) E):=(CI l ha m).imp λD σ H r=>by
 obtain⟨B,bg,δ,β,o,β',ok,e,q⟩:=r;refine⟨ko B bg,fw δ,β,ok.frA,ok.viewA,?_⟩;unfold t_ at e;split at e
 .rename_i β1 i
  refine⟨.ok JW,_,i,λv H' t hd=>?_⟩;subst hd;obtain⟨d,j⟩:=ok.to rfl t;rw[J8 rfl];exact⟨B,bg,δ,β1,o,β',d,e,f9.pre j q⟩
 .rename_i β1 i
  refine⟨.ok JZ,_,i,λv H' t hd=>?_⟩;subst hd;obtain⟨d,j⟩:=ok.to rfl t;rw[J6 J7];exact⟨B,bg,δ,β1,o,β',d,e,f9.pre j q⟩
 .rename_i C β1 i
  cases e;refine⟨.error C,_,i,λH' t=>?_⟩;obtain⟨d,j⟩:=ok.to rfl t;exact q _ B H' j d
 .cases e
abbrev y3:=D->Ds->Option Ds
abbrev kH:=List D->Ds->Option Ds
def jH(K:Kt)(g:TG)(tg:y3):Prop:=∀(H₀:Hp) (B:Ow) (bg:Option (JY×JY)) (H:Hp) (δ h:Ds) (β:Bg) (σ:St) (d:D) (v:V) (Q:St->Hp->Prop),en K H₀ B bg H δ β σ->bt K (d5 B bg) H d v->tg d δ=on h->(∀i,en K H₀ B bg H h β i->Q i H)->g v σ H Q
def nV(K:Kt)(g:I_)(tg:kH):Prop:=∀(H₀:Hp) (B:Ow) (bg:Option (JY×JY)) (H:Hp) (δ d:Ds) (β:Bg) (σ:St) (ds:List D) (vs:List V) (Q:St->Hp->Prop),en K H₀ B bg H δ β σ->aj K (d5 B bg) H ds vs->tg ds δ=on d->(∀h,en K H₀ B bg H d β h->Q h H)->g vs σ H Q
noncomputable def Xa(i:Nat):y3:=λd δ=>on (δ.set i (on (.sh d)))
noncomputable def Gy:kH:=λds δ=>match ds with
 |[]=>on δ
 |_=>JT
noncomputable def Gx(t:y3)(u:kH):kH:=λds δ=>match ds with
 |[]=>JT
 |d::r=>(t d δ).bind λg=>u r g
noncomputable def W_(t:kH):y3:=λd δ=>match d with
 | .tup ds=>t ds δ
 |_=>JT
theorem aD:jH K (c9 i) (Xa i):=λH₀ B bg H δ g β σ d v Q ok hd e k=>by
 cases e;exact k _ (ok.set hd)
theorem gF:nV K L2.gNil Gy:=λH₀ B bg H δ d β σ ds vs Q ok hd e k=>by
 cases ds with
 |nil=>cases e;exact⟨hd,k _ ok⟩
 |cons _ _=>cases e
theorem cB(o:jH K t tf)(v:nV K u uf):nV K (vI t u) (Gx tf uf):=λH₀ B bg H δ g β σ ds vs Q ok hd e k=>by
 cases ds with
 |nil=>cases e
 |cons d r=>
  obtain⟨x,m,rfl,w,y⟩:=hd;have i:(tf d δ).bind (λg=>uf r g)=on g:=e;cases q:tf d δ with
  |none=>rw[q]at i;cases i
  |some h=>
   rw[q]at i;exact⟨x,m,rfl,o H₀ B bg H δ h β σ d x _ ok w q λj l=>v H₀ B bg H h g β j r m Q l y i k⟩
theorem fQ:∀ds δ d,Gy ds δ=on d->ds.length=0:=λds δ d h=>by
 cases ds with
 |nil=>rfl
 |cons _ _=>cases h
theorem cA{n:Nat}(h:∀ds δ g,u ds δ=on g->ds.length=n):∀ds δ g,Gx t u ds δ=on g->ds.length=n+1:=λds δ g e=>by
 cases ds with
 |nil=>cases e
 |cons d r=>
  have i:(t d δ).bind (λg=>u r g)=on g:=e;cases q:t d δ with
  |none=>rw[q]at i;cases i
  |some j=>rw[q]at i;rw[Kq,h _ _ _ i]
theorem iZ{n:Nat}(h:nV K t tf)(hn:∀ds δ g,tf ds δ=on g->ds.length=n):jH K (zL K n t) (W_ tf):=λH₀ B bg H δ g β σ d v Q ok hd e k=>by
 cases d<;>first
  |(obtain⟨a,xs,rfl,sq,i⟩:=bt.sqT hd;exact⟨a,xs,rfl,sq,by rw[<-i.length];exact hn _ _ _ e,h H₀ B bg H δ g β σ _ xs Q ok i e k⟩)
  |cases e
def vK(f:FD)(tg:y3):G:=λδ β=>match f (vw δ) β with
 |some (.ok d,β1)=>(tg d δ).map λg=>(.nx g,β1)
 |some (.error C,β1)=>on (.ex C δ,β1)
 |none=>JT
theorem CB{f:FD}{tg:y3}(l:jH X.K g tg)(h:PS X (.Assign [tgt] e pos) (dH (tV X.K f E) g)):PS X (.Assign [tgt] e pos) (tG X.K X.H₀ (vK f tg) E):=h.imp λD σ H y=>by
 obtain⟨B,bg,δ,β,o,β',ok,e,q⟩:=y;refine⟨d5 B bg,vw δ,β,ok.fr,ok.view,?_⟩;unfold vK at e;split at e
 .rename_i d β1 j
  cases q1:tg d δ with
  |none=>rw[q1]at e;cases e
  |some m=>
   rw[q1]at e;cases e;refine⟨.ok d,_,j,λv H' t hd=>?_⟩;obtain⟨i,r⟩:=ok.to rfl t;exact l X.H₀ B bg H' δ m _ σ d v _ i hd q1 λu w=>q u B H' r w
 .rename_i C β1 j
  cases e;refine⟨.error C,_,j,λH' t=>?_⟩;obtain⟨i,r⟩:=ok.to rfl t;exact q _ B H' r i
 .cases e
def vJ(i:Nat)(op:D->D->Option D)(f:FD):G:=λδ β=>match(vw δ).getD i JT with
 |none=>JT
 |some c=>match f (vw δ) β with
  |some (.ok d,β1)=>(op c d).map λz=>(.nx (δ.set i (on (.sh z))),β1)
  |some (.error C,β1)=>on (.ex C δ,β1)
  |none=>JT
theorem mS{f:FD}(l:aV X.K ti op)(h:PS X st (Go i (tV X.K f E) ti)):PS X st (tG X.K X.H₀ (vJ i op f) E):=h.imp λD σ H I=>by
 obtain⟨B,bg,δ,β,o,β',ok,e,q⟩:=I;unfold vJ at e;split at e
 .cases e
 .rename_i c j
  have m:(vw δ)[i]?=on (on c):=by
   rw[Kd]at j;cases z:(vw δ)[i]? with
   |none=>rw[z]at j;cases j
   |some w=>rw[z]at j;simp at j;rw[j]
  obtain⟨v,J,L⟩:=ok.view.tell i c m;refine⟨v,J,d5 B bg,vw δ,β,ok.fr,ok.view,?_⟩;split at e
  .rename_i d β1 r
   cases q1:op c d with
   |none=>rw[q1]at e;cases e
   |some z=>
    rw[q1]at e;cases e;refine⟨.ok d,_,r,λw H' t hd=>?_⟩;obtain⟨g,y⟩:=ok.to rfl t;refine l (d5 B bg) H' β' _ c d z v w t.fr (bt.tr (t.tr ok.fr) _ _ L) hd q1 λu N O P=>?_;obtain⟨A,Q⟩:=g.to rfl O;exact q _ B N (y.trans Q) (A.set P)
  .rename_i C β1 r
   cases e;refine⟨.error C,_,r,λH' t=>?_⟩;obtain⟨g,y⟩:=ok.to rfl t;exact q _ B H' y g
  .cases e
theorem g_.tr{B d:Ow}{H H':Hp}{bg:Option (JY×JY)}(s:g_ B H d H'):Tr (d5 B bg) H (d5 d bg) H':=
 ⟨λa h hs z=>by
  have hn:B a=JT:=by
   cases q:B a with
   |none=>rfl
   |some t=>exact Kx (show B a≠JT by rw[q];simp) h
  cases q:H a with
  |none=>exact hs q
  |some o=>exact z (s.nn a o q hn),λa o h e=>s.kp a o e (.inl (by
  cases q:B a with
  |none=>rfl
  |some t=>exact Kx (show B a≠JT by rw[q];simp) h)),rfl⟩
noncomputable def pa(tg:y3)(g:G):List D->G
 |[],δ,β=>on (.nx δ,β)
 |d::ds,δ,β=>match tg d δ with
  |none=>JT
  |some h=>match g h β with
   |some (.nx δ2,β2)=>pa tg g ds δ2 β2
   |some (.ct δ2,β2)=>pa tg g ds δ2 β2
   |some (.bk δ2,β2)=>on (.nx δ2,β2)
   |r=>r
def la(it:Ds->M (List D))(tg:y3)(g:G):G:=λδ β=>match it δ β with
 |some (.ok ds,β1)=>pa tg g ds δ β1
 |some (.error C,β1)=>on (.ex C δ,β1)
 |none=>JT
abbrev Vs(it:FL):y3->G->G:=la λδ=>it (vw δ)
theorem wW{tg:y3}(hw:∀{B bg H δ β σ R},en X.K X.H₀ B bg H δ β σ->run (λH' (ds:List D) (J:It)=>s9 X.K J (d5 B bg) H' ds) (d5 B bg) E σ (it δ) H R β->wi σ H R)(l:jH X.K tgg tg)(h:PS X (.For tgt iter body [] pos) (uQ wi tgg (tG X.K X.H₀ g E))):PS X (.For tgt iter body [] pos) (tG X.K X.H₀ (la it tg g) E):=h.imp λD σ H h_=>by
 obtain⟨B,bg,δ,β,o,β',ok,e,q⟩:=h_;refine hw ok ?_;unfold la at e;split at e
 .rename_i ds β1 e1
  refine⟨.ok ds,_,e1,λJ H1 t hJ=>?_⟩;obtain⟨ok1,s1⟩:=ok.to rfl t;refine⟨λi m I U=>m+i=ds.length/\∃A L β2,g_ B H1 A U/\en X.K X.H₀ A bg U L β2 I/\pa tg g (ds.drop i) L β2=on (o,β'),⟨ds.length,by omega,B,δ,β1,g_.refl B H1,ok1,e⟩,?_⟩;rintro i m I U ⟨hm,A,L,β2,W,u,r⟩;obtain⟨iy,is⟩:=hJ (d5 A bg) U β2 W.tr u.fr i;cases hi:ds[i]? with
  |none=>
   have hl:ds.length<=i:=OY.mp hi;rw[M2 hl]at r;cases r;exact .inl ⟨is (by omega),q I A U (s1.trans W) u⟩
  |some d=>
   have hl:i<ds.length:=(Kc.mp hi).1;obtain⟨go,yl⟩:=iy d hi;have ed:ds.drop i=d::ds.drop (i+1):=by
    rw[Ls hl];congr 1;exact KE ((JX hl).symm.trans hi)
   rw[ed]at r;unfold pa at r;split at r
   .cases r
   .rename_i w e3
    refine .inr ⟨go,λY H9=>∃B9 N O,g_ B H1 B9 H9/\en X.K X.H₀ B9 bg H9 N O Y/\pa tg g (ds.drop (i+1)) N O=on (o,β'),λY H9 ⟨B9,N,O,z1,z2,z3⟩=>⟨m-1,by omega,by omega,B9,N,O,z1,z2,z3⟩,λx H3 hy=>?_⟩;obtain⟨sm,dx⟩:=yl x H3 hy;obtain⟨ok3,s3⟩:=u.to rfl (u.fr.same sm);refine l X.H₀ A bg H3 L w β2 I d x _ ok3 dx e3 λσ4 P=>?_;have Q:=W.trans s3;split at r
    .rename_i j v Z
     exact⟨A,bg,w,β2,.nx j,v,P,Z,λT B6 H6 s6 y=>⟨B6,j,v,Q.trans s6,y,r⟩⟩
    .rename_i j v Z
     exact⟨A,bg,w,β2,.ct j,v,P,Z,λT B6 H6 s6 y=>⟨B6,j,v,Q.trans s6,y,r⟩⟩
    .rename_i j v Z
     cases r;exact⟨A,bg,w,β2,.bk j,_,P,Z,λT B6 H6 s6 y=>q T B6 H6 (s1.trans (Q.trans s6)) y⟩
    .rename_i x h1 h2 h3
     refine⟨A,bg,w,β2,o,β',P,r,?_⟩;have q2:=f9.pre (s1.trans Q) q;cases o with
     |nx j=>exact Kx r (h1 _ _)
     |ct j=>exact Kx r (h2 _ _)
     |bk j=>exact Kx r (h3 _ _)
     |rt d=>exact q2
     |rg d=>exact q2
     |ex C j=>exact q2
 .rename_i C β1 e1
  cases e;refine⟨.error C,_,e1,λH' t=>?_⟩;obtain⟨u,W⟩:=ok.to rfl t;exact q _ B H' W u
 .cases e
theorem bz{tg:y3}(l:jH X.K tgg tg)(h:PS X (.For tgt iter body [] pos) (uQ (iV X.K it E) tgg (tG X.K X.H₀ g E))):PS X (.For tgt iter body [] pos) (tG X.K X.H₀ (Vs it tg g) E):=wW (λok r=>⟨_,_,_,ok.fr,ok.view,r⟩) l h
theorem en.claim{H₀:Hp}{B:Ow}{bg:Option (JY×JY)}{H H':Hp}{δ:Ds}{β β':Bg}{σ:St}(S:JY->Prop)(ok:en K H₀ B bg H δ β σ)(t:To (d5 B bg) H H' β')(r:∀c,S c->H c=JT/\v_ H' c)(hd:∀{C:Ow},(∀c,S c->C c=on (i+2))->(∀c,C c≠JT->B c≠JT\/S c)->Tr (d5 B bg) H (d5 C bg) H'->kJ K C bg H' i sl v):
  ∃J,en K H₀ J bg H' (δ.set i (on sl)) β' (σ.set i (on v))/\g_ B H J H':=by
 classical
 obtain⟨g,L⟩:=ok.to rfl t;have hB:∀c,S c->B c=JT:=λc m=>LK λz=>ok.fr.occ c z (r c m).1;have u:∀c n,B c=on n->¬S c:=λc n e z=>by rw[hB c z]at e;cases e
 have A:g_ B H (λc=>if S c then on (i+2)else B c) H':=⟨L.kp,λc m=>J6 (m.elim (u c 0) (u c 1)),λc o h n=>(J6 λz=>by rw[(r c z).1]at h;cases h).trans n,L.al⟩;have tr:Tr (d5 B bg) H (d5 (λc=>if S c then on (i+2)else B c) bg) H':=A.tr;have I:∀b l,bg=on (b,l)->(if S b then on (i+2)else B b)=on 1/\(if S l then on (i+2)else B l)=on 1:=λb l e=>by
  obtain⟨b1,b2⟩:=ok.bgt b l e;exact⟨(J6 (u b 1 b1)).trans b1,(J6 (u l 1 b2)).trans b2⟩
 refine⟨λc=>if S c then on (i+2)else B c,⟨⟨λc m z=>?_,λb l e=>⟨λz=>(by cases z.symm.trans (I b l e).1),λz=>(by cases z.symm.trans (I b l e).2),(ok.fr.bgA b l e).2.2⟩,g.fr.bag⟩,I,by rw[KO,KO,ok.len],g.cov,λc k m=>?_,λc k m=>?_,λj s e=>?_⟩,A⟩
 .by_cases q:S c
  .rcases(r c q).2 with⟨_,w⟩|⟨_,w⟩<;>(rw[w]at z;cases z)
  .exact g.fr.occ c (λy=>m ((J6 q).trans y)) z
 .by_cases z:S c
  .cases w:H₀ c with
   |none=>rfl
   |some o=>exact Kx (r c z).1 (ok.cov c (by rw[w];simp))
  .exact ok.new c k ((J6 z).symm.trans m)
 .by_cases z:S c
  .exact(r c z).2
  .exact g.lst c k ((J6 z).symm.trans m)
 .rw[LV]at e⊢
  by_cases q:i=j
  .subst q
   rw[J8 rfl]at e⊢;split at e
   .rename_i N
    cases e;rw[J8 (by rw[<-ok.len];exact N)];exact⟨_,rfl,hd (λc z=>J8 z) (λc z=>LK λy=>z ((J6 λw=>y (.inr w)).trans (LK λw=>y (.inl w)))) tr⟩
   .cases e
  .rw[J6 q]at e⊢
   obtain⟨w,O,P⟩:=ok.tell j s e;exact⟨w,O,P.tr tr λc d=>⟨(J6 (u c _ d)).trans d,λo h=>t.kp c o h λb l z=>⟨λy=>(by subst y;rw[(ok.bgt _ _ z).1]at d;cases d),λy=>(by subst y;rw[(ok.bgt _ _ z).2]at d;cases d)⟩⟩⟩
theorem en.newAt{H₀:Hp}{B:Ow}{bg:Option (JY×JY)}{H:Hp}{δ:Ds}{β:Bg}{σ:St}{p:JY}(ok:en K H₀ B bg H δ β σ)(g:H p=JT)(j:v_ (upd H p u) p)(hd:∀{d:Ow},d p=on (i+2)->Tr (d5 B bg) H (d5 d bg) (upd H p u)->kJ K d bg (upd H p u) i sl (.ref p)):
  ∃h,en K H₀ h bg (upd H p u) (δ.set i (on sl)) β (σ.set i (on (.ref p)))/\g_ B H h (upd H p u):=ok.claim (·=p) (ok.fr.upd u g) (λc z=>by cases z;exact⟨g,j⟩) λl _ tr=>hd (l p rfl) tr
theorem en.writeAt{H₀:Hp}{B:Ow}{bg:Option (JY×JY)}{H:Hp}{δ:Ds}{β:Bg}{σ:St}{a:JY}(ok:en K H₀ B bg H δ β σ)(hs:σ[i]?=on (on (.ref a)))(hB:B a=on (i+2))(r:v_ (upd H a u) a)(hd:Tr (d5 B bg) H (d5 B bg) (upd H a u)->kJ K B bg (upd H a u) i sl (.ref a)):
  en K H₀ B bg (upd H a u) (δ.set i (on sl)) β σ/\g_ B H B (upd H a u):=by
 have g:g_ B H B (upd H a u):=by
  refine⟨λc o h n=>?_,λ_ _=>rfl,λ_ _ _ n=>n,λc m=>?_⟩
  .rw[a_]
   .exact h
   .intro z;subst z;rw[hB]at n;rcases n with n|n<;>cases n
  .by_cases z:c=a
   .subst z;rw[af];simp
   .rw[a_ z];exact m
 have tr:Tr (d5 B bg) H (d5 B bg) (upd H a u):=g.tr;refine⟨⟨⟨λc m z=>?_,ok.fr.bgA,λb l e=>?_⟩,ok.bgt,by rw[KO,ok.len],λa ha=>g.al a (ok.cov a ha),ok.new,λc k m=>(by
  by_cases z:c=a
  .subst z;exact r
  .exact(ok.lst c k m).imp λo y=>by rw[a_ z];exact y),λj s e=>?_⟩,g⟩
 .by_cases q:c=a
  .subst q;rw[af]at z;cases z
  .rw[a_ q]at z;exact ok.fr.occ c m z
 .obtain⟨b1,b2⟩:=ok.bgt b l e
  rw[a_ (λz=>by subst z;rw[hB]at b1;cases b1),a_ (λz=>by subst z;rw[hB]at b2;cases b2)];exact ok.fr.bag b l e
 .rw[LV]at e
  by_cases q:i=j
  .subst q
   rw[J8 rfl]at e;split at e
   .cases e
    exact⟨_,hs,hd tr⟩
   .cases e
  .rw[J6 q]at e
   obtain⟨v,t,w⟩:=ok.tell j s e;exact⟨v,t,w.tr tr λc d=>⟨d,λo z=>(a_ λy=>by subst y;rw[hB]at d;cases d;exact q rfl).trans z⟩⟩
theorem en.newOwn{H₀:Hp}{B:Ow}{bg:Option (JY×JY)}{H:Hp}{δ:Ds}{β:Bg}{σ:St}{p:JY}(ok:en K H₀ B bg H δ β σ)(g:H p=JT)(hd:aj K (d5 B bg) H ds xs):
  ∃d,en K H₀ d bg (upd H p (.lst xs)) (δ.set i (on (.own ds))) β (σ.set i (on (.ref p)))/\g_ B H d (upd H p (.lst xs)):=ok.newAt g (.inl ⟨xs,af⟩) λe t=>⟨p,xs,rfl,e,af,aj.tr t _ _ hd⟩
theorem en.writeOwn{H₀:Hp}{B:Ow}{bg:Option (JY×JY)}{H:Hp}{δ:Ds}{β:Bg}{σ:St}{a:JY}(ok:en K H₀ B bg H δ β σ)(hs:σ[i]?=on (on (.ref a)))(hB:B a=on (i+2))(ha:H a=on (.lst ys))(hd:aj K (d5 B bg) H ds xs):
  en K H₀ B bg (upd H a (.lst xs)) (δ.set i (on (.own ds))) β σ/\g_ B H B (upd H a (.lst xs)):=ok.writeAt hs hB (.inl ⟨xs,af⟩) λt=>⟨a,xs,rfl,hB,af,aj.tr t _ _ hd⟩
def vH(i:Nat)(f:FL):G:=λδ β=>match f (vw δ) β with
 |some (.ok ds,β1)=>if ds.length<=Ki then on (.nx (δ.set i (on (.own ds))),β1)else JT
 |some (.error C,β1)=>on (.ex C δ,β1)
 |none=>JT
theorem mP{f:FL}(h:PS X st (dH (Gj (hW X.K f E)) (c9 i))):PS X st (tG X.K X.H₀ (vH i f) E):=h.imp λD σ H m=>by
 obtain⟨B,bg,δ,β,o,β',ok,e,q⟩:=m;refine⟨d5 B bg,vw δ,β,ok.fr,ok.view,?_⟩;unfold vH at e;split at e
 .rename_i ds β1 g
  split at e
  .rename_i r
   cases e;refine⟨.ok ds,_,g,λvs H' t hd=>⟨by rw[<-hd.length];exact r,λp u=>?_⟩⟩;obtain⟨d,j⟩:=ok.to rfl t;obtain⟨w,l,v⟩:=d.newOwn (i:=i) u hd;exact q _ _ _ (j.trans v) l
  .cases e
 .rename_i C β1 g
  cases e;refine⟨.error C,_,g,λH' t=>?_⟩;obtain⟨d,j⟩:=ok.to rfl t;exact q _ B H' j d
 .cases e
def vL(i:Nat)(f:FL):G:=λδ β=>match δ.getD i JT with
 |some (.own cs)=>match f (vw δ) β with
  |some (.ok [d],β1)=>if cs.length<Ki then on (.nx (δ.set i (on (.own (cs++[d])))),β1)else JT
  |some (.error C,β1)=>on (.ex C δ,β1)
  |_=>JT
 |_=>JT
theorem aW{α:Type}{δ:List (Option α)}{i:Nat}{s:α}(h:δ.getD i JT=on s):δ[i]?=on (on s):=by
 rw[Kd]at h;cases z:δ[i]? with
 |none=>rw[z]at h;cases h
 |some w=>rw[z]at h;simp at h;rw[h]
theorem mT{f:FL}(h:PS X st (mD (Ur X.K "list" oq (eX i) (hW X.K f E)))):PS X st (tG X.K X.H₀ (vL i f) E):=h.imp λD σ H L=>by
 obtain⟨B,bg,δ,β,o,β',ok,e,q⟩:=L;unfold vL at e;split at e
 .rename_i cs J
  obtain⟨v,u,a,ys,rfl,N,O,U⟩:=ok.tell i _ (aW J);refine⟨_,u,.inl ⟨rfl,ys,e_.of O⟩,d5 B bg,vw δ,β,ok.fr,ok.view,?_⟩;split at e
  .rename_i d β1 w
   split at e
   .rename_i P
    cases e;refine⟨.ok [d],_,w,λvs H' t hd=>?_⟩;obtain⟨g,y⟩:=ok.to rfl t;obtain⟨v,rfl,Q⟩:=aj.one hd;obtain⟨W,j,Y,l,A,R,m,r⟩:=g.tell i _ (aW J);rw[u]at j;cases j;cases A;refine⟨a,l,v,rfl,rfl,m,by rw[<-r.length];exact P,?_⟩;obtain⟨I,T⟩:=g.writeOwn (ds:=cs++[d]) (xs:=l++[v]) u N m (aj.append r (aj.cons Q aj.nil));exact q _ _ _ (y.trans T) I
   .cases e
  .rename_i C β1 w
   cases e;refine⟨.error C,_,w,λH' t=>?_⟩;obtain⟨g,y⟩:=ok.to rfl t;exact q _ B H' y g
  .cases e
 .cases e
noncomputable def fz(i:Nat)(δ:Ds):Ds:=match δ.getD i JT with
 |some (.own ds)=>δ.set i (on (.sh (.lst ds)))
 |some (.grd ba)=>δ.set i (on (.sh (.lst (ba.map D.lst))))
 |some (.odc b ks vs)=>δ.set i (on (.sh (.dct b ks vs)))
 |_=>δ
theorem en.letGo{H₀:Hp}{B:Ow}{bg:Option (JY×JY)}{H:Hp}{δ:Ds}{β:Bg}{σ:St}(S:JY->Prop)(ok:en K H₀ B bg H δ β σ)(y:∀c,S c->B c=on (i+2))(I:σ[i]?=on (on v))(hd:∀{r:Ow},(∀c,S c->r c=JT)->(∀c,¬S c->r c=B c)->Tr (d5 B bg) H (d5 r bg) H->kJ K r bg H i sl v):∃A,en K H₀ A bg H (δ.set i (on sl)) β σ/\g_ B H A H:=by
 classical
 have hn:∀c n,(if S c then JT else B c)=on n->B c=on n:=λc n e=>by
  by_cases z:S c
  .rw[J8 z]at e;cases e
  .exact(J6 z).symm.trans e
 have C:∀c,B c=JT->(if S c then JT else B c)=JT:=λc e=>by rw[e];exact ite_self _
 have t:∀c,B c=on 0\/B c=on 1->¬S c:=λc h z=>by rw[y c z]at h;rcases h with h|h<;>cases h
 have m:g_ B H (λc=>if S c then JT else B c) H:=⟨λ_ _ h _=>h,λc g=>J6 (t c g),λc o h n=>C c n,λ_ h=>h⟩;have tr:Tr (d5 B bg) H (d5 (λc=>if S c then JT else B c) bg) H:=m.tr;have u:∀b l,bg=on (b,l)->(if S b then JT else B b)=on 1/\(if S l then JT else B l)=on 1:=λb l e=>by
  obtain⟨b1,b2⟩:=ok.bgt b l e;exact⟨(J6 (t b (.inr b1))).trans b1,(J6 (t l (.inr b2))).trans b2⟩
 refine⟨λc=>if S c then JT else B c,⟨⟨λc g=>ok.fr.occ c λz=>g (C c z),λb l e=>⟨λz=>(by cases z.symm.trans (u b l e).1),λz=>(by cases z.symm.trans (u b l e).2),(ok.fr.bgA b l e).2.2⟩,ok.fr.bag⟩,u,by rw[KO,ok.len],ok.cov,λc k g=>ok.new c k (hn c _ g),λc k g=>ok.lst c k (hn c _ g),λj s e=>?_⟩,m⟩;rw[LV]at e;by_cases q:i=j
 .subst q
  rw[J8 rfl]at e;split at e
  .cases e
   exact⟨v,I,hd (λc z=>J8 z) (λc z=>J6 z) tr⟩
  .cases e
 .rw[J6 q]at e
  obtain⟨w,J,L⟩:=ok.tell j s e;exact⟨w,J,L.tr tr λc d=>⟨(J6 λz=>by rw[y c z]at d;cases d;exact q rfl).trans d,λ_ z=>z⟩⟩
theorem en.freeze{H₀:Hp}{B:Ow}{bg:Option (JY×JY)}{H:Hp}{δ:Ds}{β:Bg}{σ:St}(i:Nat)(ok:en K H₀ B bg H δ β σ):∃u,en K H₀ u bg H (fz i δ) β σ/\g_ B H u H:=by
 unfold fz;split
 .rename_i ds g
  obtain⟨v,h,a,ys,j,l,m,o⟩:=ok.tell i _ (aW g);exact ok.letGo (·=a) (λc z=>z▸l) h λd _ tr=>⟨a,ys,j,⟨λz=>z (d a rfl),.inl m⟩,aj.tr tr _ _ o⟩
 .rename_i ba g
  obtain⟨v,h,a,rs,j,l,m,nd,w⟩:=ok.tell i _ (aW g);exact ok.letGo (λc=>c=a\/c∈rs) (λc z=>z.elim (·▸l) λz=>(w.all c z).1) h λd _ tr=>⟨a,_,j,⟨λz=>z (d a (.inl rfl)),.inl m⟩,aG.den tr w λr y _ z=>z (d r (.inr y))⟩
 .rename_i b0 q t g
  obtain⟨v,h,a,j,l,ep,ys,m,o,A,C⟩:=ok.tell i _ (aW g);exact ok.letGo (·=a) (λc z=>z▸l) h λd _ tr=>by
   show bt _ _ _ (.dct b0 q t) _;unfold bt;exact⟨a,ep,ys,j,⟨λz=>z (d a rfl),m⟩,o,λx I=>(A x I).tr tr,aj.tr tr _ _ C⟩
 .exact⟨B,ok,g_.refl B H⟩
noncomputable def Vt(i:Nat)(g:G):G:=λδ β=>g (fz i δ) β
theorem oi(i:Nat)(h:PSs X sts (tG X.K X.H₀ g E)):PSs X sts (tG X.K X.H₀ (Vt i g) E):=h.imp λD σ H j=>by
 obtain⟨B,bg,δ,β,o,β',ok,e,q⟩:=j;obtain⟨l,d,s⟩:=ok.freeze i;exact⟨l,bg,fz i δ,β,o,β',d,e,f9.pre s q⟩
noncomputable def r8(n:Nat)(ds:List D):Ds:=ds.map (λd=>on (Sl.sh d))++Ks (n-ds.length) JT
def f8(n:Nat)(g:G):List D->M D:=λds β=>match g (r8 n ds) β with
 |some (.rt d,β')=>on (.ok d,β')
 |some (.nx _,β')=>on (.ok .non,β')
 |some (.ex C _,β')=>on (.error C,β')
 |_=>JT
theorem wI{F:Fx}{H:Hp}{β:Bg}{N:List K2}(fr:Fr F H β)(hd:aj K F H ds vs):∃B,en K H B F.bg H (r8 N.length ds) β (eG N vs)/\(∀a,F.A a->B a=on 0\/B a=on 1)/\(∀a,B a=on 1->∃b l,F.bg=on (b,l)/\(a=b\/a=l))/\(∀a,B a≠JT->F.A a):=by
 classical
 refine⟨λa=>if F.A a then(if ∃b l,F.bg=on (b,l)/\(a=b\/a=l)then on 1 else on 0)else JT,⟨⟨λa ha=>fr.occ a ?_,λb l e=>?_,fr.bag⟩,λb l e=>?_,?_,λ_ h=>h,λc k o=>(by
  have g:(if F.A c then(if ∃b l,F.bg=on (b,l)/\(c=b\/c=l)then on 1 else on 0)else JT)=on (k+2):=o;split at g
  .split at g<;>cases g
  .cases g),λc k o=>(by
  have g:(if F.A c then(if ∃b l,F.bg=on (b,l)/\(c=b\/c=l)then on 1 else on 0)else JT)=on (k+2):=o;split at g
  .split at g<;>cases g
  .cases g),λi s e=>?_⟩,λa ha=>?_,λa ha=>?_,λa ha=>?_⟩
 .have j:(if F.A a then(if ∃b l,F.bg=on (b,l)/\(a=b\/a=l)then on 1 else on 0)else JT)≠(JT:Option Nat):=ha
  split at j
  .assumption
  .exact Kx rfl j
 .obtain⟨a1,a2,a3⟩:=fr.bgA b l e
  refine⟨?_,?_,a3⟩
  .show(if F.A b then(if ∃m l,F.bg=on (m,l)/\(b=m\/b=l)then on 1 else on 0)else JT)≠(JT:Option Nat)
   rw[J8 a1];split<;>simp
  .show(if F.A l then(if ∃m t,F.bg=on (m,t)/\(l=m\/l=t)then on 1 else on 0)else JT)≠(JT:Option Nat)
   rw[J8 a2];split<;>simp
 .obtain⟨a1,a2,a3⟩:=fr.bgA b l e
  exact⟨by rw[J8 a1,J8 ⟨b,l,e,.inl rfl⟩],by rw[J8 a2,J8 ⟨b,l,e,.inr rfl⟩]⟩
 .unfold r8 eG
  rw[Kg,Kg,JS,JS,LX,LX,hd.length]
 .unfold r8 at e
  unfold eG;rw[PV,JS]at e;rw[PV,JS,<-hd.length];by_cases q:i<ds.length
  .rw[J8 q,J9]at e
   rw[J8 q,J9];cases z:ds[i]? with
   |none=>rw[z]at e;cases e
   |some d=>
    rw[z]at e;cases e;obtain⟨v,w,y⟩:=hd.get z;refine⟨v,by rw[w];rfl,?_⟩;have r:Tr F H (d5 (λa=>if F.A a then(if ∃b l,F.bg=on (b,l)/\(a=b\/a=l)then on 1 else on 0)else JT) F.bg) H:=by
     refine⟨λa ha _ C=>?_,λ_ _ _ h=>h,rfl⟩;have u:(if F.A a then(if ∃b l,F.bg=on (b,l)/\(a=b\/a=l)then on 1 else on 0)else JT)≠(JT:Option Nat):=C;rw[J6 ha]at u;exact u rfl
    exact bt.tr r _ _ y
  .rw[J6 q,MT]at e
   split at e<;>cases e
 .simp only[J8 ha]
  split
  .exact .inr rfl
  .exact .inl rfl
 .simp only at ha
  split at ha
  .split at ha
   .assumption
   .cases ha
  .cases ha
 .simp only at ha
  split at ha
  .assumption
  .exact Kx rfl ha
variable{P:KF}{w:K1}{mg:K2->Option J0}{base:Lj}
theorem FP{x i:K2}{st:LM}{f:JY}{fd:KJ}{N ps:List K2}{k:Nat}(F:dv K x i st f fd)(S:cx N ps (ah st))
  (I:∀(j:J0) (A:Lf) (outer:List Q6) (s:J4) (H:Hp) (E:XK),ee k (A.deeper (Oy i (ah st) s.heap.objs.size f j))->
   PSs (fK (iv P w) P w K mg base N i (ah st) f j A outer s H E) (cK st) (tG K H g (λ_=>E))):f0 P w K mg base (iv P w) (k+1) f fd ps (F0 K ps.length (f8 N.length g)):=by
 refine F.okE S (λvs H Q E h=>h.1) λj A outer s H vs Q E Z h=>?_;obtain⟨hl,u,ds,β,fr,hd,r,β',e,h⟩:=h;refine⟨_,I j A outer s H E Z,?_⟩;obtain⟨B,ok,U,h1,hn⟩:=wI (N:=N) fr hd;have J:∀{y:Ow} {H':Hp},g_ B H y H'->Fr (d5 y u.bg) H' β'->To u H H' β'/\Tr (d5 y u.bg) H' u H':=λ{y H'} s m=>by
  have hs:∀a,u.A a->y a≠JT:=λa ha=>by
   rw[s.tg a (U a ha)];rcases U a ha with z|z<;>rw[z]<;>simp
  refine⟨⟨λa o ha n=>s.kp a o ha ?_,λa ha=>m.occ a (hs a ha),λb l e=>fr.bgA b l e,m.bag⟩,λa ha _ z=>ha (hs a z),λ_ _ _ h=>h,rfl⟩;cases q:B a with
  |none=>exact .inl rfl
  |some t=>
   have:=U a (hn a (by rw[q];simp));rcases this with z|z
   .rw[q]at z;exact .inr z
   .obtain⟨b,l,e,w⟩:=h1 a z
    obtain⟨n1,n2⟩:=n b l e;rcases w with w|w
    .exact Kx w n1
    .exact Kx w n2
 unfold f8 at e;split at e
 .rename_i d β1 R
  cases e;refine⟨B,u.bg,r8 N.length ds,β,.rt d,β',ok,R,λv y H' s m hv=>?_⟩;obtain⟨T,W⟩:=J s m;exact h v H' T (bt.tr W _ _ hv)
 .rename_i L β1 R
  cases e;refine⟨B,u.bg,r8 N.length ds,β,.nx L,β',ok,R,λY y H' s O=>?_⟩;obtain⟨T,W⟩:=J s O.fr;exact h _ H' T rfl
 .rename_i C L β1 R
  cases e;refine⟨B,u.bg,r8 N.length ds,β,.ex C L,β',ok,R,λY y H' s O=>?_⟩;obtain⟨T,W⟩:=J s O.fr;exact h H' T
 .cases e
variable{prog:KF}{A:Lf}
theorem JL(y:A.handled=JT)(it t:JY)(ne:t≠it)(d:Array J0):Rk prog w A it [it,t] d.size (λi v=>d[i]?=on v) (λi h=>h.IsTupleIter it t i/\h.IsTuple t d) where
 live:=λ_ _ st=>let ⟨o,e,_⟩:=st.1;⟨o,e⟩
 frame:=λ_ _ _ st k=>⟨st.1.at λo e=>k it (by simp) o e,by
  obtain⟨o,e,r⟩:=st.2;exact⟨o,k t (by simp) o e,r⟩⟩
 item:=λi s Q E J st L=>by
  obtain⟨o,j,co,g⟩:=id st.1;obtain⟨C,l,_,I,q⟩:=st.2;have u:d[i]?=on d[i]:=by simp[J]
  unfold L5;refine JR (wpAny_callSpecial?_slot (name:=LQ "__next__") st.1.typeIs NI (KR NI st.1.typeIs Rl ?_ (Rb _)));show Ke _ _ (Te (.ref it) 0>>=_) _ _ _;refine JR (Lu j g (x:= .ref t) rfl ?_);show Ke _ _ (if(Ko t==KZ)=JW then _ else _) _ _ _;rw[J6 (show ¬((Ko t==KZ)=JW)from J7)];show Ke _ _ (Te (.ref it) 1>>=_) _ _ _;refine JR (Lu j g (x:= .int i 0) rfl ?_);show Ke _ _ (seqItems? (.ref t)>>=_) _ _ _;refine JR (L7 l q ?_);simp only[Lm,u];refine JR (M6 j g (by simp) (JU ⟨d[i],rfl,JU (L _ _ s.toks u ⟨?_,?_⟩ (LA ..))⟩))
  .exact⟨_,MF _ j (Ob (LL g _)),(Pc ..).trans co,by rw[LL g];simp[Nl]⟩
  .exact⟨C,(LA ..).extBut _ _ ne l,by assumption,I,q⟩
 done:=λs Q E st N=>by
  obtain⟨o,j,co,g⟩:=id st.1;obtain⟨C,l,_,I,q⟩:=st.2;have u:d[d.size]?=JT:=by simp
  unfold L5;refine JR (wpAny_callSpecial?_slot (name:=LQ "__next__") st.1.typeIs NI (KR NI st.1.typeIs Rl ?_ (Rb _)));show Ke _ _ (Te (.ref it) 0>>=_) _ _ _;refine JR (Lu j g (x:= .ref t) rfl ?_);show Ke _ _ (if(Ko t==KZ)=JW then _ else _) _ _ _;rw[J6 (show ¬((Ko t==KZ)=JW)from J7)];show Ke _ _ (Te (.ref it) 1>>=_) _ _ _;refine JR (Lu j g (x:= .int d.size 0) rfl ?_);show Ke _ _ (seqItems? (.ref t)>>=_) _ _ _;refine JR (L7 l q ?_);simp only[Lm,u];refine JR (M0 (JR (M6 j g (by simp) ?_)));show Ke _ _ (Rh (.type "StopIteration") []>>=_) _ _ _;refine JR ?_;simp only[Rh,newTuple];refine JR (KU ?_ (by size_fits));refine JR (m:=M5 _ _) (Ng (a:=KZ) (by first|rfl|(simp only[M5];rfl)) ?_);refine KU ?_ (by size_fits)
  simp only[R6];refine JR (QA ?_)
  first|rw[show A.in1.handled=JT from y]|rw[y];skip
  refine JR (JU (Rr ?_));exact N _ _ (((LA ..).extBut.push _).push _) ⟨_,Kf _ rfl,rfl⟩
structure Ap (z TI TO i1 i2:JY) (f1 f2:List JY):Prop where
 a1:TI≠z
 a2:TO≠z
 a3:i1≠z
 a4:i2≠z
 a5:TI≠TO
 a6:TI≠i1
 a7:TI≠i2
 a8:TO≠i1
 a9:TO≠i2
 b1:i1≠i2
 c1:z∉f1
 c2:TO∉f1
 c3:i2∉f1
 d1:z∉f2
 d2:TO∉f2
 d3:i1∉f2
 m1:i1∈f1
 m2:i2∈f2
end
section
variable{prog:KF}{w:K1}{A:Lf}{E:J0->J4->Prop}{s:J4}
theorem cf{it:JY}{f:List JY}{h h':Lj}(a:KI it h h')(n:it∉f):∀b∈f,∀o,h.get? b=on o->h'.get? b=on o:=λb c o e=>a.extBut b o (λq=>n (q▸c)) e
theorem wa{z TI TO r t:JY}{f1 f2:List JY}{u B k:Nat}{P1 P2:Nat->J0->Prop}{W X:Nat->Lj->Prop}{a b:J0}{Q:J0->J4->Prop}(L:Rk prog w A r f1 u P1 W)(N:Rk prog w A t f2 B P2 X)(d:Ap z TI TO r t f1 f2)
  (P:Pr s.heap z TI TO .none) (eI:M4 s.heap TI (.ref r) (.ref t)) (eO:M4 s.heap TO a b) (s1:W k s.heap) (s2:X k s.heap) (k1:k<u) (k2:k<B)
  (hQ:∀h' tk x y,P1 k x->P2 k y->Pr h' z TI TO (Nl s.heap.objs.size)->M4 h' TO x y->W (k+1) h'->X (k+1) h'->M4 h' s.heap.objs.size x y->h'.objs.size=s.heap.objs.size+1->(∀c o,c≠z->c≠TO->c≠r->c≠t->s.heap.get? c=on o->h'.get? c=on o)->Q (.ref s.heap.objs.size) {s with heap:=h',toks:=tk}):
  Ke (Ky prog w) A (Builtin.«zip.__next__» ⟨[.ref z],[]⟩) (λZ s'=>∃v,Z= .done (.ret v)/\Q v s') E s:=by
 obtain⟨hp,gg,dd,tk0,os⟩:=s;show Ke _ _ (Te (.ref z) 2>>=_) _ _ _;refine JR (Lu P rfl (x:= .bool JZ) rfl ?_);show Ke _ _ (Te (.ref z) 3>>=_) _ _ _;refine JR (Lu P rfl (x:= .ref TI) rfl ?_);refine JR (L7 eI rfl ?_);show Ke _ _ (Mg (.ref z)>>=_) _ _ _;refine JR ?_;unfold Mg;refine JR (Lu P rfl (x:= .none) rfl (JU ?_));simp only[K8];refine JR (M0 ?_);refine JR (Lu P rfl (x:= .ref TO) rfl ?_);refine JR (LG P (by simp) λg1 C g=>?_)
 replace C:Pr g1 z TI TO .ellipsis:=C
 replace g:KI z hp g1:=g
 refine JR ?_;simp only[List.zipIdx_cons,List.zipIdx_nil,Na,Nq];refine JR (JR (QB ?_));show Ke _ _ (L5 (.ref r)>>=_) _ _ _;refine JR (L.item k _ _ _ k1 (L.frame _ _ _ s1 (cf g d.c1)) λx g2 tk2 px st2 h=>JU ?_)
 replace h:KI r g1 g2:=h
 have R:M4 g2 TO a b:=h.extBut _ _ d.a8 (g.extBut _ _ d.a2 eO);refine JR (L7 R rfl ?_);refine JR (Qn R λg3 F i=>?_)
 replace F:M4 g3 TO x b:=F
 replace i:KI TO g2 g3:=i
 refine JR (Rq (JU ?_));refine JR (JR (QB ?_));show Ke _ _ (L5 (.ref t)>>=_) _ _ _;refine JR (N.item k _ _ _ k2 (N.frame _ _ _ (N.frame _ _ _ (N.frame _ _ _ s2 (cf g d.d1)) (cf h d.d3)) (cf i d.d2)) λy g4 tk4 py st4 j=>JU ?_)
 replace j:KI t g3 g4:=j
 have T:M4 g4 TO x b:=j.extBut _ _ d.a9 F;refine JR (L7 T rfl ?_);refine JR (Qn T λf m l=>?_)
 replace m:M4 f TO x y:=m
 replace l:KI TO g4 f:=l
 refine JR (Rq (JU (JU ?_)));refine JR (L7 m rfl ?_);refine JR (R8 ?_);have zs:f.objs.size=hp.objs.size:=by rw[l.1,j.1,i.1,h.1,g.1]
 have U:Pr f z TI TO .ellipsis:=l.extBut _ _ d.a2.symm (j.extBut _ _ d.a4.symm (i.extBut _ _ d.a2.symm (h.extBut _ _ d.a3.symm C)));have kp5:∀c o,c≠z->c≠TO->c≠r->c≠t->hp.get? c=on o->f.get? c=on o:=λc o u B n3 n4 e=>l.extBut _ _ B (j.extBut _ _ n4 (i.extBut _ _ B (h.extBut _ _ n3 (g.extBut _ _ u e))));have st1:W (k+1) f:=L.frame _ _ _ (L.frame _ _ _ (L.frame _ _ _ st2 (cf i d.c2)) (cf j d.c3)) (cf l d.c2);have st5:X (k+1) f:=N.frame _ _ _ st4 (cf l d.d2);have zl:z<f.objs.size:=Kr U;show Ke _ _ (OK (.ref z) (.ref f.objs.size)>>=_) _ _ _;refine JR ?_;unfold OK;have ez6:Pr (f.push {cls:= .type "tuple",data:= .seq #[x,y]}) z TI TO .ellipsis:=JV _ U;refine JR (LG ez6 (by simp) λg7 H I=>?_)
 replace H:Pr g7 z TI TO (Nl f.objs.size):=H
 refine LG H (by simp) λO p J=>?_
 replace p:Pr O z TI TO (Nl f.objs.size):=p
 have Y:∀c o,c≠z->f.get? c=on o->O.get? c=on o:=λc o n e=>J.extBut _ _ n (I.extBut _ _ n (JV _ e));have eT:M4 O f.objs.size x y:=J.extBut _ _ (Mz zl) (I.extBut _ _ (Mz zl) (Kf _ rfl));have z8:O.objs.size=f.objs.size+1:=by rw[J.1,I.1,L9]
 rw[zs]at p eT z8;refine JU ⟨_,rfl,?_⟩;show Q (.ref f.objs.size) ⟨O,gg,dd,_,os⟩;rw[zs];exact hQ O _ x y px py p (Y _ _ d.a2 m) (L.frame _ _ _ st1 λb hb o e=>Y b o (λq=>d.c1 (q▸hb)) e) (N.frame _ _ _ st5 λb hb o e=>Y b o (λq=>d.d1 (q▸hb)) e) eT z8 λc o u B n3 n4 e=>Y c o u (kp5 c o u B n3 n4 e)
theorem yB{z TI TO n r:JY}{f1 f2:List JY}(H:Rk prog w A n f1 m P1 S1)(I:Rk prog w A r f2 T P2 S2)(i:Ap z TI TO n r f1 f2)
  (u:Pr s.heap z TI TO .none) (Y:M4 s.heap TI (.ref n) (.ref r)) (Z:M4 s.heap TO a b) (U:S1 k s.heap) (s2:S2 k s.heap) (N:k=m\/(k<m/\k=T))
  (W:∀h' e tk,(∀c o,c≠z->c≠TO->c≠n->c≠r->s.heap.get? c=on o->h'.get? c=on o)->(∃o,h'.get? e=on o/\o.cls= .type "StopIteration")->E (.ref e) {s with heap:=h',toks:=tk}):
  Ke (Ky prog w) A (Builtin.«zip.__next__» ⟨[.ref z],[]⟩) Q E s:=by
 obtain⟨hp,gg,dd,tk0,os⟩:=s;show Ke _ _ (Te (.ref z) 2>>=_) _ _ _;refine JR (Lu u rfl (x:= .bool JZ) rfl ?_);show Ke _ _ (Te (.ref z) 3>>=_) _ _ _;refine JR (Lu u rfl (x:= .ref TI) rfl ?_);refine JR (L7 Y rfl ?_);show Ke _ _ (Mg (.ref z)>>=_) _ _ _;refine JR ?_;unfold Mg;refine JR (Lu u rfl (x:= .none) rfl (JU ?_));simp only[K8];refine JR (M0 ?_);refine JR (Lu u rfl (x:= .ref TO) rfl ?_);refine JR (LG u (by simp) λJ j f=>?_)
 replace j:Pr J z TI TO .ellipsis:=j
 replace f:KI z hp J:=f
 refine JR ?_;simp only[List.zipIdx_cons,List.zipIdx_nil,Na,Nq];refine JR (JR (QB ?_));show Ke _ _ (L5 (.ref n)>>=_) _ _ _;rcases N with rfl|⟨N,rfl⟩
 .refine JR (H.done _ _ _ (H.frame _ _ _ U (cf f i.c1)) λt e d O=>?_)
  replace d:PU n J t:=d
  obtain⟨P,h,v⟩:=O;have y:Pr t z TI TO .ellipsis:=d _ _ i.a3.symm j;have p:e≠z:=λq=>by subst q;rw[y]at h;cases h;simp at v
  exact LG y (by simp) λL _ g=>W L e _ (λc o m _ R _ q=>g.extBut _ _ m (d _ _ R (f.extBut _ _ m q))) ⟨P,g.extBut _ _ p h,v⟩
 .refine JR (H.item k _ _ _ N (H.frame _ _ _ U (cf f i.c1)) λx t tk2 px st2 d=>JU ?_)
  replace d:KI n J t:=d
  have B:M4 t TO a b:=d.extBut _ _ i.a8 (f.extBut _ _ i.a2 Z);refine JR (L7 B rfl ?_);refine JR (Qn B λL eO3 g=>?_)
  replace g:KI TO t L:=g
  refine JR (Rq (JU ?_));refine JR (JR (QB ?_));show Ke _ _ (L5 (.ref r)>>=_) _ _ _;refine JR (I.done _ _ _ (I.frame _ _ _ (I.frame _ _ _ (I.frame _ _ _ s2 (cf f i.d1)) (cf d i.d3)) (cf g i.d2)) λX e l O=>?_)
  replace l:PU r L X:=l
  obtain⟨P,h,v⟩:=O;have C:Pr X z TI TO .ellipsis:=l _ _ i.a4.symm (g.extBut _ _ i.a2.symm (d.extBut _ _ i.a3.symm j));have p:e≠z:=λq=>by subst q;rw[C]at h;cases h;simp at v
  exact LG C (by simp) λg5 _ F=>W g5 e _ (λc o m T R n4 q=>F.extBut _ _ m (l _ _ n4 (g.extBut _ _ T (d.extBut _ _ R (f.extBut _ _ m q))))) ⟨P,F.extBut _ _ p h,v⟩
theorem v9{z TI TO e f:JY}{f1 f2:List JY}(i:∀d:Lf,d.handled=A.handled->Rk prog w d e f1 n1 P1 S1)(j:∀d:Lf,d.handled=A.handled->Rk prog w d f f2 n2 P2 S2)(l:Ap z TI TO e f f1 f2)
  (h:Pr s.heap z TI TO .none) (m:M4 s.heap TI (.ref e) (.ref f)) (n:M4 s.heap TO a b) (p:S1 k s.heap) (q:S2 k s.heap) (r:k<n1) (t:k<n2)
  (u:∀h' g x y,P1 k x->P2 k y->Pr h' z TI TO (Nl s.heap.objs.size)->M4 h' TO x y->S1 (k+1) h'->S2 (k+1) h'->M4 h' s.heap.objs.size x y->h'.objs.size=s.heap.objs.size+1->(∀c o,c≠z->c≠TO->c≠e->c≠f->s.heap.get? c=on o->h'.get? c=on o)->Q (on (.ref s.heap.objs.size)) {s with heap:=h',toks:=g}):
  Ke (Ky prog w) A (Nx (.ref z)) Q E s:=by
 have ty:s.TypeIs (.ref z) "zip":=⟨_,h,rfl⟩;unfold Nx;exact JR (Nu (wpAny_callSpecial?_slot (name:=LQ "__next__") ty PR (KR PR ty F.entry_zip_next (wa (i _ rfl) (j _ rfl) l h m n p q r t λh' g x y a1 a2 a3 a4 a5 a6 a7 a8 a9=>JU (u h' g x y a1 a2 a3 a4 a5 a6 a7 a8 a9)) (F.args_zip_next_1 _))))
theorem yA{z TI TO f g:JY}{f1 f2:List JY}(j:∀d:Lf,d.handled=A.handled->Rk prog w d f f1 n1 P1 S1)(l:∀d:Lf,d.handled=A.handled->Rk prog w d g f2 n2 P2 S2)(m:Ap z TI TO f g f1 f2)
  (h:Pr s.heap z TI TO .none) (n:M4 s.heap TI (.ref f) (.ref g)) (p:M4 s.heap TO a b) (q:S1 k s.heap) (r:S2 k s.heap) (t:k=n1\/(k<n1/\k=n2))
  (u:∀h' i,(∀c o,c≠z->c≠TO->c≠f->c≠g->s.heap.get? c=on o->h'.get? c=on o)->Q JT {s with heap:=h',toks:=i}):Ke (Ky prog w) A (Nx (.ref z)) Q E s:=by
 have ty:s.TypeIs (.ref z) "zip":=⟨_,h,rfl⟩;unfold Nx;refine JR (Nu (wpAny_callSpecial?_slot (name:=LQ "__next__") ty PR (KR PR ty F.entry_zip_next (yB (j _ rfl) (l _ rfl) m h n p q r t λh' e i v y=>?_) (F.args_zip_next_1 _))));obtain⟨o,B,C⟩:=y;refine JR (L8 (T:="StopIteration") (b:=JW) ⟨o,B,C⟩ Ql ?_);exact JU (u _ _ v)
def up(b:Bool)(h:Lj)(a:JY)(its:Array J0):Prop:=if b=JW then h.IsList a its else h.IsTuple a its
noncomputable def CQ(b:Bool):String:=if b=JW then "list_iterator"else "tuple_iterator"
noncomputable abbrev nc(b:Bool)(a:JY):KS:={cls:= .type (CQ b),data:= .fields #[.ref a,.int 0 0]}
def fN(b:Bool)(h:Lj)(it a:JY)(k:Nat):Prop:=if b=JW then h.IsListIter it a k else h.IsTupleIter it a k
theorem up.keep{b:Bool}{h h':Lj}(x:up b h a its)(k:∀o,h.get? a=on o->h'.get? a=on o):up b h' a its:=by
 unfold up at x⊢;split at x
 .rename_i q;rw[J8 q];exact x.at λo e=>k o e
 .rename_i q;rw[J6 q]
  obtain⟨o,e,r⟩:=x;exact⟨o,k o e,r⟩
theorem mX{b:Bool}(x:up b s.heap a its)(h:Q (.ref s.heap.objs.size) {s with heap:=s.heap.push (nc b a)}):Ke (Ky prog w) A (P4 (.ref a)) Q E s:=by
 cases b with
 |true=>exact Px (show s.heap.IsList a its from x) h
 |false=>exact QH (show s.heap.IsTuple a its from x) h
theorem qp(b:Bool)(c:A.handled=JT)(it a:JY)(ne:a≠it)(its:Array J0):Rk prog w A it [it,a] its.size (λi v=>its[i]?=on v) (λi h=>fN b h it a i/\up b h a its):=by
 cases b with
 |true=>exact Su c it a ne its
 |false=>exact JL c it a ne its
abbrev Ul(b1:Bool)(h:Lj)(a:JY):Lj:=h.push (nc b1 a)
abbrev Uk(b1 b2:Bool)(h:Lj)(a b:JY):Lj:=(Ul b1 h a).push (nc b2 b)
abbrev Uj(b1 b2:Bool)(h:Lj)(a b:JY):Lj:=(Uk b1 b2 h a b).push {cls:= .type "tuple",data:= .seq #[.ref h.objs.size,.ref (Ul b1 h a).objs.size]}
abbrev Ui(b1 b2:Bool)(h:Lj)(a b:JY):Lj:=(Uj b1 b2 h a b).push {cls:= .type "tuple",data:= .seq #[.none,.none]}
abbrev M_(b1 b2:Bool)(h:Lj)(a b:JY):Lj:=(Ui b1 b2 h a b).push {cls:= .type "zip",data:= .fields #[.none,.bool JZ,.bool JZ,.ref (Uk b1 b2 h a b).objs.size,.ref (Uj b1 b2 h a b).objs.size]}
theorem vf(b1 b2:Bool)(a b:JY)(xs ys:Array J0):
  Meets (Builtin.«zip.__new__» ⟨[.type "zip",.ref a,.ref b],[]⟩) (λ_ R s=>up b1 s.heap a xs/\up b2 s.heap b ys/\R (.ok (.ret (.ref (Ui b1 b2 s.heap a b).objs.size))) {s with heap:=M_ b1 b2 s.heap a b}):=
 .of_wp λprog w A R s h=>by
  obtain⟨c,g,d,f,os⟩:=s;obtain⟨j,k,q⟩:=h;have i:=sub_zip;have l:up b1 (Shared.heap ⟨c,g,d,f,os⟩) a xs:=j;have m:up b2 (Shared.heap ⟨c.push (nc b1 a),g,d,f,os⟩) b ys:=k.keep λo e=>JV _ e
  wp_walk using mX l,mX m
  exact⟨_,rfl,q⟩
theorem ym{b1 b2:Bool}(q:up b1 s.heap l1 xs)(r:up b2 s.heap l2 ys)
  (h:∀h',Pr h' (s.heap.objs.size+4) (s.heap.objs.size+2) (s.heap.objs.size+3) .none->M4 h' (s.heap.objs.size+2) (.ref s.heap.objs.size) (.ref (s.heap.objs.size+1))->M4 h' (s.heap.objs.size+3) .none .none->fN b1 h' s.heap.objs.size l1 0->fN b2 h' (s.heap.objs.size+1) l2 0->h'.objs.size=s.heap.objs.size+5->(∀c o,s.heap.get? c=on o->h'.get? c=on o)->Q (.ref (s.heap.objs.size+4)) {s with heap:=h'}):
  Ke (Ky prog w) A (Qu (.type "zip") [.ref l1,.ref l2]) Q E s:=by
 refine callType_new F.called_zip (by decide) (F.typeCall_zip_2 _ _) (F.newCall_zip_2 _ _) (λobj=>F.args_object_init_3 obj _ _) F.entry_zip_new (vf b1 b2 l1 l2 xs ys) ⟨q,r,?_⟩;have f:(Ul b1 s.heap l1).objs.size=s.heap.objs.size+1:=L9 ..;have g:(Uk b1 b2 s.heap l1 l2).objs.size=s.heap.objs.size+2:=by rw[L9,f]
 have i:(Uj b1 b2 s.heap l1 l2).objs.size=s.heap.objs.size+3:=by rw[L9,g]
 have j:(Ui b1 b2 s.heap l1 l2).objs.size=s.heap.objs.size+4:=by rw[L9,i]
 have t:(M_ b1 b2 s.heap l1 l2).objs.size=s.heap.objs.size+5:=by rw[L9,j]
 have k:(M_ b1 b2 s.heap l1 l2).get? (Ui b1 b2 s.heap l1 l2).objs.size=on _:=Kf _ rfl;have l:(M_ b1 b2 s.heap l1 l2).get? (Uj b1 b2 s.heap l1 l2).objs.size=on _:=JV _ (Kf _ rfl);have m:(M_ b1 b2 s.heap l1 l2).get? (Uk b1 b2 s.heap l1 l2).objs.size=on _:=JV _ (JV _ (Kf _ rfl));have n:(M_ b1 b2 s.heap l1 l2).get? (Ul b1 s.heap l1).objs.size=on _:=JV _ (JV _ (JV _ (Kf _ rfl)));have u:(M_ b1 b2 s.heap l1 l2).get? s.heap.objs.size=on _:=JV _ (JV _ (JV _ (JV _ (Kf _ rfl))));show _/\_;rw[g,i,j]at k;rw[f,g]at m;rw[i]at l;rw[f]at n;rw[j];have d:∀(b:Bool) (h':Lj) (p a:JY),h'.get? p=on (nc b a)->fN b h' p a 0:=λb h' p a e=>by
  cases b with
  |true=>exact⟨_,e,rfl,rfl⟩
  |false=>exact⟨_,e,rfl,rfl⟩
 exact⟨⟨_,k,rfl⟩,h _ k m l (d _ _ _ _ u) (d _ _ _ _ n) t λc o x=>JV _ (JV _ (JV _ (JV _ (JV _ x))))⟩
def rx(b:Bool)(K:Kt)(H:Hp)(a:JY)(xs:List V):Prop:=if b=JW then e_ K H a xs else hH K H a xs
noncomputable def UJ(b1 b2:Bool)(K:Kt)(a b:JY):It:=
 ⟨λi H=>∃xs ys x y,rx b1 K H a xs/\rx b2 K H b ys/\xs[i]?=on x/\ys[i]?=on y,
  λi H v c=>∃p x y,H p=JT/\v= .ref p/\c=upd H p (.tup [x,y])/\∀xs ys,rx b1 K H a xs->rx b2 K H b ys->xs[i]?=on x/\ys[i]?=on y,
  λi H=>∃xs ys,rx b1 K H a xs/\rx b2 K H b ys/\(xs.length=i\/(i<xs.length/\ys.length=i))⟩
variable{X:Cx}{ai:List (JY×KS)}{σ:St}{H:Hp}
theorem cp.src{b:Bool}(I:cp X ai σ H s)(h:rx b X.K H a xs):∃its:List J0,aq xs its/\up b s.heap a its.toArray:=by
 cases b with
 |true=>
  obtain⟨its,r,p,_⟩:=I.list (show e_ X.K H a xs from h);exact⟨its,r,p.isList⟩
 |false=>
  obtain⟨its,r,p,_⟩:=I.tuple (show hH X.K H a xs from h);exact⟨its,r,p⟩
theorem cp.src_inj{b:Bool}(I:cp X ai σ H s)(h:rx b X.K H a xs)(h':rx b X.K H a ys):xs=ys:=by
 cases b with
 |true=>exact I.list_inj (show e_ X.K H a xs from h) h'
 |false=>exact I.tuple_inj (show hH X.K H a xs from h) h'
theorem fN.get{b:Bool}{h:Lj}(x:fN b h it a k):∃o,h.get? it=on o/\o.cls= .type (CQ b)/\∃fs,o.data= .fields fs:=by
 cases b with
 |true=>obtain⟨o,e,c,d⟩:=(show h.IsListIter it a k from x);exact⟨o,e,c,_,d⟩
 |false=>obtain⟨o,e,c,d⟩:=(show h.IsTupleIter it a k from x);exact⟨o,e,c,_,d⟩
theorem fN.keep{b:Bool}{h h':Lj}(x:fN b h it a k)(q:∀o,h.get? it=on o->h'.get? it=on o):fN b h' it a k:=by
 cases b with
 |true=>exact(show h.IsListIter it a k from x).at λo e=>q o e
 |false=>exact(show h.IsTupleIter it a k from x).at λo e=>q o e
theorem cp.turnNew{h':Lj}{t':Nat}{ch:List JY}{p:JY}{o:HO}(I:cp X ai σ H s)(a:∀b∈ch,eA X ai H b)(k:∀b u,b∉ch->s.heap.get? b=on u->h'.get? b=on u)(d:s.heap.objs.size<=p)(new:bC X.prog X.w (upd H p o) h' p o):cp X ai σ (upd H p o) {s with heap:=h',toks:=t'}:=by
 have hn:H p=JT:=I.hok.fresh d;have f:∀b u,H b=on u->b∉ch:=λb u e z=>by rw[(a b z).1]at e;cases e
 refine I.call' (s':={s with heap:=h',toks:=t'}) (ch:=ch) rfl ⟨λb u e _ _ hc=>k b u hc e,λb u e _ _ hc=>⟨u.slots,k b u hc e⟩,λb u e z hc=>?_,λb u e hc=>⟨u,k b u hc e⟩,λb ys e=>?_,λb u ys e=>?_,λb ys e=>⟨#[],?_⟩⟩ (λb u e=>?_) I.bare λb g=>?_
 .rw[a_ (K7 (Ku (Kr e) d))];exact z
 .rw[a_ (aC e hn)];exact e
 .rw[a_ (aC e hn)];exact e
 .rw[a_ (aC e hn),e];simp
 .by_cases z:b=p
  .subst z;rw[af]at e;cases e;exact new
  .rw[a_ z]at e
   refine(I.hok b u e).stay (λc v hc q=>k c v ?_ q) (λc q=>by rw[a_ (aC q hn)];exact q) λc xs q=>by rw[a_ (aC q hn)];exact q
   rcases hc with rfl|hc
   .exact f _ _ e
   .exact f _ _ hc
 .obtain⟨l,f1,f2,h,i,j⟩:=a b g
  exact⟨h,f1,i,j⟩
theorem cp.turnL{h':Lj}{ch:List JY}(I:cp X ai σ H s)(a:∀b∈ch,eA X ai H b)(k:∀b u,b∉ch->s.heap.get? b=on u->h'.get? b=on u):cp X ai σ H {s with heap:=h',toks:=t'}:=by
 have d:∀b u,H b=on u->b∉ch:=λb u e z=>by rw[(a b z).1]at e;cases e
 refine I.call' (s':={s with heap:=h',toks:=t'}) (ch:=ch) rfl ⟨λb u e _ _ hc=>k b u hc e,λb u e _ _ hc=>⟨u.slots,k b u hc e⟩,λb u e z hc=>z,λb u e hc=>⟨u,k b u hc e⟩,λb ys e=>e,λb u ys e=>e,λb ys e=>⟨#[],by rw[e];simp⟩⟩ (λb u e=>?_) I.bare λb f=>?_
 .refine(I.hok b u e).stay (λc v hc q=>k c v ?_ q) (λc q=>q) λc xs q=>q
  rcases hc with rfl|hc
  .exact d _ _ e
  .exact d _ _ hc
 .obtain⟨j,f1,f2,g,h,i⟩:=a b f
  exact⟨g,f1,h,i⟩
theorem cp.src_ne{b:Bool}(I:cp X ai σ H s)(h:rx b X.K H a xs)(f:eA X ai H c):a≠c:=by
 obtain⟨i,f1,f2,f3,j,k⟩:=f;have d:∀o,X.K.lookup a=on o->a≠c:=λo e z=>by
  have g:=I.ok.mod.kin a o e;subst z;rcases f3 with f3|f3
  .exact I.ok.noex a o g f3
  .exact Kx (Ku (Kr (I.ok.bs a o g).1) f3) (Lc _)
 have rd:∀u,Rd H a u->a≠c:=λu r z=>by
  subst z;rcases r with r|⟨_,r⟩<;>rw[i]at r<;>cases r
 cases b with
 |true=>
  rcases(show e_ X.K H a xs from h)with h|⟨o,_,_,e,_⟩
  .exact rd _ h
  .exact d o e
 |false=>
  rcases(show hH X.K H a xs from h)with h|⟨o,_,_,e,_⟩
  .exact rd _ h
  .exact d o e
theorem yI{w:K1}{K:Kt}{x1}(b1 b2:Bool)(C F z TI TO f g:JY)(nd:[z,TI,TO,f,g].Nodup):
  oa P w K (.Tuple elts x1 pos) (UJ b1 b2 K C F) [z,TI,TO,f,g] z (λi h=>Pr h z TI TO .none/\M4 h TI (.ref f) (.ref g)/\(∃a b,M4 h TO a b)/\fN b1 h f C i/\fN b2 h g F i) where
 mem:=by simp
 obj:=λi h st b j=>by
  obtain⟨p,r,⟨a,b',J⟩,L,N⟩:=st;simp only[Kk,Ly,NS]at j;rcases j with rfl|rfl|rfl|rfl|rfl
  .exact⟨_,p,λv q=>by cases q⟩
  .exact⟨_,r,λv q=>by cases q⟩
  .exact⟨_,J,λv q=>by cases q⟩
  .obtain⟨o,e,_,fs,d⟩:=L.get
   exact⟨o,e,λv q=>by rw[d]at q;cases q⟩
  .obtain⟨o,e,_,fs,d⟩:=N.get
   exact⟨o,e,λv q=>by rw[d]at q;cases q⟩
 keep:=λi h h' st k=>by
  obtain⟨p,r,⟨a,b',J⟩,L,N⟩:=st;exact⟨k z (by simp) _ p,k TI (by simp) _ r,⟨a,b',k TO (by simp) _ J⟩,L.keep λo e=>k f (by simp) o e,N.keep λo e=>k g (by simp) o e⟩
 item:=by
  intro X hP hw hK n i ai s σ H E I O st hg;subst hP hw hK;obtain⟨xs,ys,x,y,q1,q2,hx,hy⟩:=hg;obtain⟨p,r,⟨a,b',J⟩,L,N⟩:=st;obtain⟨l,r1,p1⟩:=cp.src I q1;obtain⟨m,r2,p2⟩:=cp.src I q2;have hd:=I.ok.hd n;simp only[KM,Kk,Ly,NS,Tw]at nd;obtain⟨⟨Y,z2,U,W⟩,⟨t1,t2,t3⟩,⟨Z,o2⟩,R,_⟩:=nd;have t:∀c∈[z,TI,TO,f,g],C≠c:=λc n=>cp.src_ne I q1 (O c n);have B:∀c∈[z,TI,TO,f,g],F≠c:=λc n=>cp.src_ne I q2 (O c n);have ap:Ap z TI TO f g [f,C] [g,F]:=⟨Ne.symm Y,Ne.symm z2,Ne.symm U,Ne.symm W,t1,t2,t3,Z,o2,R,by simp[U,(t z (by simp)).symm],by simp[Z,(t TO (by simp)).symm],by simp[Ne.symm R,(t g (by simp)).symm],by simp[W,(B z (by simp)).symm],by simp[o2,(B TO (by simp)).symm],by simp[R,(B f (by simp)).symm],by simp,by simp⟩;have k1:i<l.toArray.size:=by
   rw[Kh,<-r1.length];exact(Kc.mp hx).1
  have k2:i<m.toArray.size:=by
   rw[Kh,<-r2.length];exact(Kc.mp hy).1
  refine v9 (λA' h'=>qp b1 (h'.trans hd) f C (t f (by simp)) l.toArray) (λA' h'=>qp b2 (h'.trans hd) g F (B g (by simp)) m.toArray) ap p r J ⟨L,p1⟩ ⟨N,p2⟩ k1 k2 λh' tk u v pu pv fz fO f1 f2 fT sz kp=>?_;refine⟨_,rfl,wpAny_letOwnedTupleGo_zip (s:={s with heap:=h',toks:=tk}) fz λT ez'' Q=>?_⟩
  replace Q:KI z h' T:=Q
  have zT:s.heap.objs.size≠z:=Mz (Kr p);obtain⟨u',hu,ru⟩:=r1.get hx;obtain⟨v',hv,rv⟩:=r2.get hy;have eu:u=u':=by
   have:l[i]?=on u:=by simpa using pu
   rw[this]at hu;exact KE hu
  have ev:v=v':=by
   have:m[i]?=on v:=by simpa using pv
   rw[this]at hv;exact KE hv
  subst eu ev;have kk:∀b o,b∉[z,TI,TO,f,g]->s.heap.get? b=on o->T.get? b=on o:=λb o j e=>by
   simp only[Kk,Ly,NS,Tw]at j;exact Q.extBut b o j.1 (kp b o j.1 j.2.2.1 j.2.2.2.1 j.2.2.2.2 e)
  have I2:cp X ai σ (upd H s.heap.objs.size (.tup [x,y])) {s with heap:=T,toks:=tk}:=by
   refine cp.turnNew I O kk (J3 _) ⟨by show 2<=Ki;decide,[u,v],.cons ru (.cons rv .nil),_,Q.extBut _ _ zT fT,rfl,_,rfl⟩
  refine⟨.ref s.heap.objs.size,_,I2,rfl,⟨s.heap.objs.size,x,y,I.hok.fresh (J3 _),rfl,rfl,λas bs h1 h2=>⟨by rw[cp.src_inj I h1 q1];exact hx,by rw[cp.src_inj I h2 q2];exact hy⟩⟩,⟨ez'',?_,⟨u,v,?_⟩,?_,?_⟩,λb j=>?_⟩
  .exact Q.extBut _ _ (Ne.symm Y) (kp TI _ (Ne.symm Y) t1 t2 t3 r)
  .exact Q.extBut _ _ (Ne.symm z2) fO
  .exact f1.1.keep λo e=>Q.extBut _ _ (Ne.symm U) e
  .exact f2.1.keep λo e=>Q.extBut _ _ (Ne.symm W) e
  .rw[a_]
   .exact(O b j).1
   .intro q
    have ol:∃o,s.heap.get? b=on o:=by
     simp only[Kk,Ly,NS]at j;rcases j with rfl|rfl|rfl|rfl|rfl
     .exact⟨_,p⟩
     .exact⟨_,r⟩
     .exact⟨_,J⟩
     .obtain⟨o,e,_⟩:=L.get;exact⟨o,e⟩
     .obtain⟨o,e,_⟩:=N.get;exact⟨o,e⟩
    obtain⟨o,e⟩:=ol;exact Kx (Kr e) (by rw[q];exact Lc _)
 done:=by
  intro X hP hw hK n i ai s σ H E I O st hg;subst hP hw hK;obtain⟨xs,ys,q1,q2,hl⟩:=hg;obtain⟨p,r,⟨a,b',J⟩,L,N⟩:=st;obtain⟨l,r1,p1⟩:=cp.src I q1;obtain⟨m,r2,p2⟩:=cp.src I q2;have hd:=I.ok.hd n;simp only[KM,Kk,Ly,NS,Tw]at nd;obtain⟨⟨Y,z2,U,W⟩,⟨t1,t2,t3⟩,⟨Z,o2⟩,R,_⟩:=nd;have t:∀c∈[z,TI,TO,f,g],C≠c:=λc n=>cp.src_ne I q1 (O c n);have B:∀c∈[z,TI,TO,f,g],F≠c:=λc n=>cp.src_ne I q2 (O c n);have ap:Ap z TI TO f g [f,C] [g,F]:=⟨Ne.symm Y,Ne.symm z2,Ne.symm U,Ne.symm W,t1,t2,t3,Z,o2,R,by simp[U,(t z (by simp)).symm],by simp[Z,(t TO (by simp)).symm],by simp[Ne.symm R,(t g (by simp)).symm],by simp[W,(B z (by simp)).symm],by simp[o2,(B TO (by simp)).symm],by simp[R,(B f (by simp)).symm],by simp,by simp⟩;have g1:l.toArray.size=xs.length:=by rw[Kh,<-r1.length]
  have g2:m.toArray.size=ys.length:=by rw[Kh,<-r2.length]
  refine yA (λA' h'=>qp b1 (h'.trans hd) f C (t f (by simp)) l.toArray) (λA' h'=>qp b2 (h'.trans hd) g F (B g (by simp)) m.toArray) ap p r J ⟨L,p1⟩ ⟨N,p2⟩ ?_ λh' tk kp=>⟨rfl,cp.turnL I O λb o j e=>?_⟩
  .rw[g1,g2]
   rcases hl with hl|⟨h1,h2⟩
   .exact .inl hl.symm
   .exact .inr ⟨h1,h2.symm⟩
  .simp only[Kk,Ly,NS,Tw]at j
   exact kp b o j.1 j.2.2.1 j.2.2.2.1 j.2.2.2.2 e
 self:=λ_ _ _ _ _ st h=>wpAny_pyIter_zip st.1 h
end
section
variable{X:Cx}{E:St->XK}{K:Kt}
def Xl(K:Kt)(c:TA):TI:=λd H R=>c d H λvs H1=>∃b1 b2 a b xs ys,vs=[.ref a,.ref b]/\rx b1 K H1 a xs/\rx b2 K H1 b ys/\R (UJ b1 b2 K a b) H1
theorem GX{x1}(w:Gl X "zip")(hm:X.mg "zip"=JT)(ha:PA X [a,b] ta)(hs:Kj [a,b] X.env=[(JZ,LC a X.env),(JZ,LC b X.env)]:=by rfl)(g:Kj [b] X.env=[(JZ,LC b X.env)]:=by rfl):
  PI X (.Tuple elts x1 tpos) (.Call (.Name "zip" p) [a,b] [] pos) (Xl X.K ta):=by
 intro f s n H R I h;refine Call_ (eE I w hm PyProof.Rows.Boot.«zip» (Lw (d_ (ha pos f s n H _ I h) λus d ⟨vs,H1,i,y,q1⟩=>?_) (by rw[hs,g]) (by rw[g];rfl)));obtain⟨b1,b2,o,t,xs,ys,e,q1,q2,q⟩:=q1;subst e;cases y with
 |cons r k=>
  cases k with
  |cons A k=>
   cases k;cases r;cases A;obtain⟨B,P,C⟩:=cp.src i q1;obtain⟨F,Q,J⟩:=cp.src i q2;refine ym C J λh' u L N l m sz kp=>?_;refine wpAny_pyIter_zip (s:={d with heap:=h'}) u ?_;have O:cp X f n H1 {d with heap:=h'}:=i.kept (t':=d.toks) kp;refine⟨_,[d.heap.objs.size+4,d.heap.objs.size+2,d.heap.objs.size+3,d.heap.objs.size,d.heap.objs.size+1],_,UJ b1 b2 X.K o t,H1,rfl,O,yI b1 b2 o t (d.heap.objs.size+4) (d.heap.objs.size+2) (d.heap.objs.size+3) d.heap.objs.size (d.heap.objs.size+1) (by simp),⟨u,L,⟨_,_,N⟩,l,m⟩,λc v=>?_,q⟩;have j:d.heap.objs.size<=c:=by
    simp only[Kk,Ly,NS]at v;rcases v with rfl|rfl|rfl|rfl|rfl
    .exact MY _ _
    .exact MY _ _
    .exact MY _ _
    .exact J3 _
    .exact MY _ _
   exact i.fpOk j (i.hok.fresh j)
noncomputable def dE:List D->List D->List D
 |x::xs,y::ys=> .tup [x,y]::dE xs ys
 |_,_=>[]
theorem qw:∀(xs ys:List D),(dE xs ys).length=Np xs.length ys.length
 |[],ys=>by simp[dE]
 |x::xs,[]=>by simp[dE]
 |x::xs,y::ys=>by
  show(dE xs ys).length+1=_;rw[qw xs ys,Kq,Kq];omega
theorem qx:∀{xs ys:List D} {i:Nat} {d:D},(dE xs ys)[i]?=on d->∃x y,xs[i]?=on x/\ys[i]?=on y/\d= .tup [x,y]
 |[],ys,i,d,h=>by simp[dE]at h
 |x::xs,[],i,d,h=>by simp[dE]at h
 |x::xs,y::ys,0,d,h=>by
  simp[dE]at h;exact⟨x,y,rfl,rfl,h.symm⟩
 |x::xs,y::ys,i+1,d,h=>by
  have h':(dE xs ys)[i]?=on d:=by simpa[dE]using h
  obtain⟨a,b,c,e,f⟩:=qx h';exact⟨a,b,by simpa using c,by simpa using e,f⟩
def yC:List D->Option (List D)
 |[a,b]=>(c5 a).bind λxs=>(c5 b).map λys=>dE xs ys
 |_=>JT
theorem bt.sqS(h:bt K F H d v)(e:c5 d=on ds):∃b a,v= .ref a/\∀f c,Tr F H f c->∃xs,rx b K c a xs/\aj K f c ds xs:=by
 cases d<;>first
  |(cases e;obtain⟨a,xs,rfl,_⟩:=bt.sqL h;refine⟨JW,a,rfl,λf c t=>?_⟩;obtain⟨j,ys,g,sq,i⟩:=bt.sqL (bt.tr t _ _ h);cases g;exact⟨ys,sq,i⟩)
  |(cases e;obtain⟨a,xs,rfl,_⟩:=bt.sqT h;refine⟨JZ,a,rfl,λf c t=>?_⟩;obtain⟨j,ys,g,sq,i⟩:=bt.sqT (bt.tr t _ _ h);cases g;exact⟨ys,sq,i⟩)
  |cases e
theorem FJ{b1 b2:Bool}(n:∀b a,Tr F H b a->∃xs,rx b1 K a l1 xs/\aj K b a ds xs)(o:∀b a,Tr F H b a->∃xs,rx b2 K a l2 xs/\aj K b a es xs):s9 K (UJ b1 b2 K l1 l2) F H (dE ds es):=λb a β2 t fr i=>by
 obtain⟨xs,c,d1⟩:=n b a t;obtain⟨ys,e,d2⟩:=o b a t;refine⟨λd hd=>?_,λq=>?_⟩
 .obtain⟨x,y,f,g,rfl⟩:=qx hd
  obtain⟨u,h,du⟩:=d1.get f;obtain⟨v,j,r⟩:=d2.get g;refine⟨⟨xs,ys,u,v,c,e,h,j⟩,λz B w=>?_⟩;obtain⟨p,C,I,k,rfl,rfl,A⟩:=w;obtain⟨l,m⟩:=A xs ys c e;rw[h]at l;rw[j]at m;cases l;cases m;exact⟨bH.upd k,bt.newT fr k (aj.cons du (aj.cons r aj.nil))⟩
 .rw[qw]at q
  have f:=d1.length;have g:=d2.length;refine⟨xs,ys,c,e,?_⟩;rw[<-f,<-g];omega
def vb(g:FL):FL:=dF yC g
theorem np{x1}(n:Gl X "zip")(hm:X.mg "zip"=JT)(ha:PA X [a,b] (hW X.K g E))(hs:Kj [a,b] X.env=[(JZ,LC a X.env),(JZ,LC b X.env)]:=by rfl)(f:Kj [b] X.env=[(JZ,LC b X.env)]:=by rfl):
  PI X (.Tuple elts x1 tpos) (.Call (.Name "zip" p) [a,b] [] pos) (iV X.K (vb g) E):=
 (GX n hm ha hs f).imp λI H R i=>j1 i λF δ β fr o h=>⟨F,δ,β,fr,o,(run.bind (R:=aj X.K F) h).mono λvs H1 i=>by
  obtain⟨ds,β1,t,hd,q⟩:=i;obtain⟨l,e,k⟩:=run.ofO q;unfold yC at e;split at e
  .rename_i c d
   obtain⟨v,J,rfl,r,u⟩:=aj.two hd;cases q1:c5 c with
   |none=>rw[q1]at e;cases e
   |some xs=>
    cases q2:c5 d with
    |none=>rw[q1,q2]at e;cases e
    |some ys=>
     rw[q1,q2]at e;cases e;obtain⟨b1,w,rfl,j⟩:=bt.sqS r q1;obtain⟨b2,y,rfl,m⟩:=bt.sqS u q2;obtain⟨us,A,_⟩:=j F H1 (Tr.refl F H1);obtain⟨B,C,_⟩:=m F H1 (Tr.refl F H1);exact⟨b1,b2,w,y,us,B,rfl,A,C,k _ H1 (To.refl t.fr) (FJ j m)⟩
  .cases e⟩
variable{es:List Expr}
end
section
variable{P:KF}{w:K1}{K:Kt}{mg:K2->Option J0}{base:Lj}{N:List K2}{qual:K2}{scope:Scope}{f:JY}{cd:J0}{A:Lf}{outer:List Q6}{s:J4}{H:Hp}{E:XK}
end
section
variable{X:Cx}{E:St->XK}{K:Kt}
variable{elt bb iter:Expr}{ifs:List Expr}{rest:List LR}{scope:Scope}{pos:OH}{Nc cy:List K2}{b_:List Nat}{g:TG}{tb:JY->TB}
theorem aR:dh X [] (g8 X.K (λ_=>M.ret JW) E0):=λa s b H Q I c=>by obtain⟨F,δ,β,fr,d,r⟩:=c;exact rc a s b H Q I (run.ret fr r rfl)
theorem CV(a:PT X c (g8 X.K t E0)):dh X [c] (g8 X.K t E0):=y6 a
theorem bA(c:X.calm=JW)(S:c4 X scope Nc cy b_)(d:PI X bb iter (iV X.K it E))
  (e:∀(cl:List (K2×JY)) (C:JY) (a:List JY) (s:J4) (H:Hp),PG (ay X Nc scope cl C a s H) bb g/\dh (ay X Nc scope cl C a s H) ifs (g8 X.K tt E0)/\∀D,PB (ay X Nc scope cl C a s H) elt (⟨bb,iter,ifs,0⟩::rest) scope pos 0 D (tb D))
  (f:cz X.K g tg) (i:dg tg) (j:∀D,iF X.K D (tb D) b) (hs:∀x,K6 iter X.env x=Mm x:=by intro _;rfl):PE X (.ListComp elt (⟨bb,iter,ifs,0⟩::rest) scope pos) (tV X.K (d6 cy.length b_ it tg tt b) E):=
 (kW c S d e hs).imp λk H Q h=>qG f i j h
theorem GB{a c:OH}(j:X.N.Nodup)(d:X.N[i]?=on x)(k:wl X.env.scope x)(l:X.calm=JW)(S:c4 X scope Nc cy b_)(m:PI X bb iter (iV X.K it E))
  (n:∀(cl:List (K2×JY)) (C:JY) (f:List JY) (s:J4) (H:Hp),PG (ay X Nc scope cl C f s H) bb g/\dh (ay X Nc scope cl C f s H) ifs (g8 X.K tt E0)/\∀D,PB (ay X Nc scope cl C f s H) elt (⟨bb,iter,ifs,0⟩::rest) scope pos 0 D (tb D))
  (o:cz X.K g tg) (p:dg tg) (q:∀D,iF X.K D (tb D) b)
  (e:Pd (.ListComp elt (⟨bb,iter,ifs,0⟩::rest) scope pos) (on (.Name x a)) c.line X.env=Mm JW:=by rfl)
  (hs:∀x,K6 iter X.env x=Mm x:=by intro _;rfl) (r:X.fn x=JW\/X.env.scope.names.lookup x=on .local:=by first|exact .inl rfl|exact .inr rfl|assumption):
  PS X (.Assign [.Name x a] (.ListComp elt (⟨bb,iter,ifs,0⟩::rest) scope pos) c) (tG X.K X.H₀ (oH i (d6 cy.length b_ it tg tt b)) E):=
 aO ((tE j d k l S m n e hs r).imp λD t H h=>qG o p q h)
noncomputable def U8:D->Option D
 | .int i=>on (.int (-i))
 |_=>JT
theorem qd:DA K (rU λi=> .int (-i)) U8:=λF H β Q d1 d b fr a e k=>by
 cases d1<;>first|(cases e;exact⟨_,a,k _ H (To.refl fr) rfl⟩)|cases e
noncomputable def kG:D->Option Int
 | .int i=>on i
 |_=>JT
noncomputable def dA(xs:List D)(lo a:Option Int):List D:=(xs.drop (HT.sIx xs.length 0 lo)).take (HT.sIx xs.length xs.length a-HT.sIx xs.length 0 lo)
def UX:D->Option Int->Option Int->Option D
 | .lst xs,lo,hi=>on (.lst (dA xs lo hi))
 | .scr ns,lo,hi=>on (.lst (dA (ns.map D.int) lo hi))
 |_,_,_=>JT
def gE(f:Option (FD)):Dn->M (Option Int):=λδ=>match f with
 |none=>M.ret JT
 |some g=>M.bind (g δ) λd=>M.bind (M.ofO (kG d)) λi=>M.ret (on i)
def T_(f:FD)(lo a:Option (FD)):FD:=λδ=>M.bind (f δ) λd=>M.bind (gE lo δ) λl=>M.bind (gE a δ) λh=>M.ofO (UX d l h)
def oY(X:Cx)(e:Option Expr)(f:Option (FD))(E:St->XK):Prop:=PO X e (λc H Q=>∃F δ β,Fr F H β/\hU X.K F H δ c/\run (λ_ (a b:Option Int)=>b=a) F E c (gE f δ) H Q β)
theorem eD:oY X JT JT E:=λa s b H Q I c=>by obtain⟨F,δ,β,fr,d,r⟩:=c;exact tH a s b H Q I (run.ret fr r rfl)
theorem eC(h:PE X e (tV X.K f E)):oY X (on e) (on f) E:=λa s c H Q I b=>j1 b λF δ β fr j r=>tF h a s c H Q I ⟨F,δ,β,fr,j,(run.bind (R:=bt X.K F) r).mono λv H1 b=>by
  obtain⟨d,β1,t,hd,k⟩:=b;obtain⟨i,e,l⟩:=run.ofO_bind k;cases d<;>first|(cases e;exact⟨_,hd,run.ret t.fr l rfl⟩)|cases e⟩
theorem aj.cut(h:aj K F H ds vs)(lo a:Option Int):aj K F H (dA ds lo a) (hV vs lo a):=by
 unfold dA hV;rw[h.length];exact(h.drop _).take _
theorem eP{lo y:Option Expr}(A:PE X e (tV X.K f E))(B:oY X lo fl E)(C:oY X y fh E):PE X (.Subscript e (.Slice lo y JT p2) pos) (tV X.K (T_ f fl fh) E):=
 (lV sY A B C).imp λP H Q o=>j1 o λF δ β fr q r=>⟨F,δ,β,fr,q,(run.bind (R:=bt X.K F) r).mono λv H1 ⟨d,β1,t,hd,I⟩=>
  ⟨F,δ,β1,t.fr,q.tr (t.tr fr),(run.bind (R:=λ_ (a b:Option Int)=>b=a) I).mono λl T ⟨U,β2,n,u,J⟩=>
   ⟨F,δ,β2,n.fr,q.tr ((t.tr fr).trans (n.tr t.fr)),(run.bind (R:=λ_ (a b:Option Int)=>b=a) J).mono λh W o=>by
    obtain⟨h',L,i,w,N⟩:=o;subst u w;obtain⟨c,e,k⟩:=run.ofO N;have j:=bt.tr ((n.tr t.fr).trans (i.tr n.fr)) _ _ hd;cases d<;>first
     |(cases e;obtain⟨a,xs,rfl,sq,O⟩:=bt.sqL j;exact⟨a,xs,rfl,sq,λp m=>k _ _ (i.fr.upd _ m) (bt.newL i.fr m (O.cut l h))⟩)
     |(cases e;obtain⟨a,rfl,sq⟩:=bt.scr j;exact⟨a,_,rfl,sq,λp m=>k _ _ (i.fr.upd _ m) (bt.newL i.fr m ((aj.ofInts _).cut l h))⟩)
     |cases e⟩⟩⟩
def Bg.ok(β:Bg):Prop:=β.cells≠[]/\β.cells.length<=64/\(∀c∈β.cells,0<=c)/\0<=β.j
end
noncomputable def Bg.pos(β:Bg):Nat:=(β.i % (β.cells.length:Int)).toNat
def Bg.cell(β:Bg):Int:=β.cells.getD β.pos 0
noncomputable def Bg.nxt(β:Bg):Int:=(β.j+β.cell % 2147483629+77)*48271 % 2147483629
noncomputable def ir(β:Bg)(lot:Int):Int:=if 10^18<=β.cell then β.cell % lot else β.nxt/64 % lot
noncomputable def jl(β:Bg)(lot:Int):Bg:=if 10^18<=β.cell then⟨β.cells.set β.pos (β.cell/lot),β.i,β.j⟩else⟨β.cells,β.i+1,β.nxt⟩
open Classical in
def iz:List D->M D:=λds β=>match ds with
 |[.bag,.int lot]=>if β.ok/\0<lot/\lot<1073741824 then on (M3 (D.int (ir β lot)),jl β lot)else JT
 |_=>JT
theorem zn{β:Bg}(h:β.ok)(a:0<lot)(b:lot<1073741824):iz [.bag,.int lot] β=on (.ok (.int (ir β lot)),jl β lot):=by
 unfold iz;exact J8 ⟨h,a,b⟩
theorem xF{β:Bg}(h:iz ds β=on (r,β')):∃lot,ds=[.bag,.int lot]/\β.ok/\0<lot/\lot<1073741824/\r= .ok (.int (ir β lot))/\β'=jl β lot:=by
 unfold iz at h;split at h
 .split at h
  .rename_i lot q
   cases h;exact⟨lot,rfl,q.1,q.2.1,q.2.2,rfl,rfl⟩
  .cases h
 .cases h
theorem Bg.ok.at{β:Bg}(h:β.ok):β.pos<β.cells.length/\β.cells[β.pos]?=on β.cell/\0<=β.cell/\β.i % (β.cells.length:Int)=(β.pos:Int):=by
 obtain⟨c1,c2,c3,b⟩:=id h;have c:0<β.cells.length:=List.length_pos_iff.mpr c1;have a1:0<=β.i % (β.cells.length:Int):=Ou _ (by omega);have a2:β.i % (β.cells.length:Int)<β.cells.length:=OQ _ (by omega);have a:β.pos<β.cells.length:=by unfold Bg.pos;omega
 have e:β.cell=β.cells[β.pos]:=by
  unfold Bg.cell;rw[Kd,JX a];rfl
 refine⟨a,by rw[e];exact JX a,by rw[e];exact c3 _ (K5 a),?_⟩;unfold Bg.pos;omega
theorem tw{β:Bg}(h:β.ok)(b:0<lot):0<=ir β lot/\ir β lot<lot/\(jl β lot).ok:=by
 obtain⟨f,_,d,_⟩:=h.at;obtain⟨c1,c2,c3,e⟩:=id h;unfold ir jl;split
 .refine⟨Ou _ (by omega),OQ _ b,?_,by rw[KO];exact c2,λc a=>?_,e⟩
  .intro z
   have:=La PX z;rw[KO]at this;exact c1 (Pl.mp this)
  .rcases Mf a with a|rfl
   .exact c3 c a
   .exact Int.ediv_nonneg d (by omega)
 .exact⟨Ou _ (by omega),OQ _ b,c1,c2,c3,Ou _ (by decide)⟩
end L2.Pu
namespace L2
open PySem PySem.Spec PyProof.Rows
end L2
namespace L2.Pu
open PySem PySem.Spec PyProof.Rows
section
variable{X:Cx}{E:St->XK}{K:Kt}
def ll(K:Kt)(mg:K2->Option J0)(x:K2)(d:D):Prop:=∃u v,mg x=on u/\aI v u/\∀F H,bt K F H d v
theorem jM(c:ll X.K X.mg x d)(a:Gl X x:=by rfl)(hd:(x==("__debug__":K2))=JZ:=by decide):PE X (.Name x pos) (tV X.K (fC d) E):=by
 obtain⟨u,v,b,e,f⟩:=c;exact q0 (EM a b e hd) f
mutual
noncomputable def o0:D->Option RQ
 | .non=>on .none
 | .bl b=>on (.bool b)
 | .int i=>on (.int i)
 | .str x=>on (.str x)
 | .lst xs=>(toPs xs).map PyData.list
 | .tup xs=>(toPs xs).map PyData.tuple
 |_=>JT
noncomputable def toPs:List D->Option (List RQ)
 |[]=>on []
 |x::xs=>match o0 x,toPs xs with
  |some p,on ps=>on (p::ps)
  |_,_=>JT
end
mutual
theorem iW{s:J4}(I:cp X ai σ H s):∀(d:D) (v:V) (u:J0) (p:RQ),bt X.K F H d v->o0 d=on p->aI v u->∃as,Reads s.heap u p as
 | .non,v,u,p,h,e,r=>by cases e;cases h.non;cases r;exact⟨_,.none⟩
 | .bl b,v,u,p,h,e,r=>by cases e;cases h.bl;cases r;exact⟨_,.bool b⟩
 | .int i,v,u,p,h,e,r=>by cases e;cases h.int;obtain⟨t,rfl⟩:=r;exact⟨_,.int i t⟩
 | .str x,v,u,p,h,e,r=>by cases e;cases h.str;obtain⟨t,rfl⟩:=r;exact⟨_,.str x t⟩
 | .lst xs,v,u,p,h,e,r=>by
  unfold o0 at e;cases q:toPs xs with
  |none=>rw[q]at e;cases e
  |some ps=>
   rw[q]at e;cases e;obtain⟨a,ys,rfl,sq,c⟩:=bt.sqL h;cases r;obtain⟨its,f,g,_⟩:=I.list sq;obtain⟨as,j⟩:=reads_L I xs ys its ps c q f;obtain⟨o,k,l,n,hd⟩:=g.isList;exact⟨_,.list k l hd (by simpa using j)⟩
 | .tup xs,v,u,p,h,e,r=>by
  unfold o0 at e;cases q:toPs xs with
  |none=>rw[q]at e;cases e
  |some ps=>
   rw[q]at e;cases e;obtain⟨a,ys,rfl,sq,c⟩:=bt.sqT h;cases r;obtain⟨its,f,g,_⟩:=I.tuple sq;obtain⟨as,j⟩:=reads_L I xs ys its ps c q f;obtain⟨o,k,l,n,hd⟩:=g;exact⟨_,.tuple k l hd (by simpa using j)⟩
 | .ty _,_,_,_,_,e,_=>by cases e
 | .txt,_,_,_,_,e,_=>by cases e
 | .scr _,_,_,_,_,e,_=>by cases e
 | .obj _ _ _,_,_,_,_,e,_=>by cases e
 | .bag,_,_,_,_,e,_=>by cases e
 | .adr _,_,_,_,_,e,_=>by cases e
 | .dct _ _ _,_,_,_,_,e,_=>by cases e
theorem reads_L{s:J4}(I:cp X ai σ H s):∀(ds:List D) (vs:List V) (us:List J0) (ps:List RQ),aj X.K F H ds vs->toPs ds=on ps->aq vs us->∃as,ReadsAll s.heap us ps as
 |[],vs,us,ps,h,e,r=>by
  have q:vs=[]:=h;subst q;cases e;cases r;exact⟨_,.nil⟩
 |d::ds,vs,us,ps,h,e,r=>by
  obtain⟨x,a,rfl,b,c⟩:=h;unfold toPs at e;split at e
  .rename_i p pr f g
   cases e;cases r with
   |cons i j=>
    obtain⟨as,k⟩:=iW I d x _ p b f i;obtain⟨bs,l⟩:=reads_L I ds a _ pr c g j;exact⟨_,.cons k l⟩
  .cases e
end
def kx(a b:D):Option Bool:=match o0 a,o0 b with
 |some p,on q=>if(Ox p&&Ox q)=JW then on (NO p q)else JT
 |_,_=>JT
def gz(a b:D):Option D:=match Ua a b with
 |some c=>on (.bl c)
 |none=>(kx a b).map D.bl
def iK(a b:D):Option D:=match Ua a b with
 |some c=>on (.bl (!c))
 |none=>(kx a b).map λc=>D.bl (!c)
def oo(X:Cx)(g:Bool->Bool):R2:=λx y H Q=>∃(F:Fx) (a b:D) (c:Bool),bt X.K F H a x/\bt X.K F H b y/\kx a b=on c/\Q (.bl (g c)) H
theorem pJ{c:Bool}(h:kx a b=on c):∃p q,o0 a=on p/\o0 b=on q/\Ox p=JW/\Ox q=JW/\c=NO p q:=by
 unfold kx at h;split at h
 .rename_i p q d e
  split at h
  .rename_i hs
   rw[Kz]at hs;cases h;exact⟨p,q,d,e,hs.1,hs.2,rfl⟩
  .cases h
 .cases h
theorem G9(f:ee k X.A):f_ X (Lp .Eq) (oo X id):=by
 intro d s t H x y v u Q I g i h;obtain⟨F,a,b,c,d1,d2,e,q⟩:=h;obtain⟨p,p',j,l,m,n,rfl⟩:=pJ e;obtain⟨as,o⟩:=iW I a x v p d1 j g;obtain⟨bs,r⟩:=iW I b y u p' d2 l i;exact eq_dataH o r m n f.units ⟨.bl _,H,I,rfl,q⟩
theorem G7(f:ee k X.A):f_ X (Lp .NotEq) (oo X not):=by
 intro d s t H x y v u Q I g i h;obtain⟨F,a,b,c,d1,d2,e,q⟩:=h;obtain⟨p,p',j,l,m,n,rfl⟩:=pJ e;obtain⟨as,o⟩:=iW I a x v p d1 j g;obtain⟨bs,r⟩:=iW I b y u p' d2 l i;exact ne_dataH o r m n f.units ⟨.bl _,H,I,rfl,q⟩
theorem cr(a:ee k X.A):f_ X (Lp .Eq) (λx y H Q=>U5 x y H Q\/oo X id x y H Q):=Jg.or (G9 a)
theorem ft(a:ee k X.A):f_ X (Lp .NotEq) (λx y H Q=>U4 x y H Q\/oo X not x y H Q):=Je.or (G7 a)
theorem cY:aV X.K (λx y H Q=>U5 x y H Q\/oo X id x y H Q) gz:=λF H β Q d1 d2 d h i fr a b e k=>by
 unfold gz at e;split at e
 .rename_i c q
  cases e;obtain⟨f,g⟩:=yh q a b;exact .inl ⟨f,by rw[g];exact k _ H (To.refl fr) rfl⟩
 .cases q:kx d1 d2 with
  |none=>rw[q]at e;cases e
  |some c=>rw[q]at e;cases e;exact .inr ⟨F,d1,d2,c,a,b,q,k _ H (To.refl fr) rfl⟩
theorem gD:aV X.K (λx y H Q=>U4 x y H Q\/oo X not x y H Q) iK:=λF H β Q d1 d2 d h i fr a b e k=>by
 unfold iK at e;split at e
 .rename_i c q
  cases e;obtain⟨f,g⟩:=yh q a b;exact .inl ⟨f,by rw[g];exact k _ H (To.refl fr) rfl⟩
 .cases q:kx d1 d2 with
  |none=>rw[q]at e;cases e
  |some c=>rw[q]at e;cases e;exact .inr ⟨F,d1,d2,c,a,b,q,k _ H (To.refl fr) rfl⟩
theorem JK(i j:Int):gz (.int i) (.int j)=on (.bl (decide (i=j))):=rfl
theorem JJ(i j:Int):iK (.int i) (.int j)=on (.bl (!decide (i=j))):=rfl
def lh(d:D):Bool:=match o0 d with
 |some p=>Ox p
 |none=>JZ
theorem CP{C:Int->Int->Prop}{c:Int->Int->Bool}{g:Int->Int->Int}(b:∀i j,c i j=JW->C i j):aV K (T7 C g) (o_ λi j=>if c i j=JW then on (.int (g i j))else JT):=λF H β Q d1 d2 d l m fr f h e k=>by
 obtain⟨i,j,rfl,rfl,a⟩:=gX e;split at a
 .cases a
  exact⟨i,j,f,h,b _ _ (by assumption),k _ H (To.refl fr) rfl⟩
 .cases a
def Wt:D->D->Option D:=o_ λi j=>on (.int (i+j))
theorem tX:aV K (WS λi j=>i+j) Wt:=λF H β Q d1 d2 d f g fr a b e k=>by
 obtain⟨i,j,rfl,rfl,c⟩:=gX e;cases c;exact⟨i,j,a,b,k _ H (To.refl fr) rfl⟩
theorem tZ:UE X .Mult (T7 qt λi j=>i*j):=by
 intro a s e H x y v u Q I b d h;obtain⟨i,j,rfl,rfl,c,q⟩:=h;obtain⟨t,rfl⟩:=b;obtain⟨t',rfl⟩:=d;exact imul_int ⟨.int _,H,I.tok _,⟨_,rfl⟩,q⟩ (Se (iE c.1) (iE c.2))
theorem tW:aV K (T7 qt λi j=>i*j) rA:=CP λi j h=>by
 simp only[Kz,bO,KV]at h;exact h
theorem zA:aV K (T7 qu λi j=>i/j) vN:=CP λi j h=>by
 simp only[Kz,KV]at h;exact h
abbrev ig:=yQ
theorem yo(b:X.calm=JW):cI X (.builtin "sum") (λxs H Q=>∃(a:JY) (ns:List Int),xs=[.ref a]/\e_ X.K H a (ns.map V.int)/\Q (.int ns.sum) H):=pK b
theorem Hm:da K (λxs H Q=>∃(a:JY) (ns:List Int),xs=[.ref a]/\e_ K H a (ns.map V.int)/\Q (.int ns.sum) H) ig:=Ju
def DB(H:Hp)(b l:JY):Prop:=∃(cells:List Int) (i j:Int),H b=on (.lst [.ref l,.int i,.int j])/\H l=on (.lst (cells.map V.int))/\cells≠[]/\cells.length<=64/\(∀c∈cells,0<=c)/\0<=j
theorem FI(h:k<n):ix n (k:Int)=on k:=by
 unfold ix;rw[J8 (by omega),J8 (by omega)];simp
theorem JM(ns:List Int):∃a:List Int,hV (ns.map V.int) JT (on 63)=a.map V.int/\a.length<=63:=by
 refine⟨(ns.drop (HT.sIx ns.length 0 JT)).take (HT.sIx ns.length ns.length (on 63)-HT.sIx ns.length 0 JT),?_,?_⟩
 .unfold hV
  rw[JS,Oi,Nd]
 .rw[Lk]
  have:HT.sIx ns.length ns.length (on 63)<=63:=by
   unfold HT.sIx;simp;omega
  omega
def IW(K:Kt):Sp:=λvs H Q _=>∃(a:JY) (ns:List Int),vs=[.ref a]/\e_ K H a (ns.map V.int)/\∀(b l:JY) (c:Hp),H b=JT->H l=JT->DB c b l->bH H c->Q (.ref b) c
def BX(K:Kt):Sp:=λvs H Q _=>∃(a:JY) (ns:List Int),vs=[.ref a]/\e_ K H a (ns.map V.int)/\ns.length<=63/\∀b,Q (.bl JW) b
theorem FZ(sm:bH H₀ H)(A:H₀ b=JT)(C:H₀ l=JT)(B:DB H b l):∃β,β.ok/\en K H₀ (λc=>if c=b\/c=l then on 1 else JT) (on (b,l)) H (JT::on (.sh .bag)::Ks n JT) β (on (.ref a)::on (.ref b)::Ks n JT):=by
 obtain⟨cells,i,j,g,h,p,v,w,y⟩:=B;have m:b≠l:=Jl g h (by
  intro z;cases cells with
  |nil=>exact p rfl
  |cons c r=>simp at z)
 refine⟨⟨cells,i,j⟩,⟨p,v,w,y⟩,⟨⟨λc f=>?_,λt u e=>?_,λt u e=>?_⟩,λt u e=>?_,by simp,λc f=>?_,λc k f=>(by
  have d:(if c=b\/c=l then on 1 else JT)=on (k+2):=f;split at d<;>cases d),λc k f=>(by
  have d:(if c=b\/c=l then on 1 else JT)=on (k+2):=f;split at d<;>cases d),λk s e=>?_⟩⟩
 .have d:(if c=b\/c=l then on 1 else JT)≠(JT:Option Nat):=f
  split at d
  .rename_i q
   rcases q with rfl|rfl
   .rw[g];simp
   .rw[h];simp
  .exact Kx rfl d
 .cases e
  refine⟨?_,?_,m⟩
  .show(if b=b\/b=l then on 1 else JT)≠(JT:Option Nat)
   rw[J8 (.inl rfl)];simp
  .show(if l=b\/l=l then on 1 else JT)≠(JT:Option Nat)
   rw[J8 (.inr rfl)];simp
 .cases e
  exact⟨g,h⟩
 .cases e
  exact⟨J8 (.inl rfl),J8 (.inr rfl)⟩
 .cases q:H₀ c with
  |none=>exact Kx q f
  |some o=>rw[sm c o q];simp
 .match k with
  |0=>simp at e
  |1=>
   simp at e;subst e;exact⟨.ref b,rfl,b,l,rfl,rfl⟩
  |k+2=>
   simp only[Rx,MT]at e;split at e<;>cases e
variable{P:KF}{w:K1}{mg:K2->Option J0}{base:Lj}
theorem bW{st:LM}{N ps:List K2}(n m:Nat)(g:G)(F:dv K x qual st f fd)(S:cx N ps (ah st))(hn:ps.length=n)(hm:N.length=m)
  (a:∀(b:J0) (A:Lf) (outer:List Q6) (s:J4) (H:Hp) (E:XK),ee k (A.deeper (Oy qual (ah st) s.heap.objs.size f b))->
   PSs (fK (iv P w) P w K mg base N qual (ah st) f b A outer s H E) (cK st) (tG K H g (λ_=>E))):f0 P w K mg base (iv P w) (k+1) f fd ps (F0 K n (f8 m g)):=by
 subst hn hm;exact FP F S a
end
end L2.Pu
namespace L2
open PySem PySem.Spec PyProof.Rows
theorem c4.ofB{X:Cx}{scope:Scope}{b_:List Nat}(k:scope.kind= .function)(nd:(scope.names.map (·.1)).Nodup)
  (fr:(scope.names.all λy=>y.2 != .free||(X.env.scope.names.lookup y.1==on .cell||X.env.scope.names.lookup y.1==on .free))=JW) (a:Nc=cy++b_.map (λj=>X.N.getD j NK))
  (b:(b_.all λj=>decide (j<X.N.length)&&scope.names.lookup (X.N.getD j NK)==on .free)=JW):c4 X scope Nc cy b_:=by
 refine⟨k,nd,λy c e=>?_,a,λj d=>?_⟩
 .have:=MS.mp fr y c
  rw[e]at this;simp only[Nf,Bool.false_or,Bool.or_eq_true,Nj]at this;exact this
 .have:=MS.mp b j d
  simp only[Kz,KV,Nj]at this;exact this
end L2
namespace L2.Pu
end L2.Pu
namespace L2.Pu
open PySem PySem.Spec
theorem oP{ds os:List D}(a:it δ β=on (.ok ds,β1))(c:nw tg tt b ds (lg nv b_ δ) β1=on (.ok os,β2))(d:os.length<=Ki):d6 nv b_ it tg tt b δ β=on (.ok (.lst os),β2):=by
 unfold d6;simp only[a,c,d,K8]
def T4:Nat->D->Prop
 |_,.int _=>True
 |_,.bl _=>True
 |_,.non=>True
 |n+1,.lst xs=>∀x∈xs,T4 n x
 |n+1,.tup xs=>∀x∈xs,T4 n x
 |_,_=>False
theorem EH:∀(n:Nat) (d:D),T4 n d->∃p,o0 d=on p/\p.canLay0=JW/\p.depth<=n+1:=by
 have a:∀(n:Nat) (xs:List D),(∀x∈xs,∃p,o0 x=on p/\p.canLay0=JW/\p.depth<=n)->∃ps,toPs xs=on ps/\SB ps=JW/\Qx ps<=n:=by
  intro n xs
  induction xs with
  |nil=>intro _;exact⟨[],rfl,rfl,by simp[Qx]⟩
  |cons x xs ih=>
   intro h;obtain⟨p,g,j,l⟩:=h x J2;obtain⟨ps,b,c,f⟩:=ih λy k=>h y (J1 _ k);refine⟨p::ps,?_,?_,?_⟩
   .unfold toPs;simp only[g,b]
   .simp[SB,j,c]
   .simp only[Qx];omega
 intro n
 induction n with
 |zero=>
  intro d h;cases d with
  |int i=>exact⟨.int i,rfl,rfl,by simp[Nr]⟩
  |bl i=>exact⟨.bool i,rfl,rfl,by simp[Nr]⟩
  |non=>exact⟨.none,rfl,rfl,by simp[Nr]⟩
  |_=>exact h.elim
 |succ n ih=>
  intro d h;cases d with
  |int i=>exact⟨.int i,rfl,rfl,by simp[Nr]⟩
  |bl i=>exact⟨.bool i,rfl,rfl,by simp[Nr]⟩
  |non=>exact⟨.none,rfl,rfl,by simp[Nr]⟩
  |lst xs=>
   obtain⟨ps,b,c,f⟩:=a (n+1) xs λx e=>ih x (h x e);exact⟨.list ps,by unfold o0;simp[b],by simp[PyData.canLay0,c],by simp only[Nr];omega⟩
  |tup xs=>
   obtain⟨ps,b,c,f⟩:=a (n+1) xs λx e=>ih x (h x e);exact⟨.tuple ps,by unfold o0;simp[b],by simp[PyData.canLay0,c],by simp only[Nr];omega⟩
  |_=>exact h.elim
theorem zQ(n:Nat)(h:T4 n d)(hn:n<=60):lh d=JW:=by
 obtain⟨p,a,b,c⟩:=EH n d h;unfold lh;simp only[a,Ox,b,Oe,KV];omega
end L2.Pu
namespace L2.Pu
open PySem PySem.Spec PyProof.Rows
section
variable{X:Cx}{E:St->XK}{K:Kt}{a b:Expr}{es:List Expr}{pos:OH}
theorem To.none(t:To F H H1 β1)(h:H1 p=JT):H p=JT:=by
 cases q:H p with
 |none=>rfl
 |some o=>
  have:H1 p=on o:=t.kp p o q λb l e=>by
   obtain⟨c,d⟩:=t.fr.bag b l e;exact⟨λw=>(by subst w;rw[c]at h;cases h),λw=>(by subst w;rw[d]at h;cases h)⟩
  rw[this]at h;cases h
noncomputable def Fx.but(F:Fx)(a:JY):Fx:=⟨λc=>F.A c\/c=a,F.bg⟩
theorem Fx.tr_but{F:Fx}(fr:Fr F H β1)(d:H p=JT)(hs:∀c o,H c=on o->H1 c=on o):Tr F H (F.but p) H1:=⟨λc e f z=>by
 rcases z with z|z
 .exact e z
 .subst z;exact f d,λc o _ h=>hs c o h,rfl⟩
theorem Fx.tr_of{F:Fx}:Tr (F.but p) H F H:=⟨λc h _ z=>h (Mn z),λ_ _ _ h=>h,rfl⟩
def eF(K:Kt)(F:Fx)(H0 H:Hp)(ds:List D)(v:V):Prop:=∃a xs,v= .ref a/\H0 a=JT/\H a=on (.lst xs)/\aj K (F.but a) H ds xs
def Kp(K:Kt)(f:FL)(E:St->XK):TE:=λc H Q=>∃F δ β,Fr F H β/\hU K F H δ c/\run (eF K F H) F E c (f δ) H Q β
def T3(K:Kt)(f:Dn->M (List (List D)))(E:St->XK):TE:=λc H Q=>∃F δ β,Fr F H β/\hU K F H δ c/\run (gp K F H) F E c (f δ) H Q β
noncomputable def TN(ds:List D):Option (List D):=if ds.length<=Ki then on ds else JT
def Jj(op:List D->Option (List D))(g:FL):FL:=λδ=>M.bind (g δ) λds=>M.ofO (op ds)
theorem eF.new(t:To F H H1 β1)(d:H1 p=JT)(hd:aj K F H1 ds xs):eF K F H (upd H1 p (.lst xs)) ds (.ref p):=
 ⟨p,xs,rfl,t.none d,af,aj.tr (Fx.tr_but t.fr d λc o h=>by rw[a_ (aC h d)];exact h) _ _ hd⟩
def CZ(K:Kt)(r:List V->Hp->VK->Prop)(op:List D->Option (List D)):Prop:=∀(F:Fx) (H0 H:Hp) (β:Bg) (Q:VK) (ds os:List D) (vs:List V),To F H0 H β->aj K F H ds vs->op ds=on os->
 (∀v c,To F H c β->eF K F H0 c os v->Q v c)->r vs H Q
theorem zf(i:cI X (.type T) r)(l:CZ X.K r op)(j:Gl X x)(hm:X.mg x=JT)(m:Nk x=on (.type T))(ha:PA X (e::es) (hW X.K g E))(hn:x≠"__name__":=by decide)(c:(x==("__debug__":K2))=JZ:=by decide)
  (n:Kj (e::es) X.env=(JZ,LC e X.env)::Kj es X.env:=by rfl) (d:(Nw pos (Kj es X.env)).any (·.1)=JZ:=by rfl):PE X (.Call (.Name x p) (e::es) [] pos) (Kp X.K (Jj op g) E):=
 (pp i j hm m ha hn c n d).imp λv H Q f=>j1 f λF δ β fr o h=>⟨F,δ,β,fr,o,(run.bind (R:=aj X.K F) h).mono λvs H1 f=>by
  obtain⟨ds,β1,t,hd,q⟩:=f;obtain⟨d3,u,k⟩:=run.ofO q;exact l F H H1 β1 Q ds d3 vs t hd u k⟩
def CN:List D->Option (List D)
 |[.lst xs]=>on xs
 |[.tup xs]=>on xs
 |_=>JT
theorem FA:CZ K (λxs H Q=>∃p ys,xs=[.ref p]/\(e_ K H p ys\/hH K H p ys)/\∀l,H l=JT->Q (.ref l) (upd H l (.lst ys))) CN:=λF H0 H β Q ds os vs t h e k=>by
 unfold CN at e;split at e
 .cases e
  obtain⟨v,rfl,g⟩:=aj.one h;obtain⟨a,xs,rfl,r,d⟩:=bt.sqL g;exact⟨a,xs,rfl,.inl r,λl c=>k _ _ (t.fr.upd _ c) (eF.new t c d)⟩
 .cases e
  obtain⟨v,rfl,g⟩:=aj.one h;obtain⟨a,xs,rfl,r,d⟩:=bt.sqT g;exact⟨a,xs,rfl,.inr r,λl c=>k _ _ (t.fr.upd _ c) (eF.new t c d)⟩
 .cases e
theorem aj.rep(h:aj K F H ds xs):∀n:Nat,aj K F H (Ks n ds).flatten (Ks n xs).flatten
 |0=>rfl
 |n+1=>by
  rw[Mc,MM,Mc,MM];exact aj.append h (aj.rep h n)
noncomputable def qY(ds:List D)(d:D):Option (List D):=match d with
 | .int k=>if(decide (-(2^63)<=k)&&decide (k<2^63)&&decide (ds.length<=Ki)&&decide (ds.length*k.toNat<=Ki))=JW then on (Ks k.toNat ds).flatten else JT
 |_=>JT
def rj(g:FL)(f:FD):FL:=λδ=>M.bind (g δ) λds=>M.bind (M.ofO (TN ds)) λds=>M.bind (f δ) λd=>M.ofO (qY ds d)
theorem CK(ha:PA X es (hW X.K g E))(O:PE X b (tV X.K f E)):PE X (.BinOp (.List es pos') .Mult b pos) (Kp X.K (rj g f) E):=
 (c8 G5 (fq ha) O).imp λT H Q j=>j1 j λF δ β fr B r=>⟨F,δ,β,fr,B,(run.bind (R:=aj X.K F) r).mono λvs H1 j=>by
  obtain⟨ds,β1,t,hd,U⟩:=j;obtain⟨W,n,Y⟩:=run.ofO_bind U;unfold TN at n;split at n
  .rename_i Z
   cases n;refine⟨by rw[<-hd.length];exact Z,λp I=>?_⟩;have m:=t.fr.upd (.lst vs) I;have J:=t.fr.fresh I;refine⟨F,δ,β1,m.fr,(B.tr (t.tr fr)).tr (m.tr t.fr),?_⟩;obtain⟨L,β2,e,h⟩:=Y;have u:run (eF X.K F H) F E T (M.bind (f δ) λd=>M.ofO (qY ds d)) (upd H1 p (.lst vs)) Q β1:=by
    refine⟨L,β2,e,?_⟩;cases L with
    |ok d=>exact λv y c=>h v y (m.trans c)
    |error C=>exact λy c=>h y (m.trans c)
   refine(run.bind (R:=bt X.K F) u).mono λw H2 j=>pj j λd β3 c hw r3=>?_;obtain⟨os,i,k⟩:=run.ofO r3;unfold qY at i;split at i
   .split at i
    .rename_i kk o
     cases i;simp only[Kz,KV]at o;cases hw;have A:H2 p=on (.lst vs):=c.kp p _ af λb l q=>⟨λz=>J (z▸(fr.bgA b l q).1),λz=>J (z▸(fr.bgA b l q).2.1)⟩;have tt:=m.trans c;exact⟨p,_,vs,rfl,rfl,A,o.1.1.1,o.1.1.2,by rw[<-hd.length];exact o.2,λq N=>k _ _ (c.fr.upd _ N) (eF.new (t.trans tt) N ((aj.tr (tt.tr t.fr) _ _ hd).rep _))⟩
    .cases i
   .cases i
  .cases n⟩
def gj(nv:Nat)(b_:List Nat)(it:Dn->M (List Pu.D))(tg:l0)(tt:Dn->M Bool)(b:Dn->M (List Pu.D)):Dn->M (List Pu.D):=λδ β=>match it δ β with
 |none=>JT
 |some (.error C,β1)=>on (.error C,β1)
 |some (.ok ds,β1)=>match nw tg tt b ds (lg nv b_ δ) β1 with
  |some (.ok os,β2)=>if os.length<=Ki then on (.ok os,β2)else JT
  |_=>JT
theorem wC{cy:List K2}{b_:List Nat}{it:Dn->M (List Pu.D)}{g:TG}{tg:l0}{tt:Dn->M Bool}{B:JY->TB}{b:Dn->M (List Pu.D)}(T:cz K g tg)(U:dg tg)(W:∀D,iF K D (B D) b){I:St}{H:Hp}{Q:VK}(h:Kp K (gj cy.length b_ it tg tt b) E I H Q):
  mE cy b_ (iV K it E) (λD J=>cP J g (g8 K tt E0) (B D)) I H Q:=by
 obtain⟨F,δ,β,fr,L,r,j,e,h⟩:=h;unfold gj at e;refine⟨F,δ,β,fr,L,?_⟩;split at e
 .cases e
 .rename_i C β1 q
  cases e;exact⟨.error C,_,q,h⟩
 .rename_i ds β1 q
  split at e
  .rename_i os β2 q2
   split at e
   .rename_i Y
    cases e;refine⟨.ok ds,β1,q,λJ H1 t Z D c=>?_⟩;have d:¬F.A D:=t.fr.fresh c;have nb:∀b l,F.bg=on (b,l)->D≠b/\D≠l:=λb l z=>⟨λw=>d (w▸(fr.bgA b l z).1),λw=>d (w▸(fr.bgA b l z).2.1)⟩;have N:=t.fr.upd (.lst []) c;have k:Fr ⟨λa=>F.A a\/a=D,F.bg⟩ (upd H1 D (.lst [])) β1:=by
     refine⟨λa ha z=>?_,λb l z=>let ⟨x,y,w⟩:=fr.bgA b l z;⟨.inl x,.inl y,w⟩,N.fr.bag⟩
     rcases ha with ha|ha
     .exact N.fr.occ a ha z
     .subst ha;rw[af]at z;cases z
    have f:Tr F H1 ⟨λa=>F.A a\/a=D,F.bg⟩ (upd H1 D (.lst [])):=⟨λa ha hs z=>by
     rcases z with z|z
     .exact ha z
     .subst z;exact hs c,λa o ha z=>by rw[a_ (aC z c)];exact z,rfl⟩
    refine k7 (R:=RL K) (D:=D) (as:=[]) (os:=os) T U (W D) k (.inr rfl) nb (nP (L.tr ((t.tr fr).trans f))) ⟨[],af,rfl⟩ (Z.tr f) q2 (show os.length<=Ki from Y) λσ1 O m vk3 p=>?_;obtain⟨i,u,v⟩:=p;have tf:To F H1 O j:=by
     refine⟨λa o z n=>m.kp a o (by rw[a_ (aC z c)];exact z) (aC z c) n,λa ha z=>m.fr.occ a (Mn ha) z,fr.bgA,m.fr.bag⟩
    exact h _ O (t.trans tf) ⟨D,i,rfl,t.none c,u,v⟩
   .cases e
  .cases e
def mn(tg:l0)(tt:Dn->M Bool)(b:Dn->M (List (List Pu.D))):List Pu.D->Dn->M (List (List Pu.D))
 |[],_=>M.ret []
 |d::ds,δ=>match tg d δ with
  |none=>M.fail
  |some e=>M.bind (tt e) λc=>M.bind (if c=JW then b e else M.ret []) λo=>M.bind (mn tg tt b ds δ) λos=>M.ret (o++os)
def B3(K:Kt)(F:Fx)(D:JY)(H0 H:Hp)(as:List (List Pu.D))(acc:List V):Prop:=(∀c,H0 c≠JT->H c≠JT)/\∃rs,acc=rs.map V.ref/\(D::rs).Nodup/\aG K F H (λr=>H0 r=JT) as rs
theorem B3.mono{F:Fx}{D:JY}(g:F.A D)(i:∀b l,F.bg=on (b,l)->H0 b≠JT/\H0 l≠JT)(fr:Fr F H β)(t:m_ F D H H1 β1)(h:B3 K F D H0 H as acc):B3 K F D H0 H1 as acc:=by
 obtain⟨cv,rs,e,nd,j⟩:=h;refine⟨λc k z=>?_,rs,e,nd,aG.tr (t.tr fr g) j λr xs m p q=>⟨p,t.kp r _ q (λz=>?_) λb l w=>⟨λz=>?_,λz=>?_⟩⟩⟩
 .cases q:H c with
  |none=>exact cv c k q
  |some o=>
   by_cases hd:c=D
   .subst hd;exact t.fr.occ _ g z
   .by_cases d:∃b l,F.bg=on (b,l)/\(c=b\/c=l)
    .obtain⟨b,l,w,f⟩:=d
     rcases f with rfl|rfl
     .exact t.fr.occ _ (fr.bgA _ _ w).1 z
     .exact t.fr.occ _ (fr.bgA _ _ w).2.1 z
    .rw[t.kp c o q hd λb l w=>⟨λy=>d ⟨b,l,w,.inl y⟩,λy=>d ⟨b,l,w,.inr y⟩⟩]at z
     cases z
 .subst z;exact(KM.mp nd).1 m
 .subst z;exact(i _ _ w).1 p
 .subst z;exact(i _ _ w).2 p
def nW(K:Kt)(D:JY)(h:TB)(f:Dn->M (List (List Pu.D))):Prop:=∀(F:Fx) (H0 H:Hp) (δ:Dn) (β d:Bg) (g:St) (acc:List V) (as os:List (List Pu.D)) (Q:St->Hp->Prop),Fr F H β->F.A D->(∀b l,F.bg=on (b,l)->D≠b/\D≠l)->(∀b l,F.bg=on (b,l)->H0 b≠JT/\H0 l≠JT)->hU K F H δ g->H D=on (.lst acc)->B3 K F D H0 H as acc->
 f δ β=on (.ok os,d)->as.length+os.length<=Ki->(∀e H1 c,m_ F D H H1 d->hU K F H1 δ e->H1 D=on (.lst c)->B3 K F D H0 H1 (as++os) c->Q e H1)->h g H Q
def oU(f:Dn->M (List Pu.D)):Dn->M (List (List Pu.D)):=λδ=>M.bind (f δ) λd=>M.ret [d]
theorem aG.snoc{P:JY->Prop}(p:P r)(c:H r=on (.lst xs))(d:aj K F H ds xs):∀{ba:List (List Pu.D)} {rs:List JY},aG K F H P ba rs->aG K F H P (ba++[ds]) (rs++[r])
 |[],[],_=>⟨p,⟨xs,c,d⟩,trivial⟩
 |_::_,_::_,h=>⟨h.1,h.2.1,aG.snoc p c d h.2.2⟩
 |[],_::_,h=>h.elim
 |_::_,[],h=>h.elim
theorem k4{D:JY}:nW K D (vY D (Kp K f E0)) (oU f):=λF H0 H δ β j Z acc as os Q fr m p T U W hd e hz k=>by
 obtain⟨d,β1,e1,e2⟩:=M.bind_inv e;cases e2;refine⟨F,δ,β,fr,U,E0.run e1 λv H1 t hv=>?_⟩;have u:=t.kp D _ W p;have A:=hd.mono m T fr (t.toD D);obtain⟨r,xs,rfl,g,n1,n2⟩:=hv;obtain⟨cv,rs,B,nd,Y⟩:=A;obtain⟨C,c,I,J,L⟩:=hd;have i:acc.length=as.length:=by rw[B,JS,Y.len]
 have N:c=rs:=by
  have:c.map V.ref=rs.map V.ref:=I.symm.trans B;exact Qf (λa b q=>by cases q;rfl)|>.mp this
 subst N;have nD:r≠D:=λz=>by subst z;rw[W]at g;cases g
 have nr:r∉c:=λz=>by
  obtain⟨_,ys,q⟩:=L.all r z;rw[q]at g;cases g
 have O:H0 r=JT:=by
  cases q:H0 r with
  |none=>rfl
  |some o=>exact Kx g (C r (by rw[q];simp))
 refine⟨acc,u,by rw[i];simp at hz;omega,?_⟩;have R:m_ F D H1 (upd H1 D (.lst (acc++[.ref r]))) j:=by
  refine⟨λa o h n _=>by rw[a_ n];exact h,λa h q=>?_,fr.bgA,λb l q=>?_⟩
  .by_cases z:a=D
   .subst z;rw[af]at q;cases q
   .rw[a_ z]at q;exact t.fr.occ a h q
  .rw[a_ (p b l q).1.symm,a_ (p b l q).2.symm]
   exact t.fr.bag b l q
 have tt:=R.tr t.fr m;refine k Z _ _ ((t.toD D).trans R) (U.tr ((t.tr fr).trans tt)) af (B3.mono m T t.fr R ⟨cv,c++[r],by rw[B,KC];rfl,?_,aG.snoc O n1 (aj.tr Fx.tr_of _ _ n2) Y⟩);rw[<-Nz,O3];refine⟨J,by simp,λx hx y hy=>?_⟩;obtain rfl:y=r:=by simpa using hy
 rcases Kk.mp hx with rfl|hx
 .exact nD.symm
 .exact λz=>nr (z▸hx)
end
section
variable{X:Cx}{E:St->XK}{K:Kt}
theorem EZ{D:JY}(hg:cz K g tg)(sg:dg tg)(hb:nW K D tb b){F:Fx}{as os:List (List Pu.D)}(fr:Fr F H β)(hA:F.A D)(hn:∀b l,F.bg=on (b,l)->D≠b/\D≠l)(h0:∀b l,F.bg=on (b,l)->H0 b≠JT/\H0 l≠JT)(vk:hU K F H δ σ)(hD:H D=on (.lst acc))(hd:B3 K F D H0 H as acc)
  (it:s9 K J F H ds) (e:mn tg tt b ds δ β=on (.ok os,β')) (hz:as.length+os.length<=Ki) (k:∀f H1 a,m_ F D H H1 β'->hU K F H1 δ f->H1 D=on (.lst a)->B3 K F D H0 H1 (as++os) a->Q f H1):cP J g (g8 K tt E0) tb σ H Q:=by
 refine⟨λi m f H1=>m+i=ds.length/\∃β1 a j r,m_ F D H H1 β1/\hU K F H1 δ f/\H1 D=on (.lst a)/\B3 K F D H0 H1 j a/\mn tg tt b (ds.drop i) δ β1=on (.ok r,β')/\j++r=as++os,
  ⟨ds.length,by omega,β,acc,as,os,⟨λ_ _ h _ _=>h,fr⟩,vk,hD,hd,e,rfl⟩,?_⟩
 rintro i m f H1 ⟨hm,β1,a,j,r,t,C,I,L,p,ea⟩;have tr1:=t.tr fr hA;obtain⟨iy,is⟩:=it F H1 β1 tr1 t.fr i;cases hi:ds[i]? with
 |none=>
  have hl:ds.length<=i:=OY.mp hi;rw[M2 hl]at p;cases p;refine .inl ⟨is (by omega),k f H1 a t C I ?_⟩;rw[<-ea,KW];exact L
 |some d=>
  have hl:i<ds.length:=(Kc.mp hi).1;obtain⟨go,yl⟩:=iy d hi;have ed:ds.drop i=d::ds.drop (i+1):=by
   rw[Ls hl];congr 1;exact KE ((JX hl).symm.trans hi)
  rw[ed]at p;unfold mn at p;cases q:tg d δ with
  |none=>rw[q]at p;cases p
  |some u=>
   rw[q]at p;obtain⟨c,β2,e2,e3⟩:=M.bind_inv p;obtain⟨o,v,e4,e5⟩:=M.bind_inv e3;obtain⟨N,β4,e6,e7⟩:=M.bind_inv e5;cases e7;obtain⟨s1,s2⟩:=sg _ _ _ q;refine .inr ⟨go,λO R=>∃n,m_ F D H R v/\hU K F R δ O/\R D=on (.lst n)/\B3 K F D H0 R (j++o) n,?_,λx H2 hy=>?_⟩
   .rintro O R ⟨n,t9,vk9,hD9,hd9⟩
    exact⟨m-1,by omega,by omega,v,n,j++o,N,t9,vk9,hD9,hd9,e6,by rw[Lg];exact ea⟩
   .obtain⟨sm,dx⟩:=yl x H2 hy
    have B:To F H1 H2 β1:=t.fr.same sm;have tr2:=B.tr t.fr;refine hg F H2 δ u f d x _ (C.tr tr2) dx q λσ2 y=>⟨F,u,β1,B.fr,y,E0.run e2 λc' H3 T ec=>?_⟩;subst ec;have hD2:=sm _ _ I;have U:=T.kp D _ hD2 hn;have W:=T.tr B.fr;have d3:=(L.mono hA h0 t.fr (B.toD D)).mono hA h0 B.fr (T.toD D);have Y:m_ F D H H3 β2:=t.trans ((B.trans T).toD D);have hle:j.length+(o++N).length<=Ki:=by
     have:=La PX ea;simp only[Kg]at this⊢;omega
    cases c' with
    |true=>
     rw[J8 rfl]at e4⊢;refine hb F H0 H3 u β2 v σ2 a j o _ T.fr hA hn h0 (y.tr W) U d3 e4 (by rw[Kg]at hle;omega) λσ4 H4 Z t4 vk4 hD4 hd4=>?_;exact⟨Z,Y.trans t4,vk4.sub s1 s2,hD4,hd4⟩
    |false=>
     rw[J6 J7]at e4⊢;cases e4;exact⟨a,Y,(y.tr W).sub s1 s2,U,by rw[KW];exact d3⟩
def gl(nv:Nat)(b_:List Nat)(it:Dn->M (List Pu.D))(tg:l0)(tt:Dn->M Bool)(b:Dn->M (List (List Pu.D))):Dn->M (List (List Pu.D)):=λδ β=>match it δ β with
 |none=>JT
 |some (.error C,β1)=>on (.error C,β1)
 |some (.ok ds,β1)=>match mn tg tt b ds (lg nv b_ δ) β1 with
  |some (.ok os,β2)=>if os.length<=Ki then on (.ok os,β2)else JT
  |_=>JT
theorem o5{cy:List K2}{b_:List Nat}{it:Dn->M (List Pu.D)}{g:TG}{tg:l0}{tt:Dn->M Bool}{B:JY->TB}{b:Dn->M (List (List Pu.D))}(T:cz K g tg)(U:dg tg)(W:∀D,nW K D (B D) b){I:St}{H:Hp}{Q:VK}(h:T3 K (gl cy.length b_ it tg tt b) E I H Q):
  mE cy b_ (iV K it E) (λD J=>cP J g (g8 K tt E0) (B D)) I H Q:=by
 obtain⟨F,δ,β,fr,L,r,j,e,h⟩:=h;unfold gl at e;refine⟨F,δ,β,fr,L,?_⟩;split at e
 .cases e
 .rename_i C β1 q
  cases e;exact⟨.error C,_,q,h⟩
 .rename_i ds β1 q
  split at e
  .rename_i os β2 q2
   split at e
   .rename_i Y
    cases e;refine⟨.ok ds,β1,q,λJ H1 t Z D d=>?_⟩;have f:¬F.A D:=t.fr.fresh d;have nb:∀b l,F.bg=on (b,l)->D≠b/\D≠l:=λb l z=>⟨λw=>f (w▸(fr.bgA b l z).1),λw=>f (w▸(fr.bgA b l z).2.1)⟩;have N:=t.fr.upd (.lst []) d;have k:Fr ⟨λa=>F.A a\/a=D,F.bg⟩ (upd H1 D (.lst [])) β1:=by
     refine⟨λa ha z=>?_,λb l z=>let ⟨x,y,w⟩:=fr.bgA b l z;⟨.inl x,.inl y,w⟩,N.fr.bag⟩
     rcases ha with ha|ha
     .exact N.fr.occ a ha z
     .subst ha;rw[af]at z;cases z
    have i:Tr F H1 ⟨λa=>F.A a\/a=D,F.bg⟩ (upd H1 D (.lst [])):=⟨λa ha hs z=>by
     rcases z with z|z
     .exact ha z
     .subst z;exact hs d,λa o ha z=>by rw[a_ (aC z d)];exact z,rfl⟩
    have cv:∀c,H c≠JT->upd H1 D (.lst []) c≠JT:=λc hc z=>by
     by_cases w:c=D
     .subst w;rw[af]at z;cases z
     .rw[a_ w]at z;exact hc (t.none z)
    refine EZ (D:=D) (H0:=H) (as:=[]) (os:=os) T U (W D) k (.inr rfl) nb (λb l z=>⟨fr.occ _ (fr.bgA b l z).1,fr.occ _ (fr.bgA b l z).2.1⟩) (nP (L.tr ((t.tr fr).trans i))) af ⟨cv,[],rfl,by simp,trivial⟩ (Z.tr i) q2 (by simpa using Y) λσ1 O R m vk3 u v=>?_;have tf:To F H1 O j:=by
     refine⟨λa o z n=>m.kp a o (by rw[a_ (aC z d)];exact z) (aC z d) n,λa ha z=>m.fr.occ a (Mn ha) z,fr.bgA,m.fr.bag⟩
    obtain⟨_,rs,ea,nd,rl⟩:=v;subst ea;exact h _ O (t.trans tf) ⟨D,rs,rfl,t.none d,u,nd,aG.tr (F:=⟨λa=>F.A a\/a=D,F.bg⟩) ⟨λa ha _ z=>ha (Mn z),λa o _ z=>z,rfl⟩ rl λr xs _ p q=>⟨p,q⟩⟩
   .cases e
  .cases e
section
variable{elt bb iter:Expr}{ifs:List Expr}{rest:List LR}{scope:Scope}{pos:OH}{Nc cy:List K2}{b_:List Nat}{g:TG}{tb:JY->TB}
theorem Hd(c:X.calm=JW)(S:c4 X scope Nc cy b_)(d:PI X bb iter (iV X.K it E))
  (e:∀(cl:List (K2×JY)) (C:JY) (a:List JY) (s:J4) (H:Hp),PG (ay X Nc scope cl C a s H) bb g/\dh (ay X Nc scope cl C a s H) ifs (g8 X.K tt E0)/\∀D,PB (ay X Nc scope cl C a s H) elt (⟨bb,iter,ifs,0⟩::rest) scope pos 0 D (tb D))
  (f:cz X.K g tg) (i:dg tg) (j:∀D,iF X.K D (tb D) b) (hs:∀x,K6 iter X.env x=Mm x:=by intro _;rfl):PE X (.ListComp elt (⟨bb,iter,ifs,0⟩::rest) scope pos) (Kp X.K (gj cy.length b_ it tg tt b) E):=
 (kW c S d e hs).imp λk H Q h=>wC f i j h
theorem HB(c:X.calm=JW)(S:c4 X scope Nc cy b_)(d:PI X bb iter (iV X.K it E))
  (e:∀(cl:List (K2×JY)) (C:JY) (a:List JY) (s:J4) (H:Hp),PG (ay X Nc scope cl C a s H) bb g/\dh (ay X Nc scope cl C a s H) ifs (g8 X.K tt E0)/\∀D,PB (ay X Nc scope cl C a s H) elt (⟨bb,iter,ifs,0⟩::rest) scope pos 0 D (tb D))
  (f:cz X.K g tg) (i:dg tg) (j:∀D,nW X.K D (tb D) b) (hs:∀x,K6 iter X.env x=Mm x:=by intro _;rfl):PE X (.ListComp elt (⟨bb,iter,ifs,0⟩::rest) scope pos) (T3 X.K (gl cy.length b_ it tg tt b) E):=
 (kW c S d e hs).imp λk H Q h=>o5 f i j h
end
mutual
noncomputable def noL:D->Bool
 | .int _=>JW
 | .bl _=>JW
 | .str _=>JW
 | .non=>JW
 | .tup ds=>noLs ds
 |_=>JZ
noncomputable def noLs:List D->Bool
 |[]=>JW
 |d::ds=>noL d&&noLs ds
end
mutual
theorem tQ{F b:Fx}(f:∀c,b.A c->F.A c\/v_ H c):∀(d:D) (v:V),noL d=JW->bt K F H d v->bt K b H d v
 | .int i,v,_,h=>h
 | .bl i,v,_,h=>h
 | .str i,v,_,h=>h
 | .non,v,_,h=>h
 | .tup ds,v,n,h=>by
  obtain⟨a,xs,e,h1,g⟩:=h;refine⟨a,xs,e,?_,noLs_den f ds xs (by simpa[noL]using n) g⟩;rcases h1 with⟨h1,r⟩|h1
  .refine .inl ⟨λz=>?_,r⟩
   rcases f a z with z|⟨ys,z⟩|⟨ys,z⟩
   .exact h1 z
   .rcases r with r|⟨o,r⟩<;>rw[z]at r<;>cases r
   .rcases r with r|⟨o,r⟩<;>rw[z]at r<;>cases r
  .exact .inr h1
 | .lst _,_,n,_=>by simp[noL]at n
 | .scr _,_,n,_=>by simp[noL]at n
 | .ty _,_,n,_=>by simp[noL]at n
 | .txt,_,n,_=>by simp[noL]at n
 | .obj _ _ _,_,n,_=>by simp[noL]at n
 | .bag,_,n,_=>by simp[noL]at n
 | .adr _,_,n,_=>by simp[noL]at n
 | .dct _ _ _,_,n,_=>by simp[noL]at n
theorem noLs_den{F a:Fx}(b:∀c,a.A c->F.A c\/v_ H c):∀(ds:List D) (xs:List V),noLs ds=JW->aj K F H ds xs->aj K a H ds xs
 |[],xs,_,h=>h
 |d::ds,xs,n,h=>by
  have f:noL d=JW/\noLs ds=JW:=by simpa[noLs]using n
  obtain⟨x,g,e,i,j⟩:=h;exact⟨x,g,e,tQ b d x f.1 i,noLs_den b ds g f.2 j⟩
end
theorem aG.noL{F b:Fx}{P d:JY->Prop}(e:∀c,b.A c->F.A c\/v_ H c):∀{ba:List (List D)} {rs:List JY},(∀ds∈ba,noLs ds=JW)->aG K F H P ba rs->(∀r∈rs,d r)->aG K b H d ba rs
 |[],[],_,_,_=>trivial
 |ds::ba,r::rs,n,h,p=>by
  obtain⟨j,⟨xs,f,g⟩,i⟩:=h;exact⟨p r J2,⟨xs,f,noLs_den e _ _ (n ds J2) g⟩,aG.noL e (λx a=>n x (J1 _ a)) i λx a=>p x (J1 _ a)⟩
 |[],_::_,_,h,_=>h.elim
 |_::_,[],_,h,_=>h.elim
theorem en.newGrd{δ:Ds}{d:St}(ok:en K H₀ B bg H δ β d)(t:To (d5 B bg) H H' β')(hn:∀ds∈ba,noLs ds=JW)(j:gp K (d5 B bg) H H' ba v):
  ∃e,en K H₀ e bg H' (δ.set i (on (.grd ba))) β' (d.set i (on v))/\g_ B H e H':=by
 obtain⟨a,rs,rfl,k,f,nd,b⟩:=j;have g:∀c,c=a\/c∈rs->H c=JT/\v_ H' c:=λc hc=>by
  rcases hc with rfl|hc
  .exact⟨k,.inl ⟨_,f⟩⟩
  .exact⟨(b.all c hc).1,.inl (b.all c hc).2⟩
 exact ok.claim (λc=>c=a\/c∈rs) t g λh l _=>⟨a,rs,rfl,h a (.inl rfl),f,nd,aG.noL (F:=d5 B bg) (λc hc=>(l c hc).imp id λw=>(g c w).2) hn b λr m=>h r (.inr m)⟩
end
section
variable{X:Cx}{E:St->XK}{K:Kt}{st:LM}{H₀:Hp}{B:Ow}{bg:Option (JY×JY)}{H H':Hp}{δ:Ds}{β β':Bg}{σ:St}
theorem en.newOwnE(ok:en K H₀ B bg H δ β σ)(t:To (d5 B bg) H H' β')(e:eF K (d5 B bg) H H' ds v):
  ∃b,en K H₀ b bg H' (δ.set i (on (.own ds))) β' (σ.set i (on v))/\g_ B H b H':=by
 obtain⟨a,xs,rfl,f,d,g⟩:=e;exact ok.claim (·=a) t (λc z=>by cases z;exact⟨f,.inl ⟨xs,d⟩⟩) λ{j} k l _=>⟨a,xs,rfl,k a rfl,d,aj.tr (show Tr ((d5 B bg).but a) H' (d5 j bg) H' from⟨λc h _ z=>h (l c z),λ_ _ _ h=>h,rfl⟩) _ _ g⟩
def ql(i:Nat)(f:FL):G:=λδ β=>match f (vw δ) β with
 |some (.ok ds,β1)=>on (.nx (δ.set i (on (.own ds))),β1)
 |some (.error C,β1)=>on (.ex C δ,β1)
 |none=>JT
theorem GE(h:PS X st (dH (Kp X.K f E) (c9 i))):PS X st (tG X.K X.H₀ (ql i f) E):=h.imp λD σ H d=>by
 obtain⟨B,bg,δ,β,o,β',ok,e,q⟩:=d;refine⟨d5 B bg,vw δ,β,ok.fr,ok.view,?_⟩;unfold ql at e;split at e
 .rename_i ds β1 b
  cases e;refine⟨.ok ds,_,b,λv H' t hd=>?_⟩;obtain⟨g,a,c⟩:=ok.newOwnE (i:=i) t hd;exact q _ _ _ c a
 .rename_i C β1 b
  cases e;refine⟨.error C,_,b,λH' t=>?_⟩;obtain⟨a,c⟩:=ok.to rfl t;exact q _ B H' c a
 .cases e
def oI(i:Nat)(f:Dn->M (List (List D))):G:=λδ β=>match f (vw δ) β with
 |some (.ok ba,β1)=>if(ba.all noLs)=JW then on (.nx (δ.set i (on (.grd ba))),β1)else JT
 |some (.error C,β1)=>on (.ex C δ,β1)
 |none=>JT
theorem BZ(h:PS X st (dH (T3 X.K f E) (c9 i))):PS X st (tG X.K X.H₀ (oI i f) E):=h.imp λD σ H g=>by
 obtain⟨B,bg,δ,β,o,β',ok,e,q⟩:=g;refine⟨d5 B bg,vw δ,β,ok.fr,ok.view,?_⟩;unfold oI at e;split at e
 .rename_i ba β1 b
  split at e
  .rename_i hn
   cases e;refine⟨.ok ba,_,b,λv H' t hd=>?_⟩;obtain⟨j,a,c⟩:=ok.newGrd (i:=i) t (λds d=>MS.mp hn ds d) hd;exact q _ _ _ c a
  .cases e
 .rename_i C β1 b
  cases e;refine⟨.error C,_,b,λH' t=>?_⟩;obtain⟨a,c⟩:=ok.to rfl t;exact q _ B H' c a
 .cases e
theorem aG.put{H:Hp}{P:JY->Prop}(t:Tr F H F (upd H r (.lst xs)))(hd:aj K F (upd H r (.lst xs)) ds xs):∀{ba:List (List D)} {rs:List JY} (j:Nat),aG K F H P ba rs->rs.Nodup->rs[j]?=on r->aG K F (upd H r (.lst xs)) P (ba.set j ds) rs
 |d0::ba,r0::rs,0,h,nd,e=>by
  obtain rfl:r0=r:=by simpa using e
  have ne:∀a∈rs,a≠r0:=λa b z=>(KM.mp nd).1 (z▸b);exact⟨h.1,⟨xs,af,hd⟩,aG.tr t h.2.2 λa ys b p q=>⟨p,by rw[a_ (ne a b)];exact q⟩⟩
 |d0::ba,r0::rs,j+1,h,nd,e=>by
  have c:rs[j]?=on r:=by simpa using e
  obtain⟨d,⟨ys,f,g⟩,i⟩:=h;have ne:r0≠r:=λz=>(KM.mp nd).1 (z▸KA c);exact⟨d,⟨ys,by rw[a_ ne];exact f,aj.tr t _ _ g⟩,aG.put t hd j i (KM.mp nd).2 c⟩
 |[],[],_,_,_,e=>by simp at e
 |[],_::_,_,h,_,_=>h.elim
 |_::_,[],_,h,_,_=>h.elim
theorem aG.at{H:Hp}{P:JY->Prop}:∀{ba:List (List D)} {rs:List JY} {j:Nat} {ds:List D},aG K F H P ba rs->ba[j]?=on ds->∃r xs,rs[j]?=on r/\P r/\H r=on (.lst xs)/\aj K F H ds xs
 |d0::ba,r0::rs,0,ds,h,e=>by
  obtain rfl:d0=ds:=by simpa using e
  obtain⟨a,⟨ys,b,c⟩,g⟩:=h;exact⟨r0,ys,rfl,a,b,c⟩
 |d0::ba,r0::rs,j+1,ds,h,e=>by
  obtain⟨r,xs,d,f⟩:=aG.at h.2.2 (j:=j) (ds:=ds) (by simpa using e);exact⟨r,xs,by simpa using d,f⟩
 |[],[],_,_,_,e=>by simp at e
 |[],_::_,_,_,h,_=>h.elim
 |_::_,[],_,_,h,_=>h.elim
theorem en.writeRow{rs:List JY}{ba:List (List D)}(ok:en K H₀ B bg H δ β σ)(hs:σ[i]?=on (on (.ref a)))(hB:B a=on (i+2))(ha:H a=on (.lst (rs.map V.ref)))(nd:(a::rs).Nodup)(u:aG K (d5 B bg) H (λr=>B r=on (i+2)) ba rs)(A:rs[j]?=on r)(I:H r=on (.lst ys))(hd:aj K (d5 B bg) H ds xs):
  en K H₀ B bg (upd H r (.lst xs)) (δ.set i (on (.grd (ba.set j ds)))) β σ/\g_ B H B (upd H r (.lst xs)):=by
 have m:r∈rs:=KA A;have f:B r=on (i+2):=(u.all r m).1;have g:g_ B H B (upd H r (.lst xs)):=by
  refine⟨λc o h n=>?_,λ_ _=>rfl,λ_ _ _ n=>n,λc p=>?_⟩
  .rw[a_]
   .exact h
   .intro z;subst z;rw[f]at n;rcases n with n|n<;>cases n
  .by_cases z:c=r
   .subst z;rw[af];simp
   .rw[a_ z];exact p
 have tr:Tr (d5 B bg) H (d5 B bg) (upd H r (.lst xs)):=g.tr;refine⟨⟨⟨λc p z=>?_,ok.fr.bgA,λb l e=>?_⟩,ok.bgt,by rw[KO,ok.len],λa ha=>g.al a (ok.cov a ha),ok.new,λc k p=>(by
  by_cases z:c=r
  .subst z;exact .inl ⟨xs,af⟩
  .exact(ok.lst c k p).imp λo y=>by rw[a_ z];exact y),λk s e=>?_⟩,g⟩
 .by_cases q:c=r
  .subst q;rw[af]at z;cases z
  .rw[a_ q]at z;exact ok.fr.occ c p z
 .obtain⟨b1,b2⟩:=ok.bgt b l e
  rw[a_ (λz=>by subst z;rw[f]at b1;cases b1),a_ (λz=>by subst z;rw[f]at b2;cases b2)];exact ok.fr.bag b l e
 .rw[LV]at e
  by_cases q:i=k
  .subst q
   rw[J8 rfl]at e;split at e
   .cases e
    have t:a≠r:=λz=>(KM.mp nd).1 (z▸m);exact⟨_,hs,a,rs,rfl,hB,by rw[a_ t];exact ha,nd,aG.put tr (aj.tr tr _ _ hd) j u (KM.mp nd).2 A⟩
   .cases e
  .rw[J6 q]at e
   obtain⟨v,C,F⟩:=ok.tell k s e;exact⟨v,C,F.tr tr λc d=>⟨d,λo z=>(a_ λy=>by subst y;rw[f]at d;cases d;exact q rfl).trans z⟩⟩
def kj(f:Dn->M (List (List D))):G:=λδ β=>match f (vw δ) β with
 |some (.ok ba,β1)=>on (.rg ba,β1)
 |some (.error C,β1)=>on (.ex C δ,β1)
 |none=>JT
theorem DZ(h:PS X (.Return (on e) pos) (yN (T3 X.K f E))):PS X (.Return (on e) pos) (tG X.K X.H₀ (kj f) E):=h.imp λD σ H j=>by
 obtain⟨B,bg,δ,β,o,β',ok,e,q⟩:=j;refine⟨d5 B bg,vw δ,β,ok.fr,ok.view,?_⟩;unfold kj at e;split at e
 .rename_i ba β1 d
  cases e;refine⟨.ok ba,_,d,λv H' t hd=>?_⟩;obtain⟨b,g⟩:=ok.to rfl t;have i:∀c,H c=JT->X.H₀ c=JT:=λc k=>by
   cases w:X.H₀ c with
   |none=>rfl
   |some o=>exact Kx k (ok.cov c (by rw[w];simp))
  obtain⟨a,rs,rfl,l,m,nd,n⟩:=hd;exact q _ B H' g b.fr ⟨a,rs,rfl,i a l,m,nd,aG.tr (Tr.refl _ _) n λr xs _ p y=>⟨i r p,y⟩⟩
 .rename_i C β1 d
  cases e;refine⟨.error C,_,d,λH' t=>?_⟩;obtain⟨b,g⟩:=ok.to rfl t;exact q _ B H' g b
 .cases e
def UW(K:Kt)(n:Nat)(m:List D->M (List (List D))):Sp:=λvs H Q E=>vs.length=n/\∃F ds β,Fr F H β/\aj K F H ds vs/\run (gp K F H) F (λ_=>E) [] (m ds) H Q β
def li(n:Nat)(g:G):List D->M (List (List D)):=λds β=>match g (r8 n ds) β with
 |some (.rg ba,β')=>on (.ok ba,β')
 |some (.ex C _,β')=>on (.error C,β')
 |_=>JT
variable{P:KF}{w:K1}{mg:K2->Option J0}{base:Lj}
theorem FQ{st:LM}{N ps:List K2}(n m:Nat)(g:G)(F:dv K x qual st f fd)(S:cx N ps (ah st))(L:ps.length=n)(O:N.length=m)
  (j:∀(c:J0) (A:Lf) (outer:List Q6) (s:J4) (H:Hp) (E:XK),ee k (A.deeper (Oy qual (ah st) s.heap.objs.size f c))->
   PSs (fK (iv P w) P w K mg base N qual (ah st) f c A outer s H E) (cK st) (tG K H g (λ_=>E))):f0 P w K mg base (iv P w) (k+1) f fd ps (UW K n (li m g)):=by
 subst L O;refine F.okE S (λvs H Q E h=>h.1) λc A outer s H vs Q E hr h=>?_;obtain⟨hl,u,ds,β,fr,hd,r,β',e,h⟩:=h;refine⟨_,j c A outer s H E hr,?_⟩;obtain⟨B,ok,R,h1,hn⟩:=wI (N:=N) fr hd;have J:∀{I:Ow} {H':Hp},g_ B H I H'->Fr (d5 I u.bg) H' β'->To u H H' β'/\Tr (d5 I u.bg) H' u H':=λ{I H'} s i=>by
  have hs:∀a,u.A a->I a≠JT:=λa ha=>by
   rw[s.tg a (R a ha)];rcases R a ha with z|z<;>rw[z]<;>simp
  refine⟨⟨λa o ha n=>s.kp a o ha ?_,λa ha=>i.occ a (hs a ha),λb l e=>fr.bgA b l e,i.bag⟩,λa ha _ z=>ha (hs a z),λ_ _ _ h=>h,rfl⟩;cases q:B a with
  |none=>exact .inl rfl
  |some t=>
   have:=R a (hn a (by rw[q];simp));rcases this with z|z
   .rw[q]at z;exact .inr z
   .obtain⟨b,l,e,w⟩:=h1 a z
    obtain⟨T,n2⟩:=n b l e;rcases w with w|w
    .exact Kx w T
    .exact Kx w n2
 unfold li at e;split at e
 .rename_i d β1 U
  cases e;refine⟨B,u.bg,r8 N.length ds,β,.rg d,β',ok,U,λv I H' s i hv=>?_⟩;obtain⟨W,t2⟩:=J s i;obtain⟨a,rs,ev,n0,T,nd,rl⟩:=hv;exact h v H' W ⟨a,rs,ev,n0,T,nd,aG.tr t2 rl λr xs _ p y=>⟨p,y⟩⟩
 .rename_i C Y β1 U
  cases e;refine⟨B,u.bg,r8 N.length ds,β,.ex C Y,β',ok,U,λσ' I H' s Z=>?_⟩;obtain⟨W,t2⟩:=J s Z.fr;exact h H' W
 .cases e
variable{e:Expr}{es:List Expr}{pos p:OH}{x:K2}{k n:Nat}{f:JY}{fd:KJ}{ps:List K2}
def sr(m:List D->M (List (List D)))(g:FL):Dn->M (List (List D)):=λδ=>M.bind (g δ) λas=>m as
theorem gp.pre{K:Kt}{H H1 H':Hp}(t:To F H H1 β1)(h:gp K F H1 H' ba v):gp K F H H' ba v:=by
 obtain⟨a,rs,b,c,d,nd,g⟩:=h;exact⟨a,rs,b,t.none c,d,nd,aG.tr (Tr.refl _ _) g λr xs _ p y=>⟨t.none p,y⟩⟩
theorem HC(G:f0 X.prog X.w X.K X.mg X.base (iv X.prog X.w) k f fd ps (UW X.K n m))(u:ee k X.A)(y:Gl X x)(hm:X.mg x=on (.ref f))(I:Oz X.K (.ref f)=JW)(J:aS X.K fd ps [])(L:dN (iv X.prog X.w) X E)
  (ha:PA X (e::es) (hW X.K g E)) (hn:∀δ β r β',g δ β=on (.ok r,β')->r.length=n) (a:(x==("__debug__":K2))=JZ:=by decide) (N:Kj (e::es) X.env=(JZ,LC e X.env)::Kj es X.env:=by rfl) (b:(Nw pos (Kj es X.env)).any (·.1)=JZ:=by rfl):
  PE X (.Call (.Name x p) (e::es) [] pos) (T3 X.K (sr m g) E):=
 (kX G u y hm I J .nil L ha a N b).imp λσ H Q O=>j1 O λF δ β fr T r=>⟨F,δ,β,fr,T,by
  obtain⟨h,c,i,j⟩:=run.bind (R:=aj X.K F) r;refine⟨h,c,i,?_⟩;cases h with
  |error C=>exact j
  |ok ds=>
   intro vs H1 t hd;obtain⟨d',β1,l,d,U⟩:=j vs H1 t hd;have W:=hn _ _ _ _ i;refine⟨by rw[KW,<-hd.length,W],F,d',β1,l.fr,by rw[KW];exact d,?_⟩;obtain⟨o,β2,Y,q⟩:=U;refine⟨o,β2,Y,?_⟩;cases o with
   |ok ba=>exact λv H' Z hv=>q v H' Z (gp.pre l hv)
   |error C=>exact q⟩
variable{elt bb iter:Expr}{ifs:List Expr}{rest:List LR}{scope:Scope}{Nc cy:List K2}{b_:List Nat}{g:TG}{tb:JY->TB}
theorem qU{x:K2}{a c:OH}(m:X.N.Nodup)(d:X.N[i]?=on x)(o:wl X.env.scope x)(q:X.calm=JW)(S:c4 X scope Nc cy b_)(r:PI X bb iter (iV X.K it E))
  (t:∀(cl:List (K2×JY)) (C:JY) (l:List JY) (s:J4) (H:Hp),PG (ay X Nc scope cl C l s H) bb g/\dh (ay X Nc scope cl C l s H) ifs (g8 X.K tt E0)/\∀D,PB (ay X Nc scope cl C l s H) elt (⟨bb,iter,ifs,0⟩::rest) scope pos 0 D (tb D))
  (u:cz X.K g tg) (v:dg tg) (y:∀D,nW X.K D (tb D) b)
  (j:Pd (.ListComp elt (⟨bb,iter,ifs,0⟩::rest) scope pos) (on (.Name x a)) c.line X.env=Mm JW:=by rfl)
  (hs:∀x,K6 iter X.env x=Mm x:=by intro _;rfl) (A:X.fn x=JW\/X.env.scope.names.lookup x=on .local:=by first|exact .inl rfl|exact .inr rfl|assumption):
  PS X (.Assign [.Name x a] (.ListComp elt (⟨bb,iter,ifs,0⟩::rest) scope pos) c) (tG X.K X.H₀ (oI i (gl cy.length b_ it tg tt b)) E):=
 BZ ((tE m d o q S r t j hs A).imp λD σ H h=>o5 u v y h)
end
end L2.Pu
namespace L2
open PySem PySem.Spec PyProof.Rows
section
variable{X:Cx}
theorem zW{bs:List Bool}{its:List J0}(r:aq (bs.map V.bl) its){i:Nat}{v:J0}(h:its.toArray[i]?=on v):v= .bool (bs.getD i JZ):=by
 have h':its[i]?=on v:=by simpa using h
 have a:=r.length;rw[JS]at a;have b:i<bs.length:=by rw[a];exact(Kc.mp h').1
 obtain⟨u,c,d⟩:=r.get (i:=i) (x:=V.bl bs[i]) (by rw[J9,JX b];rfl);rw[h']at c;cases c;rw[Kd,JX b];exact d
theorem w9{α:Type}(f:Bool->Bool)(bs:List Bool):(Ka bs.length).map (λi=>bs.getD i JZ)=bs:=by
 apply List.ext_getElem?;intro i;rw[J9];by_cases h:i<bs.length
 .rw[Li h,JX h]
  simp[Kd,JX h]
 .rw[RK (by simpa using h),RK (by omega)];rfl
theorem xa(bs:List Bool):((Ka bs.length).any λi=>bs.getD i JZ)=bs.any id:=by
 conv=>rhs;rw[<-w9 (α:=Bool) id bs]
 rw[List.any_map];rfl
theorem kD(l:X.calm=JW):cI X (.builtin "any") (λxs H Q=>∃(a:JY) (bs:List Bool),xs=[.ref a]/\e_ X.K H a (bs.map V.bl)/\Q (.bl (bs.any id)) H):=by
 intro j s C H xs us Q I r h;obtain⟨a,bs,rfl,m,q⟩:=h;cases r with
 |cons n t=>
  cases n;cases t;obtain⟨its,k,p,F⟩:=I.list m;have f:=p.isList;have c:its.toArray.size=bs.length:=by rw[Kh,<-k.length,JS]
  have d:∀b o,s.heap.get? b=on o->b≠s.heap.objs.size:=λb o e z=>by
   rw[z,Sd (J3 _)]at e;cases e
  have g:a≠s.heap.objs.size:=by
   obtain⟨o,e,_⟩:=f;exact d a o e
  have W:=Walks.list (prog:=X.prog) (w:=X.w) (A:=X.A.in1) (show X.A.in1.handled=JT from I.ok.hd l) s.heap.objs.size a g its.toArray;refine call_any_walk (Px f ⟨s.heap.objs.size,[s.heap.objs.size,a],[s.heap.objs.size],its.toArray.size,_,_,λi=>bs.getD i JZ,rfl,W,⟨⟨_,Kf s.heap rfl,rfl,rfl⟩,f.push _⟩,λi v s' J L u y=>?_,λh' N B=>?_⟩)
  .rw[zW k u]
   exact LD y
  .rw[c,xa]
   exact⟨.bl (bs.any id),H,I.kept λb o e=>B b o (λz=>d b o e (by simpa using z)) (JV _ e),rfl,q⟩
end
end L2
namespace L2.Pu
open PySem PySem.Spec PyProof.Rows
noncomputable def dD:List D->Option (List Bool)
 |[]=>on []
 | .bl b::r=>(dD r).map (b::·)
 |_=>JT
theorem lF{K:Kt}:∀{ds:List D} {xs:List V} {bs:List Bool},dD ds=on bs->aj K F H ds xs->xs=bs.map V.bl
 |[],xs,bs,e,h=>by
  cases e;cases h;rfl
 |d::ds,xs,bs,e,h=>by
  obtain⟨x,f,rfl,a,c⟩:=h;cases d<;>first
   |(rename_i b
     cases q:dD ds with
     |none=>simp[dD,q]at e
     |some r=>
     simp[dD,q]at e;subst e;cases a.bl;rw[lF q c];rfl)
   |simp[dD]at e
def vZ:List D->Option D
 |[.lst ds]=>(dD ds).map λbs=> .bl (bs.any id)
 |_=>JT
variable{K:Kt}
theorem vt:da K (λxs H Q=>∃(a:JY) (bs:List Bool),xs=[.ref a]/\e_ K H a (bs.map V.bl)/\Q (.bl (bs.any id)) H) vZ:=λF H β Q ds d vs fr h e k=>by
 unfold vZ at e;split at e
 .obtain⟨v,rfl,g⟩:=aj.one h
  obtain⟨a,xs,rfl,r,b⟩:=bt.sqL g;obtain⟨bs,q,e⟩:=Pn.mp e;subst e;rw[lF q b]at r;exact⟨a,bs,rfl,r,k _ H (To.refl fr) rfl⟩
 .cases e
end L2.Pu
namespace L2
open PySem PySem.Spec PyProof.Rows
section
variable{X:Cx}{a b c d:Expr}{ta tb tc td:TE}{pos:OH}
def IQ(i e:R2)(tc td:TE)(y:V):TE:=λf H Q=>tc f H λw j=>i y w j λk g=>∃h,k= .bl h/\(if h=JW then td f g λl m=>e w l m Q else Q (.bl JZ) g)
def sU(r h e:R2)(ta tb tc td:TE):TE:=λf H Q=>ta f H λx H1=>tb f H1 λy i=>r x y i λz g=>∃k,z= .bl k/\(if k=JW then IQ h e tc td y f g Q else Q (.bl JZ) g)
theorem xh(J:f_ X (Lp op) r)(l:f_ X (Lp op') r')(i:f_ X (Lp op'') r'')(ha:PE X a ta)(L:PE X b tb)(N:PE X c tc)(hd:PE X d td)
  (hm:Tf [op,op',op''] [b,c,d]=JZ:=by with_unfolding_all rfl):PT X (.Compare a [op,op',op''] [b,c,d] pos) (uP (sU r r' r'' ta tb tc td)):=by
 intro f s g H Q I h;refine isTrue_chain (d_ (ha f s g H _ I h) λv O ⟨x,H1,R,T,q1⟩=>test_link (d_ (L f O g H1 _ R q1) λu U ⟨y,W,Y,o,q2⟩=>
  d_ (J f U g W x y v u _ Y T o q2) λZ s3 ⟨z,p,q,r3,k,e,q3⟩=>?_)) hm
 subst e;cases r3;refine LD ?_;cases k with
 |false=>
  obtain⟨m,j,n⟩:=q3;cases j;exact ite_ff ⟨p,q,n⟩
 |true=>
  refine ite_tt (test_link (d_ (N f s3 g p _ q q3) λt s4 ⟨A,H4,I4,B,q4⟩=>d_ (l f s4 g H4 y A u t _ I4 o B q4) λZ s5 ⟨z',C,F,r5,m,j,q5⟩=>?_));subst j;cases r5;refine LD ?_;cases m with
  |false=>
   obtain⟨m,j,n⟩:=q5;cases j;exact ite_ff ⟨C,F,n⟩
  |true=>
   refine ite_tt (test_last (d_ (hd f s5 g C _ F q5) λw' s6 ⟨z2,H6,I6,r6,q6⟩=>d_ (i f s6 g H6 A z2 t w' _ I6 B r6 q6) λd' s7 ⟨z3,H7,I7,r7,k3,e3,q7⟩=>?_));subst e3;cases r7;exact LD ⟨H7,I7,q7⟩
end
end L2
namespace L2.Pu
open PySem PySem.Spec PyProof.Rows
section
variable{X:Cx}{E:St->XK}{a b c d:Expr}{pos:OH}{K:Kt}
def CW(f e:D->D->Option D)(h i:FD)(y:D):FD:=λδ=>M.bind (h δ) λw=>M.bind (M.ofO (f y w)) λz=>M.bind (M.ofO (asB z)) λc=>if c=JW then M.bind (i δ) (λg=>M.ofO (e w g))else M.ret (.bl JZ)
def ld(o j e:D->D->Option D)(f g h i:FD):FD:=λδ=>M.bind (f δ) λa=>M.bind (g δ) λb=>M.bind (M.ofO (o a b)) λz=>M.bind (M.ofO (asB z)) λc=>if c=JW then CW j e h i b δ else M.ret (.bl JZ)
theorem run.later{α i:Type}{R:Hp->α->i->Prop}{F:Fx}{j:St}{m:M α}{H H1:Hp}{Q:i->Hp->Prop}{β:Bg}(t:To F H H1 β)(h:run R F E j m H Q β):run R F E j m H1 Q β:=by
 obtain⟨k,f,e,q⟩:=h;refine⟨k,f,e,?_⟩;cases k with
 |ok d=>exact λv g tt=>q v g (t.trans tt)
 |error C=>exact λg tt=>q g (t.trans tt)
theorem uS(l:aV K r o)(l':aV K r' o')(O:aV K r'' o'')(T:tV K (ld o o' o'' f g h i) E σ H Q):sU r r' r'' (tV K f E) (tV K g E) (tV K h E) (tV K i E) σ H Q:=by
 obtain⟨F,δ,β,fr,U,T⟩:=T;refine⟨F,δ,β,fr,U,(run.bind (R:=bt K F) T).mono λv H1 n=>pj n λd β1 t hd r1=>⟨F,δ,β1,t.fr,U.tr (t.tr fr),(run.bind (R:=bt K F) r1).mono λv2 H2 n=>pj n λd2 β2 p u r2=>?_⟩⟩;obtain⟨z,ez,r3⟩:=run.ofO_bind r2;obtain⟨c,ec,L⟩:=run.ofO_bind r3;rw[ia ec]at ez;have W:=U.tr ((t.tr fr).trans (p.tr t.fr));refine l F H2 β2 _ d d2 _ v v2 p.fr (bt.tr (p.tr t.fr) _ _ hd) u ez λvz H3 j hz=>⟨c,hz,?_⟩;cases c with
 |true=>
  rw[J8 rfl]at L;have Y:=bt.tr (j.tr p.fr) _ _ u;have y:=W.tr (j.tr p.fr);have r5:=run.later j L;refine⟨F,δ,β2,j.fr,y,(run.bind (R:=bt K F) r5).mono λw H4 n=>pj n λdw A B C r6=>?_⟩;obtain⟨z',I,r7⟩:=run.ofO_bind r6;obtain⟨c',Z,N⟩:=run.ofO_bind r7;rw[ia Z]at I;refine l' F H4 A _ d2 dw _ v2 w B.fr (bt.tr (B.tr j.fr) _ _ Y) C I λvz' H5 m hz'=>⟨c',hz',?_⟩;cases c' with
  |true=>
   rw[J8 rfl]at N;refine⟨F,δ,A,m.fr,y.tr ((B.tr j.fr).trans (m.tr B.fr)),(run.bind (R:=bt K F) (run.later m N)).mono λw' H6 ⟨dw',β6,t6,J,r9⟩=>?_⟩;obtain⟨d3,e3,k⟩:=run.ofO r9;exact O F H6 β6 Q dw dw' d3 w w' t6.fr (bt.tr ((m.tr B.fr).trans (t6.tr m.fr)) _ _ C) J e3 k
  |false=>
   rw[J6 J7]at N;obtain⟨rr,β',e,q⟩:=N;cases e;exact q _ H5 m rfl
 |false=>
  rw[J6 J7]at L;obtain⟨rr,β',e,q⟩:=L;cases e;exact q _ H3 j rfl
theorem yM(m:f_ X (Lp op) r)(j:f_ X (Lp op') r')(e:f_ X (Lp op'') r'')(l:aV X.K r o)(n:aV X.K r' o')(k:aV X.K r'' o'')(ha:PE X a (tV X.K f E))(p:PE X b (tV X.K g E))(t:PE X c (tV X.K h E))(hd:PE X d (tV X.K i E))(hm:Tf [op,op',op''] [b,c,d]=JZ:=by with_unfolding_all rfl):
  PT X (.Compare a [op,op',op''] [b,c,d] pos) (g8 X.K (fB (ld o o' o'' f g h i)) E):=(xh m j e ha p t hd hm).imp λu H Q q=>uS l n k (lL q)
variable{st:LM}{H₀:Hp}{B:Ow}{bg:Option (JY×JY)}{H H':Hp}{δ:Ds}{β β':Bg}{σ:St}
theorem aG.put2{H:Hp}{P:JY->Prop}(p:P r)(e:H r=on (.lst xs))(hd:aj K F H ds xs):∀{ba:List (List D)} {rs:List JY} (j:Nat),aG K F H P ba rs->aG K F H P (ba.set j ds) (rs.set j r)
 |[],[],_,_=>trivial
 |_::_,_::_,0,h=>⟨p,⟨xs,e,hd⟩,h.2.2⟩
 |_::_,_::_,j+1,h=>⟨h.1,h.2.1,aG.put2 p e hd j h.2.2⟩
 |[],_::_,_,h=>h.elim
 |_::_,[],_,h=>h.elim
theorem fy{α:Type}{x y:α}:∀{l:List α} {j:Nat},x∈l.set j y->x=y\/x∈l
 |[],_,h=>by cases h
 |a::l,0,h=>by
  rcases Kk.mp h with rfl|h
  .exact .inl rfl
  .exact .inr (J1 _ h)
 |a::l,j+1,h=>by
  rcases Kk.mp h with rfl|h
  .exact .inr J2
  .rcases fy h with z|z
   .exact .inl z
   .exact .inr (J1 _ z)
theorem pw:∀{rs:List JY} {j:Nat},rs.Nodup->r∉rs->(rs.set j r).Nodup
 |[],_,h,_=>h
 |a::rs,0,h,n=>KM.mpr ⟨λz=>n (J1 _ z),(KM.mp h).2⟩
 |a::rs,j+1,h,n=>KM.mpr ⟨λz=>(by
  rcases fy z with z|z
  .exact n (z▸J2)
  .exact(KM.mp h).1 z),pw (KM.mp h).2 λz=>n (J1 _ z)⟩
theorem en.putRow{H1 g:Hp}{β1 β2:Bg}{a r:JY}{rs:List JY}{ba:List (List D)}(ok:en K H₀ B bg H δ β σ)(t:en K H₀ B bg g δ β2 σ)(s2:g_ B H B g)(kk:∀c o,H c=on o->B c≠on 1->g c=on o)
  (hs:σ[i]?=on (on (.ref a))) (hB:B a=on (i+2)) (ha:g a=on (.lst (rs.map V.ref))) (W:H a=on (.lst (rs.map V.ref))) (nd:(a::rs).Nodup) (rl:aG K (d5 B bg) g (λr=>B r=on (i+2)) ba rs) (C:H r=JT) (R:g r=on (.lst xs)) (hn:noLs ds=JW) (hd:aj K (d5 B bg) g ds xs) (J:∀c∈rs,H c≠JT) (Y:∀w∈ba,noLs w=JW):
  ∃B',en K H₀ B' bg (upd g a (.lst ((rs.map V.ref).set j (.ref r)))) (δ.set i (on (.grd (ba.set j ds)))) β2 σ/\g_ B H B' (upd g a (.lst ((rs.map V.ref).set j (.ref r)))):=by
 classical
 have I:B r=JT:=LK λz=>ok.fr.occ r z C;have u:a≠r:=λz=>by rw[<-z,W]at C;cases C
 have Z:r∉rs:=λz=>J r z C;have own:∀c,c∈rs->B c=on (i+2):=λc hc=>(rl.all c hc).1;have nb:∀b l,bg=on (b,l)->b≠r/\l≠r:=λb l e=>by
  obtain⟨b1,b2⟩:=ok.bgt b l e;exact⟨λz=>(by rw[z,I]at b1;cases b1),λz=>(by rw[z,I]at b2;cases b2)⟩
 have nb2:∀b l,bg=on (b,l)->b≠a/\l≠a:=λb l e=>by
  obtain⟨b1,b2⟩:=ok.bgt b l e;exact⟨λz=>(by rw[z,hB]at b1;cases b1),λz=>(by rw[z,hB]at b2;cases b2)⟩
 have L:g_ B H (λc=>if c=r then on (i+2)else B c) (upd g a (.lst ((rs.map V.ref).set j (.ref r)))):=by
  refine⟨λc o h n=>?_,λc hc=>?_,λc o h n=>?_,λc hc=>?_⟩
  .rw[a_ (λz=>by subst z;rw[hB]at n;rcases n with n|n<;>cases n)]
   exact s2.kp c o h n
  .have:c≠r:=λz=>by rw[z,I]at hc;rcases hc with hc|hc<;>cases hc
   simp only[J6 this]
  .have:c≠r:=λz=>by rw[z,C]at h;cases h
   simp only[J6 this];exact n
  .by_cases z:c=a
   .subst z;rw[af];simp
   .rw[a_ z];exact s2.al c hc
 have tr:Tr (d5 B bg) H (d5 (λc=>if c=r then on (i+2)else B c) bg) (upd g a (.lst ((rs.map V.ref).set j (.ref r)))):=L.tr;refine⟨λc=>if c=r then on (i+2)else B c,⟨⟨λc hc z=>?_,λb l e=>?_,λb l e=>?_⟩,λb l e=>?_,by rw[KO,ok.len],λc hc=>?_,λc k hc=>?_,λc k hc=>(by
  have f:(if c=r then on (i+2)else B c)=on (k+2):=hc;by_cases w:c=a
  .subst w;exact .inl ⟨_,af⟩
  .by_cases z:c=r
   .subst z;exact .inl ⟨xs,by rw[a_ w];exact R⟩
   .rw[J6 z]at f;exact(t.lst c k f).imp λo y=>by rw[a_ w];exact y),λk s e=>?_⟩,L⟩
 .by_cases q:c=a
  .subst q;rw[af]at z;cases z
  .rw[a_ q]at z
   by_cases w:c=r
   .subst w;rw[R]at z;cases z
   .have f:(if c=r then on (i+2)else B c)≠JT:=hc
    rw[J6 w]at f;exact t.fr.occ c f z
 .obtain⟨N,O⟩:=nb b l e
  obtain⟨b1,b2⟩:=ok.bgt b l e;refine⟨?_,?_,(ok.fr.bgA b l e).2.2⟩
  .show(if b=r then on (i+2)else B b)≠JT
   rw[J6 N,b1];simp
  .show(if l=r then on (i+2)else B l)≠JT
   rw[J6 O,b2];simp
 .obtain⟨N,O⟩:=nb2 b l e
  rw[a_ N,a_ O];exact t.fr.bag b l e
 .obtain⟨N,O⟩:=nb b l e
  simp only[J6 N,J6 O];exact ok.bgt b l e
 .by_cases z:c=a
  .subst z;rw[af];simp
  .rw[a_ z];exact t.cov c hc
 .have f:(if c=r then on (i+2)else B c)=on (k+2):=hc
  by_cases z:c=r
  .cases w:H₀ c with
   |none=>rfl
   |some o=>exact Kx (z▸C) (ok.cov c (by rw[w];simp))
  .rw[J6 z]at f;exact ok.new c k f
 .rw[LV]at e
  by_cases q:i=k
  .subst q
   rw[J8 rfl]at e;split at e
   .cases e
    have rl1:=aG.put2 (P:=λc=>c=r\/B c=on (i+2)) (.inl rfl) R hd j (aG.tr (Tr.refl _ _) rl λc ys _ p y=>⟨.inr p,y⟩);have rl2:aG K (d5 B bg) (upd g a (.lst ((rs.map V.ref).set j (.ref r)))) (λc=>c=r\/B c=on (i+2)) (ba.set j ds) (rs.set j r):=aG.tr (⟨λ_ n _=>n,λc o n h=>by rw[a_ (λz=>n (by subst z;show B c≠JT;rw[hB];simp))];exact h,rfl⟩) rl1 λc ys hc p y=>⟨p,by
     rw[a_ (λz=>by
      subst z;rcases fy hc with w|w
      .exact u w
      .exact(KM.mp nd).1 w)]
     exact y⟩
    have hal:∀c∈rs.set j r,(if c=r then on (i+2)else B c)=on (i+2):=λc hc=>by
     rcases fy hc with w|w
     .rw[J8 w]
     .split
      .rfl
      .exact own c w
    refine⟨_,hs,a,rs.set j r,rfl,by simp only[J6 u];exact hB,by rw[af,N1],KM.mpr ⟨λz=>?_,pw (KM.mp nd).2 Z⟩,aG.noL (F:=d5 B bg) (λc hc=>?_) (λw hw=>?_) rl2 hal⟩
    .rcases fy z with w|w
     .exact u w
     .exact(KM.mp nd).1 w
    .have f:(if c=r then on (i+2)else B c)≠JT:=hc
     by_cases w:c=r
     .subst w;exact .inr (.inl ⟨xs,by rw[a_ u.symm];exact R⟩)
     .rw[J6 w]at f;exact .inl f
    .rcases fy hw with w|w
     .subst w;exact hn
     .exact Y _ w
   .cases e
  .rw[J6 q]at e
   obtain⟨v,h1,T⟩:=ok.tell k s e;refine⟨v,h1,?_⟩;have na:∀c,B c=on (k+2)->c≠a:=λc m z=>by subst z;rw[hB]at m;cases m;exact q rfl
   have nr:∀c,H c≠JT->c≠r:=λc hc z=>hc (z▸C);have U:∀c o,H c=on o->B c=on (k+2)->upd g a (.lst ((rs.map V.ref).set j (.ref r))) c=on o:=λc o h h'=>by
    rw[a_ (na c h')];exact kk c o h (by rw[h'];intro z;cases z)
   cases s with
   |sh d=>exact bt.tr tr _ _ T
   |own cs=>
    obtain⟨c,zs,Q,m,A,e4⟩:=T;exact⟨c,zs,Q,by simp only[J6 (nr c (by rw[A];simp))];exact m,U c _ A m,aj.tr tr _ _ e4⟩
   |grd rows2=>
    obtain⟨c,qs,Q,m,A,e4,e5⟩:=T;exact⟨c,qs,Q,by simp only[J6 (nr c (by rw[A];simp))];exact m,U c _ A m,e4,aG.tr tr e5 λr' zs _ p y=>⟨by simp only[J6 (nr r' (by rw[y];simp))];exact p,U r' _ y p⟩⟩
   |odc b ks vs=>
    obtain⟨c,Q,m,A⟩:=T;exact⟨c,Q,by simp only[J6 (nr c A.ne)];exact m,A.tr tr λo z=>U c o z m⟩
theorem en.AtoB(ok:en K H₀ B bg H δ β σ):∀c,(d5 B bg).A c->(ko B bg).A c\/v_ H c:=λc f=>by
 have e:B c≠JT:=f;cases q:B c with
 |none=>exact Kx q e
 |some k=>
  match k,q with
  |0,q=>exact .inl (.inl q)
  |1,q=>exact .inl (.inr q)
  |k+2,q=>exact .inr (ok.lst c k q)
theorem en.noB{d:D}(ok:en K H₀ B bg H δ β σ)(hn:noL d=JW)(h:bt K (ko B bg) H d v):bt K (d5 B bg) H d v:=tQ ok.AtoB d v hn h
theorem en.noBs(ok:en K H₀ B bg H δ β σ)(hn:noLs ds=JW)(h:aj K (ko B bg) H ds xs):aj K (d5 B bg) H ds xs:=noLs_den ok.AtoB ds xs hn h
def qh(i:Nat)(f:FD):G:=λδ β=>match f (fw δ) β with
 |some (.ok d,β1)=>if noL d=JW then on (.nx (δ.set i (on (.sh d))),β1)else JT
 |some (.error C,β1)=>on (.ex C δ,β1)
 |none=>JT
theorem wT(h:PS X st (dH (tV X.K f E) (c9 i))):PS X st (tG X.K X.H₀ (qh i f) E):=h.imp λD σ H l=>by
 obtain⟨B,bg,δ,β,o,β',ok,e,q⟩:=l;refine⟨ko B bg,fw δ,β,ok.frA,ok.viewA,?_⟩;unfold qh at e;split at e
 .rename_i d β1 j
  split at e
  .rename_i hn
   cases e;refine⟨.ok d,_,j,λv H' t hd=>?_⟩;obtain⟨g,k⟩:=ok.to rfl t;exact q _ B H' k (g.set (g.noB hn hd))
  .cases e
 .rename_i C β1 j
  cases e;refine⟨.error C,_,j,λH' t=>?_⟩;obtain⟨g,k⟩:=ok.to rfl t;exact q _ B H' k g
 .cases e
def jC(i:Nat)(e f g:FD):G:=λδ β=>match g (fw δ) β with
 |some (.ok d,β1)=>match e (fw δ) β1 with
  |some (.ok (.int ka),β2)=>match f (fw δ) β2 with
   |some (.ok (.int kb),β3)=>match δ.getD i JT with
    |some (.grd ba)=>match ix ba.length ka with
     |some ja=>match ba[ja]? with
      |some ds=>match ix ds.length kb with
       |some jb=>if noL d=JW then on (.nx (δ.set i (on (.grd (ba.set ja (ds.set jb d))))),β3)else JT
       |none=>JT
      |none=>JT
     |none=>JT
    |_=>JT
   |_=>JT
  |_=>JT
 |_=>JT
theorem fj(h:PS X st (dH (tV X.K fv E) (rX (KX (oj X.K) (eX i) (tV X.K fa E)) (tV X.K fb E) p8))):PS X st (tG X.K X.H₀ (jC i fa fb fv) E):=h.imp λD σ H h_=>by
 obtain⟨B,bg,δ,β,o,β',ok,e,q⟩:=h_;refine⟨ko B bg,fw δ,β,ok.frA,ok.viewA,?_⟩;unfold jC at e;split at e
 .rename_i d β1 e1
  refine⟨.ok d,_,e1,λv H1 t1 hd=>?_⟩;obtain⟨f,s1⟩:=ok.to rfl t1;split at e
  .rename_i ka β2 e2
   split at e
   .rename_i kb β3 e3
    split at e
    .rename_i ba Q
     split at e
     .rename_i ja ea
      split at e
      .rename_i ds er
       split at e
       .rename_i jb eb
        split at e
        .rename_i R
         cases e;have hd:=f.noB R hd;obtain⟨w,N,a,rs,rfl,hB,ha,nd,rl⟩:=f.tell i _ (aW Q);refine⟨_,N,ko B bg,fw δ,β1,f.frA,f.viewA,.ok (.int ka),β2,e2,λy H2 t2 hy=>?_⟩;cases hy;obtain⟨j,s2⟩:=f.to (F:=ko B bg) rfl t2;obtain⟨w2,h2,a2,g,ew,k,m,nd2,n⟩:=j.tell i _ (aW Q);rw[N]at h2;cases h2;cases ew;obtain⟨r,xs,T,hp,hx,dl⟩:=n.at er;refine⟨a,g.map V.ref,ka,.ref r,rfl,rfl,e_.of m,?_,?_⟩
         .unfold lp
          rw[JS,<-n.len,ea];show(g.map V.ref)[ja]?=_;rw[J9,T];rfl
         .refine⟨ko B bg,fw δ,β2,j.frA,j.viewA,.ok (.int kb),_,e3,λz H3 t3 hz=>?_⟩
          cases hz;obtain⟨p,s3⟩:=j.to (F:=ko B bg) rfl t3;obtain⟨w3,h3,a3,t,U,W,u,Y,A⟩:=p.tell i _ (aW Q);rw[N]at h3;cases h3;cases U;have Z:g=t:=by
           have O:H3 a=on (.lst (g.map V.ref)):=t3.kp a _ m (λb l y=>⟨λw=>(by subst w;rw[(ok.bgt _ _ y).1]at k;cases k),λw=>(by subst w;rw[(ok.bgt _ _ y).2]at k;cases k)⟩);rw[u]at O;have k2:t.map V.ref=g.map V.ref:=by injection O with O;injection O
           exact(Qf (λa b q=>by cases q;rfl)|>.mp k2).symm
          subst Z;obtain⟨r',C,I,hp',J,L⟩:=A.at er;rw[T]at I;cases I;have hv3:bt X.K (d5 B bg) H3 d v:=bt.tr (s3.tr) _ _ (bt.tr (s2.tr) _ _ hd);refine⟨r,C,kb,jb,rfl,rfl,J,by rw[<-L.length];exact eb,?_⟩;obtain⟨ok4,s4⟩:=p.writeRow (ds:=ds.set jb d) (xs:=C.set jb v) N W u Y A T J (aj.set jb L hv3);exact q _ _ _ (s1.trans (s2.trans (s3.trans s4))) ok4
        .cases e
       .cases e
      .cases e
     .cases e
    .cases e
   .cases e
  .cases e
 .cases e
def qj(i:Nat)(e:FD)(f:FL):G:=λδ β=>match f (fw δ) β with
 |some (.ok ds,β1)=>match e (fw δ) β1 with
  |some (.ok (.int ka),β2)=>match δ.getD i JT with
   |some (.grd ba)=>match ix ba.length ka with
    |some ja=>if(noLs ds&&ba.all noLs)=JW then on (.nx (δ.set i (on (.grd (ba.set ja ds)))),β2)else JT
    |none=>JT
   |_=>JT
  |_=>JT
 |_=>JT
theorem GC(h:PS X st (dH (Kp X.K fv E) (rX (eX i) (tV X.K fa E) p8))):PS X st (tG X.K X.H₀ (qj i fa fv) E):=h.imp λD σ H h_=>by
 obtain⟨B,bg,δ,β,o,β',ok,e,q⟩:=h_;refine⟨ko B bg,fw δ,β,ok.frA,ok.viewA,?_⟩;unfold qj at e;split at e
 .rename_i ds β1 e1
  refine⟨.ok ds,_,e1,λv H1 R hv=>?_⟩;obtain⟨r,xs,rfl,T,u,dl⟩:=hv;obtain⟨f,U⟩:=ok.to rfl R;split at e
  .rename_i ka β2 e2
   split at e
   .rename_i ba ec
    split at e
    .rename_i ja ea
     split at e
     .rename_i hn
      cases e;rw[Kz]at hn;obtain⟨w,W,a,rs,rfl,hB,ha,nd,Y⟩:=ok.tell i _ (aW ec);refine⟨_,W,ko B bg,fw δ,β1,f.frA,f.viewA,.ok (.int ka),_,e2,λy A C hy=>?_⟩;cases hy;obtain⟨I,J⟩:=f.to (F:=ko B bg) rfl C;have g:∀c,B c≠on 1->∀b l,bg=on (b,l)->c≠b/\c≠l:=λc t b l e=>⟨λz=>t (z▸(ok.bgt b l e).1),λz=>t (z▸(ok.bgt b l e).2)⟩;have L:∀c o,H c=on o->B c≠on 1->A c=on o:=λc o h n=>C.kp c o (R.kp c o h (g c n)) (g c n);have N:B r=JT:=LK λz=>ok.fr.occ r z T;have O:A r=on (.lst xs):=C.kp r _ u (g r (by rw[N];simp));have Z:∀c,B c=on (i+2)->B c≠on 1:=λc h=>by rw[h];intro z;cases z
      have k:=L a _ ha (Z a hB);have m:aG X.K (d5 B bg) A (λr=>B r=on (i+2)) ba rs:=aG.tr (U.trans J).tr Y λc ys _ p y=>⟨p,L c _ y (Z c p)⟩;refine⟨a,rs.map V.ref,ka,ja,rfl,rfl,k,by rw[JS,<-m.len];exact ea,?_⟩;obtain⟨B',Q,s3⟩:=en.putRow (i:=i) (j:=ja) (r:=r) (ds:=ds) (β1:=β1) (H1:=H1) ok I (U.trans J) L W hB k ha nd m T O hn.1 (aj.tr J.tr _ _ (f.noBs hn.1 (aj.tr Fx.tr_of _ _ dl))) (λc t z=>by
       obtain⟨_,ys,y⟩:=Y.all c t;rw[y]at z;cases z) (λw hw=>MS.mp hn.2 w hw)
      exact q _ _ _ s3 Q
     .cases e
    .cases e
   .cases e
  .cases e
 .cases e
variable{e:Expr}{es:List Expr}
def sG(x y:D):Option (List D):=match x,y with
 | .lst a,.lst b=>if a.length+b.length<=Ki then on (a++b)else JT
 |_,_=>JT
def o2(op:D->D->Option (List D))(f g:FD):FL:=λδ=>M.bind (f δ) λa=>M.bind (g δ) λb=>M.ofO (op a b)
theorem CL(ha:PE X a (tV X.K f E))(I:PE X b (tV X.K g E)):PE X (.BinOp a .Add b pos) (Kp X.K (o2 sG f g) E):=
 (c8 tM ha I).imp λσ H Q i=>j1 i λF δ β fr A r=>⟨F,δ,β,fr,A,(run.bind (R:=bt X.K F) r).mono λv H1 i=>pj i λd β1 t hd m=>⟨F,δ,β1,t.fr,A.tr (t.tr fr),(run.bind (R:=bt X.K F) m).mono λJ L i=>by
  obtain⟨d2,β2,n,o,u⟩:=i;obtain⟨os,h,k⟩:=run.ofO u;have y:=bt.tr (n.tr t.fr) _ _ hd;unfold sG at h;split at h
  .split at h
   .cases h
    obtain⟨p,xs,rfl,m,j⟩:=bt.rdL y;obtain⟨q,ys,rfl,u,l⟩:=bt.rdL o;exact⟨p,q,xs,ys,rfl,rfl,m,u,by rw[<-j.length,<-l.length];assumption,λc C=>k _ _ (n.fr.upd _ C) (eF.new (t.trans n) C (j.append l))⟩
   .cases h
  .cases h⟩⟩
noncomputable def UK(K:Kt)(l:JY):It:=
 ⟨λi H=>∃xs x,e_ K H l xs/\xs[i]?=on x,
  λi H v H'=>∃p x,H p=JT/\v= .ref p/\H'=upd H p (.tup [.int (i:Int),x])/\∀xs,e_ K H l xs->xs[i]?=on x,
  λi H=>∃xs,e_ K H l xs/\xs.length=i⟩
theorem ww{P:KF}{w:K1}{K:Kt}{x1}{pos:OH}(l e it:JY)(t:e≠it):
  oa P w K (.Tuple elts x1 pos) (UK K l) [e,it] e (λi h=>(∃f,IsEnum h e it (i:Int) f)/\h.IsListIter it l i) where
 mem:=by simp
 obj:=λi h st b j=>by
  obtain⟨⟨f,m⟩,p⟩:=st;simp only[Kk,Ly,NS]at j;rcases j with rfl|rfl
  .exact⟨_,m,λv q=>by cases q⟩
  .obtain⟨o,q,_,d⟩:=p
   exact⟨o,q,λv z=>by rw[d]at z;cases z⟩
 keep:=λi h h' st k=>by
  obtain⟨⟨f,m⟩,p⟩:=st;exact⟨⟨f,k e (by simp) _ m⟩,p.at λo q=>k it (by simp) o q⟩
 item:=by
  intro X N O Q R i r s σ H E I y st T;subst N O Q;obtain⟨xs,x,q1,U⟩:=T;obtain⟨⟨f,m⟩,p⟩:=st;obtain⟨g,L,W⟩:=cp.src (b:=JW) I q1;have hd:=I.ok.hd R;have ne:l≠e:=cp.src_ne (b:=JW) I q1 (y e (by simp));have Y:l≠it:=cp.src_ne (b:=JW) I q1 (y it (by simp));have k1:i<g.toArray.size:=by
   rw[Kh,<-L.length];exact(Kc.mp U).1
  refine wpAny_pyNext_enum_itemD (Su (show(X.A.in1).handled=JT from hd) it l Y g.toArray) m ⟨p,W⟩ k1 t (by simp[t,ne.symm]) λu h' Z pu fo f1 fT sz kp=>?_;refine⟨_,rfl,wpAny_letOwnedTupleGo_enum (s:={s with heap:=h',toks:=Z+1}) fo λC F J=>?_⟩
  replace J:KI e h' C:=J
  have zT:s.heap.objs.size≠e:=Mz (Kr m);obtain⟨u',hu,ru⟩:=L.get U;have eu:u=u':=by
   have:g[i]?=on u:=by simpa using pu
   rw[this]at hu;exact KE hu
  subst eu;have kk:∀b o,b∉[e,it]->s.heap.get? b=on o->C.get? b=on o:=λb o j q=>by
   simp only[Kk,Ly,NS,Tw]at j;exact J.extBut b o j.1 (kp b o j.1 j.2 q)
  have I2:cp X r σ (upd H s.heap.objs.size (.tup [.int (i:Int),x])) {s with heap:=C,toks:=Z+1}:=by
   refine cp.turnNew I y kk (J3 _) ⟨by show 2<=Ki;decide,[.int i Z,u],.cons ⟨_,rfl⟩ (.cons ru .nil),_,J.extBut _ _ zT fT,rfl,_,rfl⟩
  refine⟨.ref s.heap.objs.size,_,I2,rfl,⟨s.heap.objs.size,x,I.hok.fresh (J3 _),rfl,rfl,λas h1=>by rw[cp.src_inj (b:=JW) I h1 q1];exact U⟩,⟨⟨_,by simpa using F⟩,?_⟩,λb j=>?_⟩
  .exact f1.1.at λo q=>J.extBut _ _ t.symm q
  .rw[a_]
   .exact(y b j).1
   .intro q
    have ol:∃o,s.heap.get? b=on o:=by
     simp only[Kk,Ly,NS]at j;rcases j with rfl|rfl
     .exact⟨_,m⟩
     .obtain⟨o,z,_⟩:=p;exact⟨o,z⟩
    obtain⟨o,z⟩:=ol;exact Kx (Kr z) (by rw[q];exact Lc _)
 done:=by
  intro X N O Q R i r s σ H E I y st T;subst N O Q;obtain⟨xs,q1,hl⟩:=T;obtain⟨⟨f,m⟩,p⟩:=st;obtain⟨g,L,W⟩:=cp.src (b:=JW) I q1;have hd:=I.ok.hd R;have Y:l≠it:=cp.src_ne (b:=JW) I q1 (y it (by simp));have g1:g.toArray.size=i:=by rw[Kh,<-L.length,hl]
  refine wpAny_pyNext_enum_endD (n:=g.toArray.size) (Su (show(X.A.in1).handled=JT from hd) it l Y g.toArray) m (by rw[g1];exact⟨p,W⟩) λh' kp=>⟨rfl,?_⟩;refine cp.turnL (t':=s.toks) I y λb o j q=>?_;simp only[Kk,Ly,NS,Tw]at j;exact kp b o j.2 q
 self:=λ_ _ _ _ _ st h=>by
  obtain⟨⟨f,m⟩,p⟩:=st;exact wpAny_pyIter_enum m h
def Xm(K:Kt)(f:TA):TI:=λσ H R=>f σ H λvs H1=>∃l xs,vs=[.ref l]/\e_ K H1 l xs/\R (UK K l) H1
theorem EK{a:Expr}{p pos:OH}{x1}(n:Gl X "enumerate")(hm:X.mg "enumerate"=JT)(ha:PA X [a] ta)(hs:Kj [a] X.env=[(JZ,LC a X.env)]:=by rfl):
  PI X (.Tuple elts x1 tpos) (.Call (.Name "enumerate" p) [a] [] pos) (Xm X.K ta):=by
 intro f s σ H R I h;refine Call_ (eE I n hm PyProof.Rows.Boot.«enumerate» (Lw (d_ (ha pos f s σ H _ I h) λus g ⟨vs,H1,j,o,q1⟩=>?_) (by rw[hs];rfl) (by rfl)));obtain⟨l,xs,e,q1,q⟩:=q1;subst e;cases o with
 |cons r t=>
  cases t;cases r;obtain⟨u,C,v⟩:=cp.src (b:=JW) j q1;refine call_enumerate_list v λh' k y sz kp=>?_;refine wpAny_pyIter_enum (s:={g with heap:=h'}) k ?_;have A:cp X f σ H1 {g with heap:=h'}:=j.kept (t':=g.toks) kp;refine⟨_,[g.heap.objs.size+1,g.heap.objs.size],_,UK X.K l,H1,rfl,A,ww l (g.heap.objs.size+1) g.heap.objs.size (Nat.succ_ne_self _),⟨⟨_,k⟩,y⟩,λc m=>?_,q⟩;have i:g.heap.objs.size<=c:=by
   simp only[Kk,Ly,NS]at m;rcases m with rfl|rfl
   .exact MY _ _
   .exact J3 _
  exact j.fpOk i (j.hok.fresh i)
noncomputable def dz:Nat->List D->List D
 |_,[]=>[]
 |n,x::xs=> .tup [.int (n:Int),x]::dz (n+1) xs
theorem iC:∀(n:Nat) (xs:List D),(dz n xs).length=xs.length
 |_,[]=>rfl
 |n,x::xs=>by
  show(dz (n+1) xs).length+1=xs.length+1;rw[iC (n+1) xs]
theorem kr:∀{n:Nat} {xs:List D} {i:Nat} {d:D},(dz n xs)[i]?=on d->∃x,xs[i]?=on x/\d= .tup [.int ((n+i:Nat):Int),x]
 |n,[],i,d,h=>by simp[dz]at h
 |n,x::xs,0,d,h=>by
  simp[dz]at h;exact⟨x,rfl,by rw[<-h];simp⟩
 |n,x::xs,i+1,d,h=>by
  have h':(dz (n+1) xs)[i]?=on d:=by simpa[dz]using h
  obtain⟨a,f,g⟩:=kr h';exact⟨a,by simpa using f,by rw[g,show n+1+i=n+(i+1) by omega]⟩
def CY:List D->Option (List D)
 |[.lst xs]=>on (dz 0 xs)
 |_=>JT
theorem zE{H:Hp}(o:∀g f,Tr F H g f->∃xs,e_ K f l xs/\aj K g f ds xs):s9 K (UK K l) F H (dz 0 ds):=λg f β2 t fr i=>by
 obtain⟨xs,h,d1⟩:=o g f t;refine⟨λd hd=>?_,λj=>?_⟩
 .obtain⟨x,q,rfl⟩:=kr hd
  obtain⟨u,k,du⟩:=d1.get q;refine⟨⟨xs,u,h,k⟩,λz y r=>?_⟩;obtain⟨p,A,m,rfl,rfl,v⟩:=r;have n:=v xs h;rw[k]at n;cases n;rw[MA];exact⟨bH.upd m,bt.newT fr m (aj.cons rfl (aj.cons du aj.nil))⟩
 .rw[iC]at j
  exact⟨xs,h,by rw[<-d1.length,j]⟩
def Jq(g:FL):FL:=dF CY g
theorem rW{a:Expr}{p pos:OH}{x1}(o:Gl X "enumerate")(hm:X.mg "enumerate"=JT)(ha:PA X [a] (hW X.K g E))(hs:Kj [a] X.env=[(JZ,LC a X.env)]:=by rfl):
  PI X (.Tuple elts x1 tpos) (.Call (.Name "enumerate" p) [a] [] pos) (iV X.K (Jq g) E):=
 (EK o hm ha hs).imp λσ H R i=>j1 i λF δ β fr q h=>⟨F,δ,β,fr,q,(run.bind (R:=aj X.K F) h).mono λvs H1 i=>by
  obtain⟨ds,β1,t,hd,r⟩:=i;obtain⟨l,e,k⟩:=run.ofO r;unfold CY at e;split at e
  .rename_i xs
   cases e;obtain⟨v,rfl,n⟩:=aj.one hd;have z:∃a,v= .ref a/\∀j f,Tr F H1 j f->∃ys,e_ X.K f a ys/\aj X.K j f xs ys:=by
    obtain⟨a,ys,rfl,_⟩:=bt.sqL n;refine⟨a,rfl,λj f u=>?_⟩;obtain⟨I,m,y,sq,A⟩:=bt.sqL (bt.tr u _ _ n);cases y;exact⟨m,sq,A⟩
   obtain⟨a,rfl,z⟩:=z;obtain⟨us,C,_⟩:=z F H1 (Tr.refl F H1);exact⟨a,us,rfl,C,k _ H1 (To.refl t.fr) (zE z)⟩
  .cases e⟩
def v6(K:Kt)(g:KJ)(ps:List K2)(h:List D):Prop:=∃ds f,aS K g ps ds/\aq f ds/\∀F H,aj K F H h f
inductive Sr (α:Type) where
 |kw (j:Nat)|df (a:α)
noncomputable def Sr.pick{α:Type}(z:α)(f:List α):Sr α->α
 | .kw j=>f.getD j z
 | .df a=>a
def gK{α:Type}(z:α)(n k:Nat)(src:List (Sr α))(us f:List α):List α:=if us.length=n/\f.length=k then us++src.map (Sr.pick z f)else[]
inductive lq {α γ:Type} (R:α->γ->Prop):List (Sr α)->List (Sr γ)->Prop where
 |nil:lq R [] []
 |kw {j:Nat} {a:List (Sr α)} {c:List (Sr γ)}:lq R a c->lq R (.kw j::a) (.kw j::c)
 |df {x:α} {y:γ} {a:List (Sr α)} {c:List (Sr γ)}:R x y->lq R a c->lq R (.df x::a) (.df y::c)
theorem aq.getD:∀{f:List V} {g:List J0} (j:Nat),aq f g->aI (f.getD j .non) (g.getD j .none)
 |_,_,_,.nil=>rfl
 |_,_,0,.cons r _=>r
 |_,_,j+1,.cons _ t=>aq.getD j t
theorem lq.vals(r:aq zs ws):∀{a:List (Sr V)} {c:List (Sr J0)},lq aI a c->aq (a.map (Sr.pick .non zs)) (c.map (Sr.pick .none ws))
 |_,_,.nil=> .nil
 |_,_,.kw (j:=j) h=> .cons (aq.getD j r) (lq.vals r h)
 |_,_,.df q h=> .cons q (lq.vals r h)
theorem aj.getD{K:Kt}{H:Hp}:∀{ds:List D} {f:List V} (j:Nat),aj K F H ds f->bt K F H (ds.getD j .non) (f.getD j .non)
 |[],f,j,h=>by have q:f=[]:=h;subst q;rfl
 |d::ds,f,0,h=>by
  obtain⟨x,r,e,g,i⟩:=h;subst e;exact g
 |d::ds,f,j+1,h=>by
  obtain⟨x,r,e,g,i⟩:=h;subst e;exact aj.getD j i
theorem lq.den{K:Kt}{H:Hp}(r:aj K F H ds zs):∀{a:List (Sr D)} {c:List (Sr V)},lq (λd v=>∀F H,bt K F H d v) a c->aj K F H (a.map (Sr.pick .non ds)) (c.map (Sr.pick .non zs))
 |_,_,.nil=>aj.nil
 |_,_,.kw (j:=j) h=>aj.cons (aj.getD j r) (lq.den r h)
 |_,_,.df q h=>aj.cons (q F H) (lq.den r h)
theorem lq.len{α f:Type}{R:α->f->Prop}:∀{a:List (Sr α)} {c:List (Sr f)},lq R a c->a.length=c.length
 |_,_,.nil=>rfl
 |_,_,.kw h=>by rw[Kq,Kq,lq.len h]
 |_,_,.df _ h=>by rw[Kq,Kq,lq.len h]
structure y4 (K:Kt) (fd:KJ) (ps ks:List K2) (n:Nat) (src:List (Sr D)):Prop where
 ex:∃(sv:List (Sr J0)) (sx:List (Sr V)),lq aI sx sv/\lq (λd v=>∀F H,bt K F H d v) src sx/\∀(s:J4) (us ws:List J0),K.In s.heap->us.length=n->ws.length=ks.length->Qo s fd ⟨us,ks.zip ws⟩ (ps.zip (us++sv.map (Sr.pick .none ws)))
 len:ps.length=n+src.length
 pos:0<ps.length
theorem y4.kb{K:Kt}{ps ks:List K2}(h:y4 K fd ps ks n src):∃(sv:List (Sr J0)) (f:List (Sr V)),lq (λd v=>∀F H,bt K F H d v) src f/\ry K fd ps ks (gK .none n ks.length sv) (gK .non n ks.length f):=by
 obtain⟨sv,f,l,m,b⟩:=h.ex;refine⟨sv,f,m,λs us k o g=>?_,λ{vs us p k} i j=>?_⟩
 .unfold gK at g⊢
  split at g
  .rename_i q
   rw[J8 q];exact b s us k o q.1 q.2
  .exact Kx g (by have:=h.pos;simp;omega)
 .unfold gK
  by_cases q:vs.length=n/\p.length=ks.length
  .rw[J8 q,J8 (by rw[<-i.length,<-j.length];exact q)]
   exact i.append (lq.vals j l)
  .rw[J6 q,J6 (by rw[<-i.length,<-j.length];exact q)]
   exact .nil
variable{p kpos:OH}{x:K2}{k n:Nat}{f:JY}{fd:KJ}{ps ks:List K2}{kws:List RE}{nm:Option K2}
def HG(m:List D->M D)(g:FL)(h:List D):FD:=λδ=>M.bind (g δ) λas=>m (as++h)
theorem DL{h:List D}(G:f0 X.prog X.w X.K X.mg X.base (iv X.prog X.w) k f fd ps (F0 X.K n m))(y:ee k X.A)(I:Gl X x)(hm:X.mg x=on (.ref f))(J:Oz X.K (.ref f)=JW)(L:v6 X.K fd ps h)(N:dN (iv X.prog X.w) X E)
  (ha:PA X (e::es) (hW X.K g E)) (hn:∀δ β r β',g δ β=on (.ok r,β')->r.length+h.length=n) (i:(x==("__debug__":K2))=JZ:=by decide) (O:Kj (e::es) X.env=(JZ,LC e X.env)::Kj es X.env:=by rfl) (j:(Nw pos (Kj es X.env)).any (·.1)=JZ:=by rfl):
  PE X (.Call (.Name x p) (e::es) [] pos) (tV X.K (HG m g h) E):=by
 obtain⟨ds,T,b,U,rd⟩:=L;refine(kX G y I hm J b U N ha i O j).imp λσ H Q W=>j1 W λF δ β fr Y r=>⟨F,δ,β,fr,Y,?_⟩;obtain⟨q,l,u,v⟩:=run.bind (R:=aj X.K F) r;refine⟨q,l,u,?_⟩;cases q with
 |error C=>exact v
 |ok as=>
  intro vs H1 t hd;obtain⟨d',β1,Z,o,r1⟩:=v vs H1 t hd;have hl:=hn _ _ _ _ u;have hz:=(rd F H1).length;refine⟨by rw[Kg,<-hd.length,<-hz,hl],F,d'++h,β1,Z.fr,aj.append o (rd F H1),run.toE r1⟩
theorem wo:PK X [] (hW X.K aT E):=λpos g s σ H Q I h=>by obtain⟨F,δ,β,fr,i,r⟩:=h;exact GW pos g s σ H Q I (run.ret fr r aj.nil)
theorem sQ{f:FD}(ha:PE X e (tV X.K f E))(m:PK X kws (hW X.K g E)):PK X (⟨nm,e,kpos⟩::kws) (hW X.K (ar f g) E):=λpos h s σ H Q I ⟨F,δ,β,fr,j,r⟩=>
 EI ha m pos h s σ H Q I ⟨F,δ,β,fr,j,(run.bind (R:=bt X.K F) r).mono λv H1 ⟨d,β1,t,hd,o⟩=>
  ⟨F,δ,β1,t.fr,j.tr (t.tr fr),(run.bind (R:=aj X.K F) o).mono λvs y q=>pj q λds β2 l i u=>run.ret l.fr u (aj.cons (bt.tr (l.tr t.fr) _ _ hd) i)⟩⟩
def sk(m:List D->M D)(g h:FL)(src:List (Sr D)):FD:=λδ=>M.bind (g δ) λas=>M.bind (h δ) λks=>m (as++src.map (Sr.pick .non ks))
theorem sR{src:List (Sr D)}(G:f0 X.prog X.w X.K X.mg X.base (iv X.prog X.w) k f fd ps (F0 X.K n m))(hr:ee k X.A)(hg:Gl X x)(hm:X.mg x=on (.ref f))(hk:Oz X.K (.ref f)=JW)(hb:y4 X.K fd ps ks n1 src)(hx:dN (iv X.prog X.w) X E)
  (ha:PA X (e::es) (hW X.K g E)) (i:PK X kws (hW X.K gk E)) (hn:∀δ β r β',g δ β=on (.ok r,β')->r.length=n1) (j:∀δ β r β',gk δ β=on (.ok r,β')->r.length=ks.length) (h3:n1+src.length=n)
  (h:(Ph pos (NM kws X.env)).all (·.1.isSome)=JW:=by rfl) (l:(Ph pos (NM kws X.env)).filterMap (·.1)=ks:=by rfl)
  (o:(x==("__debug__":K2))=JZ:=by decide) (he:Kj (e::es) X.env=(JZ,LC e X.env)::Kj es X.env:=by rfl)
  (q:((Nw pos (Kj (e::es) X.env)).any (·.1)||(Ph pos (NM kws X.env)).any (·.1.isNone))=JZ:=by rfl):
  PE X (.Call (.Name x p) (e::es) kws pos) (tV X.K (sk m g gk src) E):=by
 obtain⟨sv,O,rd,kb⟩:=hb.kb;refine(zc G hr hg hm hk kb hx ha i h l o he q).imp λσ H Q h_=>j1 h_ λF δ β fr T r=>⟨F,δ,β,fr,T,?_⟩;obtain⟨U,u,W,Y⟩:=run.bind (R:=aj X.K F) r;refine⟨U,u,W,?_⟩;cases U with
 |error C=>exact Y
 |ok as=>
  intro vs H1 t hd;obtain⟨d',β1,v,y,r1⟩:=Y vs H1 t hd;refine⟨F,δ,β1,v.fr,T.tr (v.tr fr),?_⟩;obtain⟨Z,β2,e2,h2⟩:=run.bind (R:=aj X.K F) r1;refine⟨Z,β2,e2,?_⟩;cases Z with
  |error C=>exact h2
  |ok bs=>
   intro I H2 t2 hz;obtain⟨d2,J,t3,L,r3⟩:=h2 I H2 t2 hz;have l1:=hn _ _ _ _ W;have l2:=j _ _ _ _ e2;have g1:gK V.non n1 ks.length O vs I=vs++O.map (Sr.pick .non I):=J8 ⟨by rw[<-hd.length,l1],by rw[<-hz.length,l2]⟩;rw[g1];have N:aj X.K F H2 d' vs:=aj.tr (t3.tr v.fr) _ _ y;refine⟨by rw[Kg,JS,<-hd.length,l1,<-rd.len,h3],F,d'++src.map (Sr.pick .non d2),J,t3.fr,aj.append N (lq.den L rd),run.toE r3⟩
def Gw(g:G)(δ:Ds)(β:Bg)(Q:nj->Bg->Prop):Prop:=∃o β',g δ β=on (o,β')/\Q o β'
end
section
variable{g h a b g1 g2:G}{δ δ1:Ds}{β β1 β2 β3:Bg}{Q R:nj->Bg->Prop}{i:Nat}{f fa fb fv:FD}{fl:FL}{fg:Dn->M (List (List D))}{d x y z:D}{ds as:List D}{t:Dn->M Bool}{c:Bool}{C:JY}{K:Kt}
theorem Gw.mono(k:Gw g δ β R)(q:∀o β,R o β->Q o β):Gw g δ β Q:=let ⟨o,β',e,r⟩:=k;⟨o,β',e,q _ _ r⟩
theorem DX:aF g gNil=g:=by
 funext δ β;unfold aF gNil;split
 .rename_i δ1 β1 e;exact e.symm
 .rfl
theorem am(k:Gw (aF g gNil) δ β Q):Gw g δ β Q:=by rw[DX]at k;exact k
theorem aQ(q:Q (.nx δ) β):Gw gNil δ β Q:=⟨_,_,rfl,q⟩
theorem ci(e:g δ β=on (.nx δ1,β1))(k:Gw h δ1 β1 Q):Gw (aF g h) δ β Q:=by
 obtain⟨o,j,l,q⟩:=k;exact⟨o,j,by unfold aF;rw[e];exact l,q⟩
theorem DI(k:Gw (aF a (aF b h)) δ β Q):Gw (aF (aF a b) h) δ β Q:=by
 obtain⟨o,j,l,q⟩:=k;refine⟨o,j,?_,q⟩;rw[<-l];unfold aF;split<;>rename_i e<;>(split at e<;>simp_all)
theorem cj(k:Gw h δ β Q):Gw (aF gNil h) δ β Q:=ci rfl k
theorem mw(k:Gw g (fz i δ) β Q):Gw (Vt i g) δ β Q:=k
theorem aJ(e:f (vw δ) β=on (.ok d,β1))(k:Gw h (δ.set i (on (.sh d))) β1 Q):Gw (aF (oH i f) h) δ β Q:=ci (by unfold oH;rw[e]) k
theorem Ga(e:f (fw δ) β=on (.ok d,β1))(k:Gw h (δ.set i (on (.sh d))) β1 Q)(j:dZ d=JW:=by rfl):Gw (aF (qi i f) h) δ β Q:=ci (by unfold qi;simp only[e,j,K8]) k
theorem wj(e:f (fw δ) β=on (.ok d,β1))(k:Gw h (δ.set i (on (.sh d))) β1 Q)(j:noL d=JW:=by rfl):Gw (aF (qh i f) h) δ β Q:=ci (by unfold qh;simp only[e,j,K8]) k
theorem qA(e:f (fw δ) β=on (.ok d,β1))(k:Gw h δ β1 Q):Gw (aF (qm f) h) δ β Q:=ci (by unfold qm;rw[e]) k
theorem n6(e:t (fw δ) β=on (.ok c,β1))(k:Gw (aF (if c=JW then g1 else g2) h) δ β1 Q):Gw (aF (t_ t g1 g2) h) δ β Q:=by
 obtain⟨o,j,l,q⟩:=k;refine⟨o,j,?_,q⟩;rw[<-l];unfold aF t_;rw[e];cases c<;>rfl
theorem eV(e:t (fw δ) β=on (.ok JZ,β1))(k:Gw (aF g2 h) δ β1 Q):Gw (aF (t_ t g1 g2) h) δ β Q:=n6 e k
theorem bB(e:f (fw δ) β=on (.ok d,β1))(q:Q (.rt d) β1):Gw (aF (iN f) h) δ β Q:=⟨_,_,by unfold aF iN;rw[e],q⟩
theorem DG(e:fg (vw δ) β=on (.ok ba,β1))(q:Q (.rg ba) β1):Gw (aF (kj fg) h) δ β Q:=⟨_,_,by unfold aF kj;rw[e],q⟩
theorem uG{ba:List (List D)}(e:fg (vw δ) β=on (.ok ba,β1))(hn:ba.all noLs=JW)(k:Gw h (δ.set i (on (.grd ba))) β1 Q):Gw (aF (oI i fg) h) δ β Q:=ci (by unfold oI;simp only[e,hn,K8]) k
theorem BQ{ba:List (List D)}(e:fv (fw δ) β=on (.ok d,β1))(j:fa (fw δ) β1=on (.ok (.int ka),β2))(l:fb (fw δ) β2=on (.ok (.int kb),β3))(m:δ.getD i JT=on (.grd ba))
  (n:ix ba.length ka=on ja) (o:ba[ja]?=on ds) (p:ix ds.length kb=on jb) (hn:noL d=JW) (k:Gw h (δ.set i (on (.grd (ba.set ja (ds.set jb d))))) β3 Q):Gw (aF (jC i fa fb fv) h) δ β Q:=
 ci (by unfold jC;simp only[e,j,l,m,n,o,p,hn,K8]) k
theorem IJ{ba:List (List D)}(e:fl (fw δ) β=on (.ok ds,β1))(j:fa (fw δ) β1=on (.ok (.int ka),β2))(l:δ.getD i JT=on (.grd ba))(m:ix ba.length ka=on ja)(hn:noLs ds=JW)(hm:ba.all noLs=JW)
  (k:Gw h (δ.set i (on (.grd (ba.set ja ds)))) β2 Q):Gw (aF (qj i fa fl) h) δ β Q:=ci (by unfold qj;simp only[e,j,l,m,hn,hm,Od,K8]) k
theorem mv(e:fl (vw δ) β=on (.ok ds,β1))(j:ds.length<=Ki)(k:Gw h (δ.set i (on (.own ds))) β1 Q):Gw (aF (vH i fl) h) δ β Q:=ci (by unfold vH;simp only[e,j,K8]) k
theorem my{cs:List D}(j:δ.getD i JT=on (.own cs))(e:fl (vw δ) β=on (.ok [d],β1))(l:cs.length<Ki)(k:Gw h (δ.set i (on (.own (cs++[d])))) β1 Q):Gw (aF (vL i fl) h) δ β Q:=
 ci (by unfold vL;simp only[j,e,l,K8]) k
theorem BS(e:f (vw δ) β=on (.ok d,β1))(j:tg d δ=on δ1)(k:Gw h δ1 β1 Q):Gw (aF (vK f tg) h) δ β Q:=ci (by unfold vK;simp only[e,j,Md]) k
def Tn(I:Ds->Bg->Prop)(h:G)(Q:nj->Bg->Prop):nj->Bg->Prop:=λo β=>match o with
 | .nx δ=>I δ β
 | .ct δ=>I δ β
 | .bk δ=>Gw h δ β Q
 |o=>Q o β
theorem bv(e:it δ β=on (.ok ds,β1))(u:Nat->Ds->Bg->Prop)(N:u 0 δ β1)(step:∀i d δ β,ds[i]?=on d->u i δ β->∃δ1,tg d δ=on δ1/\Gw g δ1 β (Tn (u (i+1)) h Q))(k:∀δ β,u ds.length δ β->Gw h δ β Q):
  Gw (aF (la it tg g) h) δ β Q:=by
 have gen:∀(es:List D) (j:Nat) (δ:Ds) (β:Bg),es=ds.drop j->j+es.length=ds.length->u j δ β->Gw (aF (pa tg g es) h) δ β Q:=by
  intro es
  induction es with
  |nil=>
   intro j δ β _ B F;simp at B;exact ci (g:=pa tg g []) rfl (k δ β (B▸F))
  |cons d es ih=>
   intro j δ β L B F;have O:ds[j]?=on d:=by
    have:=La (λl=>l[0]?) L;simpa[SX]using this.symm
   obtain⟨δ1,v,o,β2,A,q⟩:=step j d δ β O F;have H:es=ds.drop (j+1):=by
    have:=La List.tail L;simpa[List.tail_drop]using this
   have go:∀m,u (j+1) m β2->Gw (aF (pa tg g es) h) m β2 Q:=λm I=>ih (j+1) m β2 H (by simp at B;omega) I;have n:∀{r:G} {m:Ds},Gw (aF r h) m β2 Q->pa tg g (d::es) δ β=r m β2->Gw (aF (pa tg g (d::es)) h) δ β Q:=λ{r m} ⟨T,p,J,U⟩ W=>⟨T,p,by rw[<-J];unfold aF;rw[W],U⟩;cases o with
   |nx m=>exact n (r:=pa tg g es) (go m q) (by rw[pa];simp only[v,A])
   |ct m=>exact n (r:=pa tg g es) (go m q) (by rw[pa];simp only[v,A])
   |bk m=>exact n (r:=gNil) (cj q) (by rw[pa];simp only[v,A];rfl)
   |rt d'=>exact⟨_,β2,by unfold aF;rw[pa];simp only[v,A],q⟩
   |rg d'=>exact⟨_,β2,by unfold aF;rw[pa];simp only[v,A],q⟩
   |ex C m=>exact⟨_,β2,by unfold aF;rw[pa];simp only[v,A],q⟩
 obtain⟨o,p,J,q⟩:=gen ds 0 δ β1 (by simp) (by simp) N;refine⟨o,p,?_,q⟩;rw[<-J];unfold aF la;rw[e]
theorem nQ{S:Except JY D->Bg->Prop}(k:Gw g (r8 n ds) β (λo j=>match o with| .rt d=>S (.ok d) j| .nx _=>S (.ok .non) j| .ex C _=>S (.error C) j|_=>False)):∃r j,f8 n g ds β=on (r,j)/\S r j:=by
 obtain⟨o,j,e,q⟩:=k;cases o with
 |rt d=>exact⟨.ok d,j,by unfold f8;rw[e],q⟩
 |nx δ=>exact⟨.ok .non,j,by unfold f8;rw[e],q⟩
 |ex C δ=>exact⟨.error C,j,by unfold f8;rw[e],q⟩
 |_=>exact q.elim
theorem FW{S:List (List D)->Bg->Prop}(k:Gw g (r8 n ds) β (λo j=>match o with| .rg d=>S d j|_=>False)):∃r j,li n g ds β=on (.ok r,j)/\S r j:=by
 obtain⟨o,j,e,q⟩:=k;cases o with
 |rg d=>exact⟨d,j,by unfold li;rw[e],q⟩
 |_=>exact q.elim
theorem br(k:Gw g (r8 n ds) β (λo j=>j=β/\(match o with| .rt d=>r= .ok d| .nx _=>r= .ok .non| .ex C _=>r= .error C|_=>False))):f8 n g ds β=on (r,β):=by
 obtain⟨l,j,e,q1,q2⟩:=nQ (S:=λl j=>j=β/\r=l) (n:=n) (ds:=ds) (β:=β) (k.mono λo j h=>by
  cases o<;>first|exact h|exact h.2)
 subst q1 q2;exact e
theorem FX(k:Gw g (r8 n ds) β (λo j=>j=β/\(match o with| .rg d=>r=d|_=>False))):li n g ds β=on (.ok r,β):=by
 obtain⟨l,j,e,q1,q2⟩:=FW (S:=λl j=>j=β/\r=l) (n:=n) (ds:=ds) (β:=β) (k.mono λo j h=>by
  cases o<;>first|exact h|exact h.2)
 subst q1 q2;exact e
theorem ax{δ:Dn}(e:fl δ β=on (.ok as,β1))(j:m as β1=on r):lf m fl δ β=on r:=by unfold lf M.bind;rw[e];exact j
theorem DD{δ:Dn}(e:fl δ β=on (.ok as,β1))(j:m as β1=on r):sr m fl δ β=on r:=by unfold sr M.bind;rw[e];exact j
theorem dq{δ:Dn}(e:fa δ β=on (.ok x,β1))(j:fb δ β1=on (.ok y,β2))(k:op x y=on z):f2 op fa fb δ β=on (.ok z,β2):=by unfold f2 M.bind;rw[e];simp only[j,M.ofO,k]
theorem WG{δ:Dn}(e:fa δ β=on (.ok x,β1))(j:op x=on z):f1 op fa δ β=on (.ok z,β1):=by unfold f1 M.bind;rw[e];simp only[M.ofO,j]
theorem ak{δ:Dn}(e:fl δ β=on (.ok as,β1))(j:op as=on z):bf op fl δ β=on (.ok z,β1):=by unfold bf M.bind;rw[e];simp only[M.ofO,j]
theorem BO{δ:Dn}:aT δ β=on (.ok [],β):=rfl
theorem ae{δ:Dn}(e:fa δ β=on (.ok x,β1))(j:fl δ β1=on (.ok as,β2)):ar fa fl δ β=on (.ok (x::as),β2):=by unfold ar M.bind;rw[e];simp only[j,M.ret]
theorem bI{δ:Dn}(e:fl δ β=on (.ok as,β1))(j:op as=on ds):dF op fl δ β=on (.ok ds,β1):=by unfold dF M.bind;rw[e];simp only[j,M.ofO]
theorem cL{δ:Dn}(e:fa δ β=on (.ok x,β1))(j:c5 x=on ds):fA fa δ β=on (.ok ds,β1):=by unfold fA M.bind;rw[e];simp only[j,M.ofO]
theorem k_{δ:Dn}(e:fa δ β=on (.ok (.bl c),β1)):fB fa δ β=on (.ok c,β1):=by unfold fB M.bind;rw[e];rfl
theorem uB{δ:Dn}(e:fa δ β=on (.ok x,β1))(j:yJ x=on c):sf fa δ β=on (.ok c,β1):=by unfold sf M.bind;rw[e];simp only[M.ofO,j]
theorem uD{δ:Dn}(e:t δ β=on (.ok c,β1)):vP t δ β=on (.ok (!c),β1):=by unfold vP M.bind;rw[e];rfl
theorem bU(ok:β.ok)(k:0<lot)(l:lot<1073741824):∃v e,iz [.bag,.int lot] β=on (.ok (.int v),e)/\0<=v/\v<lot/\e.ok:=by
 obtain⟨m,a1,j⟩:=tw ok k;exact⟨_,_,zn ok k l,m,a1,j⟩
theorem g0{n:Nat}{k:Int}(e:0<=k)(j:k<n):ix n k=on k.toNat:=by unfold ix;rw[J8 e,J8 j]
theorem Hu{k:Int}{d:D}(e:0<=k)(h:xs[k.toNat]?=on d):qv (.lst xs) (.int k)=on d:=by
 have j:k.toNat<xs.length:=(Kc.mp h).1;show lp xs k=on d;unfold lp;rw[g0 e (by omega)];exact h
theorem Hr{x y:D}:qv (.tup [x,y]) (.int 0)=on x:=rfl
theorem Hq{x y:D}:qv (.tup [x,y]) (.int 1)=on y:=rfl
end
section
variable{β β1 β2:Bg}{f g h i:FD}{t u:Dn->M Bool}{δ:Dn}{c e:Bool}{x y z w:Int}{d:D}
theorem uC(a:t δ β=on (.ok JZ,β1))(b:u δ β1=on (.ok e,β2)):oK t u δ β=on (.ok e,β2):=by
 unfold oK M.bind;rw[a];simp[b]
theorem wf(a:t δ β=on (.ok JZ,β1)):jD t u δ β=on (.ok JZ,β1):=by
 unfold jD M.bind;rw[a];rfl
theorem we(a:t δ β=on (.ok JW,β1))(b:u δ β1=on (.ok e,β2)):jD t u δ β=on (.ok e,β2):=by
 unfold jD M.bind;rw[a];simp[b]
theorem DC(a:f δ β=on (.ok (.bl JW),β1))(b:g δ β1=on (.ok d,β2)):vQ f g δ β=on (.ok d,β2):=by
 unfold vQ M.bind;rw[a];simp[asB,M.ofO,b]
theorem le_int:PJ (.int x) (.int y)=on (.bl (decide (x<=y))):=rfl
theorem lt_int:Uv (.int x) (.int y)=on (.bl (decide (x<y))):=rfl
theorem gt_int:Vr (.int x) (.int y)=on (.bl (decide (y<x))):=rfl
theorem sO(a:f δ β=on (.ok (.int x),β))(b:g δ β=on (.ok (.int y),β))(j:h δ β=on (.ok (.int z),β)):nB PJ PJ f g h δ β=on (.ok (.bl (decide (x<=y)&&decide (y<=z))),β):=by
 unfold nB M.bind;rw[a];simp only[b,le_int,M.ofO,asB];by_cases q:x<=y
 .simp only[q,decide_true,K8,j,le_int,Oe]
 .simp only[q,decide_false,Kn,Lb,M.ret,OJ]
theorem yE(a:f δ β=on (.ok (.int x),β))(b:g δ β=on (.ok (.int y),β))(j:h δ β=on (.ok (.int z),β))(k:i δ β=on (.ok (.int w),β)):ld PJ PJ PJ f g h i δ β=on (.ok (.bl (decide (x<=y)&&decide (y<=z)&&decide (z<=w))),β):=by
 unfold ld CW M.bind;rw[a];simp only[b,le_int,M.ofO,asB];by_cases q:x<=y
 .simp only[q,decide_true,K8,j,le_int,Oe]
  by_cases q2:y<=z
  .simp only[q2,decide_true,K8,k,le_int,Oe]
  .simp only[q2,decide_false,Kn,Lb,M.ret,OJ]
 .simp only[q,decide_false,Kn,Lb,M.ret,OJ]
theorem fZ{g h:G}{δ:Ds}{β:Bg}(P:Ds->Bg->Prop)(b:Gw g δ β (λo β1=>∃a,o= .nx a/\P a β1))(j:∀a β1,P a β1->Gw h a β1 Q):Gw (aF g h) δ β Q:=by
 obtain⟨o,β1,e,a,rfl,p⟩:=b;exact ci e (j a β1 p)
theorem sP{δ:Dn}{β β1 β2:Bg}{src:List (Sr D)}(a:fl δ β=on (.ok as,β1))(b:fk δ β1=on (.ok ks,β2))(j:m (as++src.map (Sr.pick .non ks)) β2=on r):sk m fl fk src δ β=on r:=by unfold sk;rw[M.bind_ok a,M.bind_ok b];exact j
noncomputable abbrev lG(ba:List (List D)):D:= .lst (ba.map D.lst)
noncomputable def pD(p:Int×Int):D:= .tup [.int p.1,.int p.2]
abbrev gP(b:LP):List (List D):=b.map λr=>r.map pD
abbrev kF(b:LP):D:=lG (gP b)
def ni{α:Type}(r c:Nat)(m:List (List α)):Prop:=m.length=r/\∀a∈m,a.length=c
theorem bo(h:n<=1000):n<=Ki:=Kl h (by decide)
theorem gf:∀r:List Int,noLs (r.map D.int)=JW
 |[]=>rfl
 |x::r=>by
  show(noL (.int x)&&noLs (r.map D.int))=JW;rw[gf r];rfl
theorem jv:∀r:List (Int×Int),noLs (r.map pD)=JW
 |[]=>rfl
 |x::r=>by
  show(noL (pD x)&&noLs (r.map pD))=JW;rw[jv r];rfl
theorem xz(b:LP):(gP b).all noLs=JW:=by
 rw[MS];intro x a;obtain⟨r,_,rfl⟩:=J5.mp a;exact jv r
theorem ni.map{α a:Type}{f:α->a}{r c:Nat}{m:List (List α)}(h:ni r c m):ni r c (m.map λx=>x.map f):=⟨by rw[JS,h.1],λb j=>by
 obtain⟨x,k,rfl⟩:=J5.mp j;rw[JS];exact h.2 x k⟩
theorem ni.set{α:Type}{r c i j:Nat}{m:List (List α)}{a:List α}{v:α}(h:ni r c m)(k:m[i]?=on a):ni r c (m.set i (a.set j v)):=⟨by rw[KO,h.1],λx b=>by
 rcases Mf b with b|rfl
 .exact h.2 x b
 .rw[KO];exact h.2 a (KA k)⟩
theorem ni.at{α:Type}{r c i:Nat}{m:List (List α)}(h:ni r c m)(j:i<r):∃a,m[i]?=on a/\a.length=c:=by
 have b:i<m.length:=by rw[h.1];exact j
 exact⟨m[i],JX b,h.2 _ (K5 b)⟩
theorem JO{α:Type}{l:List α}{i:Nat}(h:i<l.length):∃x,l[i]?=on x:=⟨l[i],JX h⟩
theorem kO:∀{xs:List Int} {j:Nat} {x v:Int},xs[j]?=on x->(xs.set j v).sum=xs.sum-x+v
 |[],j,x,v,h=>by simp at h
 |y::xs,0,x,v,h=>by
  simp at h;subst h;simp only[List.set_cons_zero,KY];omega
 |y::xs,j+1,x,v,h=>by
  have h':xs[j]?=on x:=by simpa using h
  simp only[List.set_cons_succ,KY,kO h'];omega
theorem kQ(ns:List Int):ig [.lst (ns.map D.int)]=on (.int ns.sum):=by
 show((dM (ns.map D.int)).map λl=>D.int l.sum)=_;have:∀ns:List Int,dM (ns.map D.int)=on ns:=λns=>by
  induction ns with
  |nil=>rfl
  |cons n ns ih=>simp[dM,ih]
 rw[this];rfl
theorem O2{n:Int}(a:0<=n)(h:n<=10^9):ji [.int n]=on (bn 0 n.toNat):=by
 have q:(decide (-(2^62)<=n)&&decide (n<2^62))=JW:=by
  simp only[Kz,KV];omega
 show(if(decide (-(2^62)<=n)&&decide (n<2^62))=JW then on (bn 0 n.toNat)else JT)=_;rw[J8 q]
theorem mU{d:D}(h:(bn 0 n)[k]?=on d):k<n/\d= .int (k:Int):=by
 unfold bn at h;have a:k<n:=by
  have:=(Kc.mp h).1;simpa using this
 rw[J9,Li a]at h;exact⟨a,by cases h;simp⟩
theorem qX(n:Nat):(bn 0 n).length=n:=by simp[bn]
theorem bS{α:Type}{f:FD}{δ:Dn}{β:Bg}(xs:List α)(u v:α->D)(b:it δ β=on (.ok (xs.map u),β))
  (j:∀x∈xs,∃a,tg (u x) (lg nv b_ δ)=on a/\f a β=on (.ok (v x),β)) (k:xs.length<=Ki):d6 nv b_ it tg (λ_=>M.ret JW) (nS f) δ β=on (.ok (.lst (xs.map v)),β):=by
 refine oP b ?_ (by rw[JS];exact k);have gen:∀xs:List α,(∀x∈xs,∃a,tg (u x) (lg nv b_ δ)=on a/\f a β=on (.ok (v x),β))->nw tg (λ_=>M.ret JW) (nS f) (xs.map u) (lg nv b_ δ) β=on (.ok (xs.map v),β):=by
  intro xs
  induction xs with
  |nil=>intro _;rfl
  |cons x xs ih=>
   intro h;obtain⟨a,l,m⟩:=h x J2;have n:=ih λy o=>h y (J1 _ o);rw[Kv,nw];simp only[l,M.bind,M.ret,reduceIte,nS,m,n,Kv,Nz,MK]
 exact gen xs j
theorem ku{α:Type}{f:FL}{δ:Dn}{β:Bg}(xs:List α)(u:α->D)(v:α->List D)(b:it δ β=on (.ok (xs.map u),β))
  (j:∀x∈xs,∃a,tg (u x) (lg nv b_ δ)=on a/\f a β=on (.ok (v x),β)) (k:xs.length<=Ki):gl nv b_ it tg (λ_=>M.ret JW) (oU f) δ β=on (.ok (xs.map v),β):=by
 have gen:∀xs:List α,(∀x∈xs,∃a,tg (u x) (lg nv b_ δ)=on a/\f a β=on (.ok (v x),β))->mn tg (λ_=>M.ret JW) (oU f) (xs.map u) (lg nv b_ δ) β=on (.ok (xs.map v),β):=by
  intro xs
  induction xs with
  |nil=>intro _;rfl
  |cons x xs ih=>
   intro h;obtain⟨a,l,m⟩:=h x J2;have n:=ih λy o=>h y (J1 _ o);rw[Kv,mn];simp only[l,M.bind,M.ret,reduceIte,oU,m,n,Kv,Nz,MK]
 unfold gl;simp only[b,gen xs j,JS,k,K8]
theorem yk{α:Type}{f:FD}{δ:Dn}{β:Bg}(xs:List α)(u:α->D)(v:α->D)(b:it δ β=on (.ok (xs.map u),β))
  (j:∀x∈xs,∃a,tg (u x) (lg nv b_ δ)=on a/\f a β=on (.ok (v x),β)) (k:xs.length<=Ki):gj nv b_ it tg (λ_=>M.ret JW) (nS f) δ β=on (.ok (xs.map v),β):=by
 have gen:∀xs:List α,(∀x∈xs,∃a,tg (u x) (lg nv b_ δ)=on a/\f a β=on (.ok (v x),β))->nw tg (λ_=>M.ret JW) (nS f) (xs.map u) (lg nv b_ δ) β=on (.ok (xs.map v),β):=by
  intro xs
  induction xs with
  |nil=>intro _;rfl
  |cons x xs ih=>
   intro h;obtain⟨a,l,m⟩:=h x J2;have n:=ih λy o=>h y (J1 _ o);rw[Kv,nw];simp only[l,M.bind,M.ret,reduceIte,nS,m,n,Kv,Nz,MK]
 unfold gj;simp only[b,gen xs j,JS,k,K8]
theorem w6{ds:List D}{c:Nat}(a:ds.length<=Ki)(b:ds.length*c<=Ki)(j:c<=1000000):qY ds (.int (c:Int))=on (Ks c ds).flatten:=by
 have q:(decide (-(2^63)<=(c:Int))&&decide ((c:Int)<2^63)&&decide (ds.length<=Ki)&&decide (ds.length*(c:Int).toNat<=Ki))=JW:=by
  simp only[Kz,KV];exact⟨⟨⟨by omega,by omega⟩,a⟩,by rw[Lm];exact b⟩
 unfold qY;simp only[q,K8];rw[Lm]
theorem me{α:Type}(x:α):∀c:Nat,(Ks c [x]).flatten=Ks c x
 |0=>rfl
 |c+1=>by rw[Mc,MM,me x c];rfl
theorem Ji{f:FD}{g:FD}{x:D}{c:Nat}{δ:Dn}{β:Bg}(b:f δ β=on (.ok x,β))(j:g δ β=on (.ok (.int (c:Int)),β))(k:c<=1000):rj (ar f aT) g δ β=on (.ok (Ks c x),β):=by
 have a:[x].length<=Ki:=by rw[KQ];decide
 have l:[x].length*c<=Ki:=by rw[KQ,SA];exact bo k
 have r:=w6 (ds:=[x]) (c:=c) a l (by omega);rw[me]at r;have s:TN [x]=on [x]:=by
  unfold TN;rw[J8 a]
 have m:ar f aT δ β=on (.ok [x],β):=ae b rfl;unfold rj;rw[M.bind_ok m,s,M.bind_some,M.bind_ok j,r];rfl
theorem yv(bs:List Bool):dD (bs.map D.bl)=on bs:=by
 induction bs with
 |nil=>rfl
 |cons b bs ih=>simp[dD,ih]
theorem any_map{α:Type}(xs:List α)(p:α->Bool):vZ [.lst (xs.map λx=>D.bl (p x))]=on (.bl (xs.any p)):=by
 show(dD _).map _=_;rw[show(xs.map λx=>D.bl (p x))=(xs.map p).map D.bl by rw[Kb];rfl,yv];simp only[Md,List.any_map];rfl
theorem iw{α:Type}(r:Nat)(x:α):(Ka r).map (λ_=>x)=Ks r x:=by rw[List.map_const',KD]
theorem fW{xs:List D}(h:xs.length=r):jx [.lst xs]=on (.int (r:Int)):=by subst h;rfl
theorem Hj{ba:List (List D)}(h:ba.length=r):jx [lG ba]=on (.int (r:Int)):=fW (by rw[JS,h])
theorem cT{xs:List D}{k:Nat}{d:D}(h:xs[k]?=on d):qv (.lst xs) (.int (k:Int))=on d:=Hu (by omega) (by rw[Lm];exact h)
theorem d7{x y:D}:dW [x,y]=on (.tup [x,y]):=by
 unfold dW;rw[J8 (show[x,y].length<=Ki by rw[Kq,KQ];decide)]
theorem Hh:iu []=on (.lst []):=by
 unfold iu;rw[J8 (show([]:List D).length<=Ki by rw[NR];decide)]
theorem l3{x:D}:iu [x]=on (.lst [x]):=by
 unfold iu;rw[J8 (show[x].length<=Ki by rw[KQ];decide)]
theorem zk{x y:Int}:rE [.int x,.int y]=on (.int (Np x y)):=by
 unfold rE;simp only;congr 2;split<;>omega
theorem Vb{x y:Int}:vg [.int x,.int y]=on (.int (max x y)):=by
 unfold vg;simp only;congr 2;split<;>omega
theorem eq_int{x y:Int}:gz (.int x) (.int y)=on (.bl (decide (x=y))):=by rw[JK]
theorem ne_int{x y:Int}:iK (.int x) (.int y)=on (.bl (!decide (x=y))):=by rw[JJ]
theorem ul{i:Nat}{d:D}(h:(dz 0 xs)[i]?=on d):∃x,xs[i]?=on x/\d= .tup [.int (i:Int),x]:=by
 obtain⟨x,b,a⟩:=kr h;rw[MA]at a;exact⟨x,b,a⟩
theorem bX{α a:Type}{f:α->a}{xs:List α}{i:Nat}{d:a}(h:(xs.map f)[i]?=on d):∃x,xs[i]?=on x/\d=f x:=by
 rw[J9]at h;cases q:xs[i]? with
 |none=>rw[q]at h;cases h
 |some x=>rw[q]at h;exact⟨x,rfl,by cases h;rfl⟩
noncomputable abbrev lc(r c:Nat):LP:=Ks r (Ks c (0,40))
theorem pE(r c:Nat):ni r c (lc r c):=⟨by simp,λa h=>by rw[(NT.mp h).2];simp⟩
structure l_ (p:Int×Int):Prop where
 l:0<=p.1
 m:p.1<=p.2
 h:p.2<=40
structure TZ (r c:Nat) (b:LP):Prop where
 shp:ni r c b
 ok:∀row∈b,∀p∈row,l_ p
theorem TZ.free(r c:Nat):TZ r c (lc r c):=⟨pE r c,λb j p a=>by
 rw[(NT.mp j).2]at a;rw[(NT.mp a).2];exact⟨by decide,by decide,by decide⟩⟩
theorem FV{α:Type}{δ:Dn}{β:Bg}(xs:List α)(u:α->D)(o:α->List D)(j:it δ β=on (.ok (xs.map u),β))
  (k:∀x∈xs,∃a,tg (u x) (lg nv b_ δ)=on a/\b a β=on (.ok (o x),β)) (l:(xs.flatMap o).length<=Ki):d6 nv b_ it tg (λ_=>M.ret JW) b δ β=on (.ok (.lst (xs.flatMap o)),β):=by
 refine oP j ?_ l;have gen:∀xs:List α,(∀x∈xs,∃a,tg (u x) (lg nv b_ δ)=on a/\b a β=on (.ok (o x),β))->nw tg (λ_=>M.ret JW) b (xs.map u) (lg nv b_ δ) β=on (.ok (xs.flatMap o),β):=by
  intro xs
  induction xs with
  |nil=>intro _;rfl
  |cons x xs ih=>
   intro h;obtain⟨a,m,n⟩:=h x J2;have p:=ih λy q=>h y (J1 _ q);rw[Kv,nw];simp only[m,M.bind,M.ret,reduceIte,n,p,Lh]
 exact gen xs k
theorem xx{α:Type}{f:FD}{δ:Dn}{β:Bg}(xs:List α)(u v:α->D)(b:it δ β=on (.ok (xs.map u),β))
  (j:∀x∈xs,∃a,tg (u x) δ=on a/\f a β=on (.ok (v x),β)):TW it tg (λ_=>M.ret JW) (nS f) δ β=on (.ok (xs.map v),β):=by
 have gen:∀xs:List α,(∀x∈xs,∃a,tg (u x) δ=on a/\f a β=on (.ok (v x),β))->nw tg (λ_=>M.ret JW) (nS f) (xs.map u) δ β=on (.ok (xs.map v),β):=by
  intro xs
  induction xs with
  |nil=>intro _;rfl
  |cons x xs ih=>
   intro h;obtain⟨a,k,l⟩:=h x J2;have m:=ih λy n=>h y (J1 _ n);rw[Kv,nw];simp only[k,M.bind,M.ret,reduceIte,nS,l,m,Kv,Nz,MK]
 unfold TW;rw[M.bind_ok b];exact gen xs j
theorem gJ{α a:Type}(u:α->D)(v:a->D):∀(xs:List α) (ys:List a),dE (xs.map u) (ys.map v)=(xs.zip ys).map λp=>D.tup [u p.1,v p.2]
 |[],ys=>by simp[dE]
 |x::xs,[]=>by simp[dE]
 |x::xs,y::ys=>by simp[dE,gJ u v xs ys]
theorem nJ{xs:List D}{k:Nat}:dA xs JT (on (k:Int))=xs.take k:=by
 unfold dA;rw[HT.sIx_none,HT.sIx_nat,List.drop_zero,PD];by_cases h:k<=xs.length
 .rw[show Np k xs.length=k by omega]
 .rw[LO (by omega),LO (by omega)]
theorem fY{xs:List D}{k:Nat}:dA xs (on (k:Int)) JT=xs.drop k:=by
 unfold dA;rw[HT.sIx_none,HT.sIx_nat];by_cases h:k<=xs.length
 .rw[show Np k xs.length=k by omega]
  rw[LO (by rw[NE];omega)]
 .rw[M2 (by omega),M2 (by omega)]
  simp
theorem n5{f g:FD}{δ:Dn}{β:Bg}(a:f δ β=on (.ok (.lst xs),β))(b:g δ β=on (.ok (.int k),β)):T_ f JT (on g) δ β=on (.ok (.lst (dA xs JT (on k))),β):=by
 unfold T_ gE;simp only[M.bind,a,b,M.ret,M.ofO,kG,UX]
theorem gb{f g:FD}{δ:Dn}{β:Bg}(a:f δ β=on (.ok (.lst xs),β))(b:g δ β=on (.ok (.int k),β)):T_ f (on g) JT δ β=on (.ok (.lst (dA xs (on k) JT)),β):=by
 unfold T_ gE;simp only[M.bind,a,b,M.ret,M.ofO,kG,UX]
theorem HN{xs ys:List D}(h:xs.length+ys.length<=1000):sG (.lst xs) (.lst ys)=on (xs++ys):=by
 unfold sG;simp only;rw[J8 (bo h)]
theorem jd{xs ys:List D}(h:xs.length+ys.length<=1000):iO (.lst xs) (.lst ys)=on (.lst (xs++ys)):=by
 unfold iO;simp only;rw[J8 (bo h)]
theorem F9{f g:FD}{δ:Dn}{β β1 β2:Bg}{x y:D}(a:f δ β=on (.ok x,β1))(b:g δ β1=on (.ok y,β2))(j:op x y=on zs):o2 op f g δ β=on (.ok zs,β2):=by
 unfold o2 M.bind;rw[a];simp only[b,M.ofO,j]
def je:List D->List J0->Prop
 |[],[]=>True
 | .int i::ds,.int j _::vs=>i=j/\je ds vs
 | .str x::ds,.str y _::vs=>x=y/\je ds vs
 | .bl x::ds,.bool y::vs=>x=y/\je ds vs
 | .non::ds,.none::vs=>je ds vs
 |_,_=>False
theorem gh{K:Kt}:∀{ds:List D} {vs:List J0},je ds vs->∃xs,aq xs vs/\∀F H,aj K F H ds xs
 |[],[],_=>⟨[],.nil,λ_ _=>aj.nil⟩
 | .int i::ds,.int j t::vs,h=>by
  obtain⟨e,h⟩:=h;subst e;obtain⟨xs,a,b⟩:=gh (K:=K) h;exact⟨.int i::xs,.cons ⟨t,rfl⟩ a,λF H=>aj.cons rfl (b F H)⟩
 | .str i::ds,.str j t::vs,h=>by
  obtain⟨e,h⟩:=h;subst e;obtain⟨xs,a,b⟩:=gh (K:=K) h;exact⟨.str i::xs,.cons ⟨t,rfl⟩ a,λF H=>aj.cons rfl (b F H)⟩
 | .bl i::ds,.bool j::vs,h=>by
  obtain⟨e,h⟩:=h;subst e;obtain⟨xs,a,b⟩:=gh (K:=K) h;exact⟨.bl i::xs,.cons rfl a,λF H=>aj.cons rfl (b F H)⟩
 | .non::ds,.none::vs,h=>by
  obtain⟨xs,a,b⟩:=gh (K:=K) (ds:=ds) (vs:=vs) h;exact⟨.non::xs,.cons rfl a,λF H=>aj.cons rfl (b F H)⟩
def Ud(K:Kt)(d:D)(u:J0):Prop:=∃v,aI v u/\∀F H,bt K F H d v
theorem kK{K:Kt}{i:Int}{t:Tok}:Ud K (.int i) (.int i t):=⟨.int i,⟨t,rfl⟩,λ_ _=>rfl⟩
theorem DJ{K:Kt}{q3:Array J0}(a:K.lookup p=on ⟨q1,q2,.seq q3 q4,q5⟩)(b:q1= .type "tuple")(j:q3.size<=Ki)(k:je ds q3.toList):Ud K (.tup ds) (.ref p):=by
 obtain⟨xs,l,m⟩:=gh (K:=K) k;exact⟨.ref p,rfl,λF H=>⟨p,xs,rfl,.inr ⟨_,q3,q4,a,b,rfl,j,l⟩,m F H⟩⟩
theorem nK{K:Kt}{mg:K2->Option J0}{x:K2}{d:D}{u:J0}(h:mg x=on u)(v:Ud K d u):ll K mg x d:=let ⟨w,h1,h2⟩:=v;⟨u,w,h,h1,h2⟩
theorem HL{K:Kt}{ps:List K2}{us:List J0}(n:Nat)(l:ps.length=n+us.length)(b:∀(s:J4) (vs:List J0),K.In s.heap->vs.length=n->Qo s fd ⟨vs,[]⟩ (ps.zip (vs++us)))(h:∃vs,aq vs us/\∀F H,aj K F H dd vs):v6 K fd ps dd:=
 let ⟨vs,h1,h2⟩:=h
 ⟨us,vs,λs a j k=>b s a j (by rw[Kg]at k;omega),h1,h2⟩
theorem HJ{K:Kt}:∃vs,aq vs []/\∀F H,aj K F H [] vs:=⟨[],.nil,λ_ _=>aj.nil⟩
theorem FS{K:Kt}{d:D}{u:J0}(v:Ud K d u)(h:∃vs,aq vs us/\∀F H,aj K F H ds vs):∃vs,aq vs (u::us)/\∀F H,aj K F H (d::ds) vs:=by
 obtain⟨w,a,b⟩:=v;obtain⟨vs,j,k⟩:=h;exact⟨w::vs,.cons a j,λF H=>aj.cons (b F H) (k F H)⟩
inductive D1 (K:Kt):List (Sr D)->List (Sr J0)->Prop where
 |nil:D1 K [] []
 |kw {j:Nat} {a:List (Sr D)} {c:List (Sr J0)}:D1 K a c->D1 K (.kw j::a) (.kw j::c)
 |df {x:D} {y:J0} {a:List (Sr D)} {c:List (Sr J0)}:Ud K x y->D1 K a c->D1 K (.df x::a) (.df y::c)
theorem D1.mid{K:Kt}:∀{a:List (Sr D)} {c:List (Sr J0)},D1 K a c->∃b:List (Sr V),lq aI b c/\lq (λd v=>∀F H,bt K F H d v) a b
 |_,_,.nil=>⟨[],.nil,.nil⟩
 |_,_,.kw (j:=j) h=>let ⟨b,h1,h2⟩:=D1.mid h;⟨.kw j::b,.kw h1,.kw h2⟩
 |_,_,.df v h=>let ⟨b,h1,h2⟩:=D1.mid h;let ⟨w,g1,g2⟩:=v;⟨.df w::b,.df g1 h1,.df g2 h2⟩
theorem Jy{K:Kt}{ps ks:List K2}{src:List (Sr D)}{sv:List (Sr J0)}(h:D1 K src sv)(j:ps.length=n+src.length)(k:0<ps.length)(b:∀(s:J4) (us a:List J0),K.In s.heap->us.length=n->a.length=ks.length->Qo s fd ⟨us,ks.zip a⟩ (ps.zip (us++sv.map (Sr.pick .none a)))):y4 K fd ps ks n src:=
 ⟨let ⟨sx,h1,h2⟩:=h.mid;⟨sv,sx,h1,h2,b⟩,j,k⟩
variable{X:Cx}{E:St->XK}{K:Kt}{st:LM}
theorem aj.erase:∀{ds:List D} {xs:List V} (i:Nat),aj K F H ds xs->aj K F H (ds.eraseIdx i) (xs.eraseIdx i)
 |[],xs,i,h=>by have q:xs=[]:=h;subst q;simp;rfl
 |c::ds,xs,0,h=>by
  obtain⟨y,r,q,b,a⟩:=h;subst q;exact a
 |c::ds,xs,i+1,h=>by
  obtain⟨y,r,q,b,a⟩:=h;subst q;exact⟨y,r.eraseIdx i,rfl,b,aj.erase i a⟩
end
section
variable{h:G}{δ:Ds}{β β1 β2 β3:Bg}{Q:nj->Bg->Prop}{i:Nat}{fa fb fv:FD}{fl:FL}{d d0 d1:D}{ds:List D}{op:D->D->Option D}
theorem BN{d:D}{δ:Dn}{β:Bg}(e:δ.getD n JT=on d):aB n δ β=on (.ok d,β):=by unfold aB;rw[e];rfl
end
section
variable{β β1 β2:Bg}{f g h:FD}{δ:Dn}{x y z:Int}
end
section
variable{X:Cx}{E:St->XK}{o e:Expr}{es:List Expr}{pos p apos kpos:OH}{x m:K2}{k n:Nat}{f C:JY}{fd:KJ}{ps ks:List K2}{kws:List RE}
structure Yy (F:Fx) (x:JY) (H H':Hp) (β':Bg):Prop where
 kp:∀a o,a≠x->H a=on o->(∀b l,F.bg=on (b,l)->a≠b/\a≠l)->H' a=on o
 fr:Fr F H' β'
variable{ns:List K2}
abbrev IP:=Ds->List D->Bg->Option (Except JY (List D)×Bg)
structure Wz (x:JY) (B:Ow) (H:Hp) (B':Ow) (H':Hp):Prop where
 kp:∀a o,a≠x->H a=on o->(B a=JT\/B a=on 0)->H' a=on o
 tg:∀a,B a=on 0\/B a=on 1->B' a=B a
 nn:∀a o,a≠x->H a=on o->B a=JT->B' a=JT
 al:∀a,H a≠JT->H' a≠JT
end
theorem g_.x{x:JY}{B b:Ow}{H c:Hp}(s:g_ B H b c):Wz x B H b c:=⟨λa o _=>s.kp a o,s.tg,λa o _=>s.nn a o,s.al⟩
section
variable{X:Cx}{E:St->XK}{st:LM}{sts:List LM}{C:JY}{ns0 names:List K2}{ip:IP}
variable{P:KF}{w:K1}{K:Kt}{mg:K2->Option J0}{base:Lj}
variable{h:G}{δ:Ds}{β β1:Bg}{Q:nj->Bg->Prop}{i:Nat}{f:FD}
end
section
variable{C Ce:JY}{m:K2}{ns:List K2}{mf:List D->M D}{mi:List D->M (List D)}{fo:FD}{g gk:FL}{dd fs as ks:List D}{src:List (Sr D)}{δ:Dn}{β β1 β2 β3:Bg}{r:Except JY D×Bg}{d:D}{f:K2}{h:G}{Q:nj->Bg->Prop}{i:Nat}{δs:Ds}
theorem Gc(e:fl (vw δs) β=on (.ok ds,β1))(k:Gw h (δs.set i (on (.own ds))) β1 Q):Gw (aF (ql i fl) h) δs β Q:=ci (by unfold ql;simp only[e]) k
end
end L2.Pu
namespace L2.Pu
open PySem PySem.Spec PyProof PyProof.Rows
section
variable{X:Cx}
variable{prog:KF}{w:K1}{A:Lf}{E:J0->J4->Prop}{s:J4}{l:JY}{xs:Array (Int×Tok)}
variable{K:Kt}
end
end L2.Pu
namespace L2
open PySem PySem.Spec PyProof.Rows
end L2
namespace L2.Pu
open PySem PySem.Spec PyProof.Rows
section
variable{X:Cx}{E:St->XK}{K:Kt}{elt bb iter:Expr}{ifs:List Expr}{rest:List LR}{scope:Scope}{pos:OH}{Nc cy:List K2}{b_:List Nat}{g:TG}{tb:JY->TB}
variable{st:LM}{H₀:Hp}{B:Ow}{bg:Option (JY×JY)}{H H':Hp}{δ:Ds}{β β':Bg}{σ:St}
theorem yc{K:Kt}{H a:Hp}(b:dZ d=JW)(h:bt K F H d v):bt K F2 a d v:=by
 cases d<;>first|exact h|cases b
def nu(i:Nat)(a b:FD):G:=λδ β=>match b (fw δ) β with
 |some (.ok d,β1)=>match a (fw δ) β1 with
  |some (.ok (.int ka),β2)=>match δ.getD i JT with
   |some (.own ds)=>match ix ds.length ka with
    |some ja=>if dZ d=JW then on (.nx (δ.set i (on (.own (ds.set ja d)))),β2)else JT
    |none=>JT
   |_=>JT
  |_=>JT
 |_=>JT
theorem EA(h:PS X st (dH (tV X.K fv E) (rX (eX i) (tV X.K fa E) p8))):PS X st (tG X.K X.H₀ (nu i fa fv) E):=h.imp λD σ H t=>by
 obtain⟨B,bg,δ,β,o,β',ok,e,q⟩:=t;refine⟨ko B bg,fw δ,β,ok.frA,ok.viewA,?_⟩;unfold nu at e;split at e
 .rename_i d β1 u
  refine⟨.ok d,_,u,λv H1 A hd=>?_⟩;obtain⟨b,C⟩:=ok.to rfl A;split at e
  .rename_i ka β2 I
   split at e
   .rename_i ds p
    split at e
    .rename_i ja J
     split at e
     case isFalse=>cases e
     rename_i L;cases e;obtain⟨w,l,a,xs,rfl,hB,ha,U⟩:=b.tell i _ (aW p);refine⟨_,l,ko B bg,fw δ,β1,b.frA,b.viewA,.ok (.int ka),_,I,λy W N O=>?_⟩;cases O;obtain⟨c,Q⟩:=b.to (F:=ko B bg) rfl N;obtain⟨Y,r,a2,f,R,m,j,k⟩:=c.tell i _ (aW p);rw[l]at r;cases r;cases R;refine⟨a,f,ka,ja,rfl,rfl,j,by rw[<-k.length];exact J,?_⟩;obtain⟨n,T⟩:=c.writeOwn (ds:=ds.set ja d) (xs:=f.set ja v) l m j (aj.set ja k (yc L hd));exact q _ _ _ (C.trans (Q.trans T)) n
    .cases e
   .cases e
  .cases e
 .cases e
theorem DH{δ:Ds}{β β1 β2:Bg}{cs:List D}(a:fv (fw δ) β=on (.ok d,β1))(b:fa (fw δ) β1=on (.ok (.int ka),β2))(c:δ.getD i JT=on (.own cs))(e:ix cs.length ka=on ja)(k:Gw h (δ.set i (on (.own (cs.set ja d)))) β2 Q)(f:dZ d=JW:=by rfl):Gw (aF (nu i fa fv) h) δ β Q:=
 ci (by unfold nu;simp only[a,b,c,e,f,K8]) k
theorem Vh{us:List J0}(h:us.length=1):∃a,us=[a]:=List.length_eq_one_iff.mp h
theorem Vg{us:List J0}(h:us.length=2):∃c a1,us=[c,a1]:=by
 obtain⟨a,l,rfl⟩:=NB h;obtain⟨b,rfl⟩:=Vh (us:=l) (by simpa using h);exact⟨_,_,rfl⟩
theorem Vf{us:List J0}(h:us.length=3):∃d a1 a2,us=[d,a1,a2]:=by
 obtain⟨a,l,rfl⟩:=NB h;obtain⟨b,c,rfl⟩:=Vg (us:=l) (by simpa using h);exact⟨_,_,_,rfl⟩
theorem Xg{us:List J0}(h:us.length=4):∃e a1 a2 a3,us=[e,a1,a2,a3]:=by
 obtain⟨a,l,rfl⟩:=NB h;obtain⟨b,c,d,rfl⟩:=Vf (us:=l) (by simpa using h);exact⟨_,_,_,_,rfl⟩
end
section
variable{X:Cx}{E:St->XK}{e e1 e2 e3 e4 e5:Expr}{es:List Expr}{pos p:OH}{f1 f2 f3 f4 f5:FD}{g:FL}{k j n:Nat}{f:JY}{fd:KJ}{ps:List K2}{x:K2}{op:List D->Option D}{r:List V->Hp->VK->Prop}{id T:String}
theorem vv(i:Nat){x:K2}(b:X.N[i]?=on x:=by rfl)(c:Uc X.env.scope x:=by first|exact Mn rfl|exact NG (Mn rfl)|exact NG (NG rfl))(hd:(x==("__debug__":K2))=JZ:=by decide)
  (a:(x==("__classdict__":K2))=JZ:=by decide):PE X (.Name x pos) (tV X.K (aB i) E):=IL i (pv i b c hd a)
theorem dr(a:PE X e1 (tV X.K f1 E))(b:Kj [e1] X.env=(JZ,LC e1 X.env)::Kj [] X.env:=by rfl):PA X [e1] (hW X.K (ar f1 aT) E):=kM a iQ b
theorem eg(a:PE X e1 (tV X.K f1 E))(b:PE X e2 (tV X.K f2 E))(c:Kj [e1,e2] X.env=(JZ,LC e1 X.env)::Kj [e2] X.env:=by rfl)(d:Kj [e2] X.env=(JZ,LC e2 X.env)::Kj [] X.env:=by rfl):PA X [e1,e2] (hW X.K (ar f1 (ar f2 aT)) E):=kM a (dr b d) c
theorem ot(a:PE X e1 (tV X.K f1 E))(b:PE X e2 (tV X.K f2 E))(c:PE X e3 (tV X.K f3 E))(d:Kj [e1,e2,e3] X.env=(JZ,LC e1 X.env)::Kj [e2,e3] X.env:=by rfl)(h:Kj [e2,e3] X.env=(JZ,LC e2 X.env)::Kj [e3] X.env:=by rfl)(i:Kj [e3] X.env=(JZ,LC e3 X.env)::Kj [] X.env:=by rfl):PA X [e1,e2,e3] (hW X.K (ar f1 (ar f2 (ar f3 aT))) E):=kM a (eg b c h i) d
theorem UN(a:PE X e1 (tV X.K f1 E))(b:PE X e2 (tV X.K f2 E))(c:PE X e3 (tV X.K f3 E))(d:PE X e4 (tV X.K f4 E))(h:Kj [e1,e2,e3,e4] X.env=(JZ,LC e1 X.env)::Kj [e2,e3,e4] X.env:=by rfl)(i:Kj [e2,e3,e4] X.env=(JZ,LC e2 X.env)::Kj [e3,e4] X.env:=by rfl)(l:Kj [e3,e4] X.env=(JZ,LC e3 X.env)::Kj [e4] X.env:=by rfl)(m:Kj [e4] X.env=(JZ,LC e4 X.env)::Kj [] X.env:=by rfl):PA X [e1,e2,e3,e4] (hW X.K (ar f1 (ar f2 (ar f3 (ar f4 aT)))) E):=kM a (ot b c d i l m) h
theorem L3(δ:Dn)(β:Bg)(r:List D)(a:Bg)(h:aT δ β=on (.ok r,a)):r.length=0:=BE h
structure FB (P:KF) (w:K1) (K:Kt) (mg:K2->Option J0) (base:Lj) (k:Nat) (x:K2) (f:JY) (fd:KJ) (ps:List K2) (n:Nat) (m:List D->M D):Prop where
 ok:f0 P w K mg base (iv P w) k f fd ps (F0 K n m)
 m:mg x=on (.ref f)
 kp:Oz K (.ref f)=JW
 b:aS K fd ps []
theorem vc(G:FB X.prog X.w X.K X.mg X.base j x f fd ps n m)(h:ee k X.A)(ha:PA X (e::es) (hW X.K g E))(i:j<=k:=by decide)(l:dN (iv X.prog X.w) X E:=by first|exact mZ|exact u6|assumption)(o:Gl X x:=by rfl)
  (hn:∀δ β r d,g δ β=on (.ok r,d)->r.length=n:=by repeat (first|exact L3|apply bx)) (a:(x==("__debug__":K2))=JZ:=by decide) (q:Kj (e::es) X.env=(JZ,LC e X.env)::Kj es X.env:=by rfl) (c:(Nw pos (Kj es X.env)).any (·.1)=JZ:=by rfl):
  PE X (.Call (.Name x p) (e::es) [] pos) (tV X.K (lf m g) E):=wr G.ok (h.mono i) o G.m G.kp G.b l ha hn a q c
theorem dG(hm:X.mg "len"=JT)(ha:PA X (e::es) (hW X.K g E))(b:Gl X "len":=by rfl)(c:Kj (e::es) X.env=(JZ,LC e X.env)::Kj es X.env:=by rfl)(a:(Nw pos (Kj es X.env)).any (·.1)=JZ:=by rfl):PE X (.Call (.Name "len" p) (e::es) [] pos) (tV X.K (bf jx g) E):=bZ kC Jw b hm PySem.boot_len ha (by decide) (by decide) c a
theorem lI(hm:X.mg "sum"=JT)(ha:PA X (e::es) (hW X.K g E))(b:Gl X "sum":=by rfl)(c:X.calm=JW:=by rfl)(d:Kj (e::es) X.env=(JZ,LC e X.env)::Kj es X.env:=by rfl)(a:(Nw pos (Kj es X.env)).any (·.1)=JZ:=by rfl):PE X (.Call (.Name "sum" p) (e::es) [] pos) (tV X.K (bf ig g) E):=bZ (yo c) Hm b hm PyProof.Rows.Boot.«sum» ha (by decide) (by decide) d a
theorem jO(hm:X.mg "isinstance"=JT)(ha:PA X (e::es) (hW X.K g E))(b:Gl X "isinstance":=by rfl)(c:Kj (e::es) X.env=(JZ,LC e X.env)::Kj es X.env:=by rfl)(a:(Nw pos (Kj es X.env)).any (·.1)=JZ:=by rfl):PE X (.Call (.Name "isinstance" p) (e::es) [] pos) (tV X.K (bf g9 g) E):=bZ yq Jx b hm PyProof.Rows.Boot.«isinstance» ha (by decide) (by decide) c a
theorem jm{scope:Scope}(a cy:List K2)(b_:List Nat)(k:scope.kind= .function:=by rfl)(nd:(scope.names.map (·.1)).Nodup:=by decide +kernel)
  (fr:(scope.names.all λy=>y.2 != .free||(X.env.scope.names.lookup y.1==on .cell||X.env.scope.names.lookup y.1==on .free))=JW:=by rfl) (b:a=cy++b_.map (λj=>X.N.getD j NK):=by rfl)
  (c:(b_.all λj=>decide (j<X.N.length)&&scope.names.lookup (X.N.getD j NK)==on .free)=JW:=by rfl):c4 X scope a cy b_:=c4.ofB k nd fr b c
theorem gs{a:List K2}(h:a.Nodup:=by decide +kernel):(ay X a scope cl C fp s H).N.Nodup:=h
theorem dt(i:Nat){x:K2}(a:X.N.Nodup)(b:X.N[i]?=on x:=by rfl)(c:wl X.env.scope x:=by first|exact Mn rfl|exact NG rfl)(d:X.fn x=JW\/X.env.scope.names.lookup x=on .local:=by first|exact .inl rfl|exact .inr rfl|assumption):PG X (.Name x pos) (c9 i):=tJ a b c d
theorem fx(i:Nat){x:K2}{e:Expr}{pos a:OH}(b:X.N.Nodup)(c:PE X e te)(d:X.N[i]?=on x:=by rfl)(h:wl X.env.scope x:=by first|exact Mn rfl|exact NG rfl)(hs:Pd e (on (.Name x a)) pos.line X.env=Mm JZ:=by rfl)(l:X.fn x=JW\/X.env.scope.names.lookup x=on .local:=by first|exact .inl rfl|exact .inr rfl|assumption):PS X (.Assign [.Name x a] e pos) (dH te (c9 i)):=mY b d h c hs l
theorem I1{Q:List J0->Prop}(h:∀a,Q [a])(us:List J0)(b:us.length=1):Q us:=by obtain⟨_,rfl⟩:=Vh b;exact h _
theorem TX{Q:List J0->Prop}(h:∀a b,Q [a,b])(us:List J0)(c:us.length=2):Q us:=by obtain⟨_,_,rfl⟩:=Vg c;exact h _ _
theorem r_{Q:List J0->Prop}(h:∀a b c,Q [a,b,c])(us:List J0)(d:us.length=3):Q us:=by obtain⟨_,_,_,rfl⟩:=Vf d;exact h _ _ _
theorem Xu{Q:List J0->Prop}(h:∀a b c d,Q [a,b,c,d])(us:List J0)(i:us.length=4):Q us:=by obtain⟨_,_,_,_,rfl⟩:=Xg i;exact h _ _ _ _
theorem i_{N Q:List K2}{c:Scope}(a:c.kind= .function:=by rfl)(b:c.isCoroutine=JZ:=by rfl)(g:c.isGenerator=JZ:=by rfl)(d:N.Nodup:=by decide +kernel)(e:N.take Q.length=Q:=by rfl)(f:∀x∈Q,c.names.lookup x=on .local\/c.names.lookup x=on .cell:=by decide +kernel)(h:∀y∈c.names,y.2≠ .free:=by decide +kernel):cx N Q c:=⟨a,b,g,d,e,f,h⟩
end
end L2.Pu
namespace L2
open PySem PySem.Spec PyProof.Rows
section
variable{prog:KF}{w:K1}{A:Lf}{E:J0->J4->Prop}{s:J4}{K:Kt}
variable{X:Cx}
end
namespace Pu
section
variable{X:Cx}{E:St->XK}
end
end Pu
end L2
namespace L2.Pu
open PySem PySem.Spec PyProof.Rows
section
variable{X:Cx}{E:St->XK}{a b:Expr}{pos:OH}{k:Nat}{f C:JY}{fd:KJ}{ps:List K2}{K:Kt}
noncomputable def CM:D->D->Option D
 | .bl a,.bl b=>on (.bl (!decide (a=b)))
 |_,_=>JT
def GO(g:Bool->Bool->Bool):R2:=λx y H Q=>∃p q,x= .bl p/\y= .bl q/\Q (.bl (g p q)) H
theorem zX(p q:Bool):(Pq p==Pq q)=decide (p=q):=by cases p<;>cases q<;>rfl
theorem ER:f_ X (Lp .IsNot) (GO λp q=>!decide (p=q)):=by
 intro c s g H x y v u Q I d e h;obtain⟨p,q,rfl,rfl,h⟩:=h;cases d;cases e;exact wpAny_isNot_plain rfl ⟨_,H,I,by rw[zX];exact rfl,h⟩
theorem Hn:aV K (GO λp q=>!decide (p=q)) CM:=λF H β Q d1 d2 d h i fr c g e k=>by
 unfold CM at e;split at e
 .cases e
  exact⟨_,_,c,g,k _ H (To.refl fr) rfl⟩
 .cases e
structure Yz (K:Kt) (C:JY):Prop where
 cl:UM K C
 ha:R0 K (.ref C) "__class__"=on (on (.builtin "object.__class__"))
 hn:specialIn K (.builtin "object.__class__") "__get__"=on (on (.builtin "getset_descriptor.__get__"))
 htk:S5 K (.builtin "object.__class__")=on JW
 hm:PySem.W.mroIn K C (.type "object")=on JW
theorem Hg:iu [x,y]=on (.lst [x,y]):=by
 unfold iu;rw[J8 (show[x,y].length<=Ki by rw[Kq,KQ];decide)]
variable{p1 p2 pos1 pos2:OH}
noncomputable abbrev nI(l:List Nat):List Int:=l.map λ(i:Nat)=>(i:Int)
noncomputable abbrev nL(l:List Nat):D:= .lst ((nI l).map D.int)
theorem sC{α:Type}{f:FD}(xs:List α)(u v:α->D)(p:α->Bool)(i:it δ β=on (.ok (xs.map u),β))
  (j:∀x∈xs,∃c,tg (u x) (lg nv b_ δ)=on c/\tt c β=on (.ok (p x),β)/\(p x=JW->f c β=on (.ok (v x),β))) (l:xs.length<=Ki):d6 nv b_ it tg tt (nS f) δ β=on (.ok (.lst ((xs.filter p).map v)),β):=by
 refine oP i ?_ (by rw[JS];exact Kl (List.length_filter_le _ _) l);have gen:∀xs:List α,(∀x∈xs,∃c,tg (u x) (lg nv b_ δ)=on c/\tt c β=on (.ok (p x),β)/\(p x=JW->f c β=on (.ok (v x),β)))->nw tg tt (nS f) (xs.map u) (lg nv b_ δ) β=on (.ok ((xs.filter p).map v),β):=by
  intro xs
  induction xs with
  |nil=>intro _;rfl
  |cons x xs ih=>
   intro h;obtain⟨c,e,d,m⟩:=h x J2;have g:=ih λy n=>h y (J1 _ n);rw[Kv,nw,List.filter_cons];cases q:p x with
   |true=>
    rw[q]at d;simp only[e,M.bind,M.ret,d,nS,m q,g,J8,Kv,Nz,MK]
   |false=>
    rw[q]at d;simp only[e,M.bind,M.ret,d,g,Kn,Lb,MK]
 exact gen xs j
end
end L2.Pu
namespace L2.Pu
open PySem PySem.Spec PyProof PyProof.Rows
section
variable{X:Cx}{K:Kt}
variable{E:St->XK}{o e:Expr}{apos cpos:OH}
end
end L2.Pu
namespace L2.Pu
open PySem PySem.Spec PyProof.Rows
section
variable{prog:KF}{w:K1}{A:Lf}{E:J0->J4->Prop}{s:J4}{l:JY}{xs:Array (Int×Tok)}
theorem yP(f:A.handled=JT)(c:s.heap.IsTuple l (R1 xs))
  (h:∀h' d t',(∀b o,s.heap.get? b=on o->h'.get? b=on o)->Q (.int (preSum (numAt xs) xs.size) t') {s with heap:=h',toks:=d}):
  Ke (Ky prog w) A (Qu (.builtin "sum") [.ref l]) Q E s:=by
 have a:l<s.heap.objs.size:=by obtain⟨_,e,_⟩:=c;exact Kr e
 refine call_sum_walkG (QH c ⟨_,_,_,_,_,_,numAt xs,rfl,Walks.tuple (A:=A.in1) f _ l (K7 a) (R1 xs),⟨⟨_,Kf _ rfl,rfl,rfl⟩,c.at λo e=>JV _ e⟩,λb hb=>?_,(λ_ _=>intItems_at),λh' d t' g=>?_⟩)
 .show b<(s.heap.push _).objs.size
  rw[L9];rcases Kk.mp hb with rfl|hb
  .exact Nat.lt_succ_self _
  .rcases Kk.mp hb with rfl|hb
   .exact Nn a
   .cases hb
 .have:=h h' d t' λb o e=>g b o (λhm=>by
   rcases Kk.mp hm with i|hm
   .exact Kx (i▸Kr e) (Lc _)
   .cases hm) (JV _ e)
  simpa[R1]using this
variable{X:Cx}{K:Kt}
abbrev CD(K:Kt):List V->Hp->VK->Prop:=λxs H Q=>∃(p:JY) (ns:List Int),xs=[.ref p]/\(e_ K H p (ns.map V.int)\/hH K H p (ns.map V.int))/\Q (.int ns.sum) H
theorem yn(b:X.calm=JW):cI X (.builtin "sum") (CD X.K):=by
 intro a s g H xs us Q I r h;obtain⟨p,ns,rfl,hq|hq,q⟩:=h
 .exact pK b a s g H _ us Q I r ⟨p,ns,rfl,hq,q⟩
 .obtain⟨u,rfl,i⟩:=ic r
  cases i;obtain⟨its,j,c,n⟩:=I.tuple hq;have d:=nl j;obtain⟨xs,ex⟩:=d.allInts.items;have f:=d.numsOf;have k:its=(R1 xs).toList:=by rw[<-ex]
  rw[k,nums_intItems]at f;rw[ex]at c;refine yP (I.ok.hd b) c λh' o t' m=>?_;have e:preSum (numAt xs) xs.size=ns.sum:=by rw[preSum_eq,LO (by simp),f]
  rw[e];exact⟨.int ns.sum,H,I.kept m,⟨_,rfl⟩,q⟩
def mF:List D->Option D
 |[.lst xs]=>(dM xs).map λns=> .int ns.sum
 |[.tup xs]=>(dM xs).map λns=> .int ns.sum
 |_=>JT
theorem Hl:da K (CD K) mF:=λF H β Q ds d vs fr h e k=>by
 unfold mF at e;split at e
 .rename_i xs
  obtain⟨ns,q,rfl⟩:=Pn.mp e;obtain⟨v,rfl,g⟩:=aj.one h;obtain⟨a,ys,rfl,r,b⟩:=bt.sqL g;rw[i4 q]at b;have c:=aj.ints ns b;subst c;exact⟨a,ns,rfl,.inl r,k _ H (To.refl fr) rfl⟩
 .rename_i xs
  obtain⟨ns,q,rfl⟩:=Pn.mp e;obtain⟨v,rfl,g⟩:=aj.one h;obtain⟨a,ys,rfl,r,b⟩:=bt.sqT g;rw[i4 q]at b;have c:=aj.ints ns b;subst c;exact⟨a,ns,rfl,.inr r,k _ H (To.refl fr) rfl⟩
 .cases e
theorem Gr(ns:List Int):mF [.lst (ns.map D.int)]=on (.int ns.sum):=kQ ns
theorem Gq(ns:List Int):mF [.tup (ns.map D.int)]=on (.int ns.sum):=kQ ns
noncomputable def HD:G:=λ_ _=>JT
theorem dT{X:Cx}{st:LM}{K:Kt}{E:St->XK}:PS X st (tG K H HD E):=λ_ _ _ _ _ _ h=>by
 obtain⟨_,_,_,_,_,_,_,e,_⟩:=h;cases e
end
end L2.Pu
namespace L2.Pu
open PySem
noncomputable def dk:Nat->Nat
 |0=>1
 |n+1=>dk n*(n+1)
noncomputable def pr(l:List Nat):Nat:=l.foldr (·*·) 1
theorem GV:pr []=1:=rfl
theorem xi(l m:List Nat):pr (l++m)=pr l*pr m:=by
 induction l with
 |nil=>simp[pr]
 |cons x l ih=>
  show x*pr (l++m)=x*pr l*pr m;rw[ih,Oo]
theorem DN{α:Type}{l:List α}{i:Nat}{x:α}(h:l[i]?=on x):l.take (i+1)=l.take i++[x]:=by
 rw[List.take_succ,h];rfl
theorem iY{α:Type}{f:α->Nat}{l:List α}{i:Nat}{x:α}(h:l[i]?=on x):pr ((l.take (i+1)).map f)=pr ((l.take i).map f)*f x:=by
 rw[DN h,KC,xi];simp[pr]
theorem i7:∀n,0<dk n
 |0=>by decide
 |n+1=>Nat.mul_pos (i7 n) (by omega)
theorem se:∀{n m:Nat},n<=m->dk n<=dk m:=by
 intro n m h
 induction h with
 |refl=>exact J3 _
 |step h ih=>exact Kl ih (Pp _ (by omega))
theorem JI:dk 40<=2^160:=by decide +kernel
theorem i8(h:n<=40):dk n<=2^160:=Kl (se h) JI
theorem q9(h:∀x∈l,0<x):0<pr l:=by
 induction l with
 |nil=>decide
 |cons x l ih=>exact Nat.mul_pos (h x J2) (ih λy a=>h y (J1 _ a))
theorem Ja{l:List Nat}(h:∀x∈l,x<=2^m):pr l<=2^(m*l.length):=by
 induction l with
 |nil=>exact Nat.one_le_two_pow
 |cons x l ih=>
  show x*pr l<=_;rw[Kq,Nat.mul_succ,Qr,Nat.pow_add];exact Nat.mul_le_mul (h x J2) (ih λy a=>h y (J1 _ a))
theorem fX{l:List Nat}(h:x∈l):x<=l.sum:=by
 induction l with
 |nil=>cases h
 |cons y l ih=>
  rw[KY];rcases Kk.mp h with rfl|h
  .omega
  .have:=ih h;omega
theorem db(h:t<=2^m)(hm:m<=999):t<2^1000:=LF (Kl h (PZ (by decide) hm)) (Nat.pow_lt_pow_right (by decide) (by decide))
theorem ox{t n:Nat}(a:t<2^1000)(b:n<2^1000):rA (.int (t:Int)) (.int (n:Int))=on (.int ((t*n:Nat):Int)):=by
 have c:bO (t:Int)=JW:=Km (by rw[Qg];exact a);have d:bO (n:Int)=JW:=Km (by rw[Qg];exact b);show(if(bO (t:Int)&&bO (n:Int))=JW then _ else _)=_;simp only[c,d,Od,K8];rfl
theorem CU{t g:Nat}(d:0<g)(a:g<2^1000):vN (.int (t:Int)) (.int (g:Int))=on (.int ((t/g:Nat):Int)):=by
 have b:decide ((0:Int)<(g:Int))=JW:=Km (by omega);have c:decide (((g:Int)).natAbs.log2<9000)=JW:=Km (by
  rw[Qg];have:=(Nat.log2_lt (n:=g) (k:=1000) (by omega)).mpr a;omega)
 show(if(decide ((0:Int)<(g:Int))&&decide (((g:Int)).natAbs.log2<9000))=JW then _ else _)=_;simp only[b,c,Od,K8];rfl
theorem m5(l:List Nat):(nI l).sum=((l.sum:Nat):Int):=by
 induction l with
 |nil=>rfl
 |cons x l ih=>
  show(x:Int)+(nI l).sum=_;rw[ih,KY,PL]
theorem kZ{l:List Nat}{i:Nat}{d:D}(h:((nI l).map D.int)[i]?=on d):∃n,l[i]?=on n/\d= .int (n:Int):=by
 obtain⟨x,a,rfl⟩:=bX h;obtain⟨n,hn,rfl⟩:=bX a;exact⟨n,hn,rfl⟩
theorem rq(l:List Nat):((nI l).map D.int).length=l.length:=by rw[JS,JS]
def Sq(l:List Nat)(d:D):Prop:=d=nL l\/d= .tup ((nI l).map D.int)
theorem Sq.seq(h:Sq l d):c5 d=on ((nI l).map D.int):=by rcases h with rfl|rfl<;>rfl
theorem UY(a:0<=i)(b:i<=10^9)(c:0<=j)(d:j<=10^9):lR [.int i,.int j]=on (bn i (j-i).toNat):=by
 have q:(decide (-(2^62)<=i)&&decide (i<2^62)&&decide (-(2^62)<=j)&&decide (j<2^62))=JW:=by
  simp only[Kz,KV];omega
 show(if(decide (-(2^62)<=i)&&decide (i<2^62)&&decide (-(2^62)<=j)&&decide (j<2^62))=JW then on (bn i (j-i).toNat)else JT)=_;rw[J8 q]
theorem WN{n:Nat}(h:n<=1000):lR [.int 2,.int ((n:Int)+1)]=on (bn 2 (n-1)):=by
 rw[UY (by decide) (by decide) (by omega) (by omega),show((n:Int)+1-2).toNat=n-1 by omega]
end L2.Pu
namespace L2.Pu
section
variable{rs cs:Nat->Int}{lo hi:Nat->Nat->Int}{r c:Nat}
end
section
variable{rs cs:List Int}{b:LP}{r c:Nat}
end
end L2.Pu
namespace L2.Pu
open PySem PySem.W
section
variable{tb:String->Option Builtin}{p:KF}{w:K1}{n₀:Nat}{ann:Option J0}{env:Q6}{q:OH}
theorem md(k:Nat){b:List LM}(h:segRun tb p w n₀ ann 1 n s (piecesOf (b.take k) env c pos [R7 q])=on (.next,s',c,p'))
  (a:topRun tb p w n₀ ann N s' (restOf (b.drop k) env c p' [R7 q])=on r):topRun tb p w n₀ ann (n+N) s (restOf b env c pos [R7 q])=on r:=by
 have:=piece_app h a;rwa[MG]at this
theorem zK(e:b=[])(k:topRun tb p w n₀ ann N s ⟨doneF .next,c,pos,[R7 q]⟩=on r):topRun tb p w n₀ ann N s (restOf b env c pos [R7 q])=on r:=by
 subst e;exact piece_nil k
end
end L2.Pu
namespace L2.Hs
open PySem PySem.SetTable
def Rs(xs:Array Nat):Prop:=∀i k x y:Nat,i<k->xs[i]?=on x->xs[k]?=on y->x<y
theorem mo{xs:Array Nat}(r:Rs xs):∀(fuel lo c:Nat),lo<=c->c<=xs.size->c-lo<=fuel->(∀i x,i<lo->xs[i]?=on x->x<j)->(∀i x,c<=i->xs[i]?=on x->j<=x)->
  below.go xs j fuel lo c<=xs.size/\(∀i x,i<below.go xs j fuel lo c->xs[i]?=on x->x<j)/\∀i x,below.go xs j fuel lo c<=i->xs[i]?=on x->j<=x
 |0,lo,c,h1,h2,h3,a,b=>by
  have:lo=c:=by omega
  subst this;exact⟨h2,a,b⟩
 |fuel+1,lo,c,h1,h2,h3,a,b=>by
  unfold below.go;by_cases q:lo<c
  .rw[J8 q]
   simp only;have hm:(lo+c)/2<xs.size:=by omega
   have e:xs[(lo+c)/2]?=on (xs.getD ((lo+c)/2) j):=by simp[MP,hm]
   by_cases z:xs.getD ((lo+c)/2) j<j
   .rw[J8 z]
    refine mo r fuel _ _ (by omega) h2 (by omega) (λi x f d=>?_) b;by_cases w:i=(lo+c)/2
    .subst w
     rw[e]at d;cases d;exact z
    .exact OG (r i ((lo+c)/2) x _ (by omega) d e) z
   .rw[J6 z]
    refine mo r fuel _ _ (by omega) (by omega) (by omega) a (λi x f d=>?_);by_cases w:i=(lo+c)/2
    .subst w
     rw[e]at d;cases d;omega
    .have:=r ((lo+c)/2) i _ x (by omega) e d
     omega
  .rw[J6 q]
   have:lo=c:=by omega
   subst this;exact⟨h2,a,b⟩
theorem hZ{xs:Array Nat}(r:Rs xs):below xs j<=xs.size/\(∀i x,i<below xs j->xs[i]?=on x->x<j)/\∀i x,below xs j<=i->xs[i]?=on x->j<=x:=
 mo r xs.size 0 xs.size (Lq _) (J3 _) (by omega) (λi x h=>Kx h (Ms i)) (λi x h e=>by
  have:=(K4.mp e).1;omega)
theorem zZ(r:Rs xs)(h:xs[i]?=on j):below xs j=i:=by
 obtain⟨c,a,b⟩:=hZ (j:=j) r;rcases No (below xs j) i with q|q|q
 .have d:=(K4.mp h).1
  have e:xs[below xs j]?=on xs[below xs j]:=getElem?_pos xs _ (by omega);have:=b _ _ (J3 _) e;have:=r _ _ _ _ q e h;omega
 .exact q
 .have:=a _ _ q h
  omega
theorem pe{t:Le}(r:Rs t.place)(h:t.place[i]?=on j):t.slot j= .live i:=by
 unfold slot;simp only[zZ r h,h,Tt,K8]
theorem uW{t:Le}(d:t.dummies=#[])(h:∀i:Nat,t.place[i]?≠on j):t.slot j= .empty:=by
 unfold slot;have a:(t.place[below t.place j]?==on j)=JZ:=by
  rw[PP];exact h _
 have b:has t.dummies j=JZ:=by unfold has;rw[d];rfl
 simp only[a,b,Kn,Lb]
noncomputable def eo(t:Le):Nat->Probe->Probe
 |0,p=>p
 |n+1,p=>eo t n (t.advance p)
theorem l8(t:Le):∀(n:Nat) (p:Probe),eo t (n+1) p=t.advance (eo t n p)
 |0,p=>rfl
 |n+1,p=>by
  show eo t (n+1) (t.advance p)=t.advance (eo t n (t.advance p));exact l8 t n (t.advance p)
theorem k8(t:Le):∀(n m:Nat) (p:Probe),eo t (n+m) p=eo t m (eo t n p)
 |0,m,p=>by rw[MA];rfl
 |n+1,m,p=>by
  rw[show n+1+m=(n+m)+1 by omega];exact k8 t n m (t.advance p)
structure Pv (t:Le) (p:Probe):Prop where
 j:p.j+p.more<=t.mask
 more:p.more<=9
 i:p.i<=t.mask
 pt:p.perturb<2^64
 du:p.dummy=JT
theorem pi{mask i:Nat}(h:i<=mask):i<=runEnd mask i/\runEnd mask i<=mask/\runEnd mask i-i<=9:=by
 unfold runEnd;by_cases q:i+9<=mask
 .rw[J8 q];omega
 .rw[J6 q];omega
noncomputable def ro(t:Le)(i pt:Nat):Probe:={j:=i,more:=runEnd t.mask i-i,i,perturb:=pt,dummy:=JT}
theorem nR{t:Le}(h:i<=t.mask)(a:pt<2^64):Pv t (ro t i pt):=by
 obtain⟨c,d,b⟩:=pi h;refine⟨?_,b,h,a,rfl⟩;show i+(runEnd t.mask i-i)<=t.mask;omega
theorem o7(t:Le)(h:Int):t.probeStart h=ro t (bits h % (t.mask+1)) (bits h):=rfl
theorem lj(h:Int):bits h<2^64:=by
 unfold bits;have:=OQ h (show(0:Int)<2^64 by decide);have:=Ou h (show(2^64:Int)≠0 by decide);omega
theorem lN(t:Le)(h:Int):Pv t (t.probeStart h):=by
 rw[o7];exact nR (by have:=Re (bits h) (show t.mask+1>0 by omega);omega) (lj h)
noncomputable abbrev G_(mask i pt:Nat):Nat:=(i*5+1+pt/32) % (mask+1)
theorem yz{t:Le}{p:Probe}(h:0<p.more):t.advance p={p with j:=p.j+1,more:=p.more-1}:=by
 unfold advance;rw[J8 h]
theorem uz{t:Le}{p:Probe}(h:p.more=0)(hd:p.dummy=JT):t.advance p=ro t (G_ t.mask p.i p.perturb) (p.perturb/32):=by
 unfold advance;rw[J6 (by omega)];unfold leap ro;simp only[hd]
theorem vi(mask i pt:Nat):G_ mask i pt<=mask:=by
 have:=Re (i*5+1+pt/32) (show mask+1>0 by omega);unfold G_;omega
theorem yy{t:Le}(v:Pv t p):Pv t (t.advance p):=by
 by_cases q:0<p.more
 .rw[yz q]
  exact⟨by have:=v.j;show p.j+1+(p.more-1)<=t.mask;omega,by have:=v.more;show p.more-1<=9;omega,v.i,v.pt,v.du⟩
 .rw[uz (by omega) v.du]
  exact nR (vi _ _ _) (LF (QV _ _) v.pt)
theorem ki:∀(n:Nat) {p:Probe},Pv t p->Pv t (eo t n p)
 |0,_,v=>v
 |n+1,_,v=>ki n (yy v)
theorem oG:∀(k:Nat) {p:Probe},Pv t p->k<=p.more->eo t k p={p with j:=p.j+k,more:=p.more-k}
 |0,p,v,h=>by cases p;rfl
 |k+1,p,v,h=>by
  rw[l8,oG k v (by omega)];rw[yz (show 0<p.more-k by omega)];simp only[Probe.mk.injEq,and_true,true_and];omega
theorem ma{t:Le}{p:Probe}(v:Pv t p):eo t (p.more+1) p=ro t (G_ t.mask p.i p.perturb) (p.perturb/32):=by
 rw[l8,oG _ v (J3 _)];exact uz (N6 _) v.du
def cg(mask:Nat):Nat->Nat×Nat->Nat×Nat
 |0,x=>x
 |k+1,x=>cg mask k (G_ mask x.1 x.2,x.2/32)
theorem im(mask:Nat):∀(k:Nat) (x:Nat×Nat),cg mask (k+1) x=(G_ mask (cg mask k x).1 (cg mask k x).2,(cg mask k x).2/32)
 |0,x=>rfl
 |k+1,x=>im mask k _
theorem rQ{t:Le}:∀(k:Nat) {p:Probe},Pv t p->∃n,n<=10*(k+1)/\eo t n p=ro t (cg t.mask (k+1) (p.i,p.perturb)).1 (cg t.mask (k+1) (p.i,p.perturb)).2
 |0,p,v=>⟨p.more+1,by have:=v.more;omega,ma v⟩
 |k+1,p,v=>by
  obtain⟨n,hn,e⟩:=rQ k v;have a:=ki n v;rw[e]at a;refine⟨n+((ro t (cg t.mask (k+1) (p.i,p.perturb)).1 (cg t.mask (k+1) (p.i,p.perturb)).2).more+1),by have:=a.more;omega,?_⟩;rw[k8,e,ma a,im t.mask (k+1)];rfl
def Mk(mask:Nat):Prop:=mask=7\/mask=31\/mask=127
noncomputable def F3(mask:Nat):Nat->Nat->Nat
 |0,i=>i
 |k+1,i=>F3 mask k ((i*5+1) % (mask+1))
theorem kY(mask:Nat):∀(a b i:Nat),F3 mask (a+b) i=F3 mask b (F3 mask a i)
 |0,b,i=>by rw[MA];rfl
 |a+1,b,i=>by
  rw[show a+1+b=(a+b)+1 by omega];exact kY mask a b _
def CJ(mask:Nat):Bool:=(F3 mask (mask+1) 0==0)&&(Ka (mask+1)).all λj=>(Ka (mask+1)).any λk=>F3 mask k 0==j
theorem G4{mask:Nat}(h:Mk mask):CJ mask=JW:=by
 rcases h with rfl|rfl|rfl<;>decide +kernel
theorem tK{mask i j:Nat}(h:Mk mask)(l:i<=mask)(m:j<=mask):∃k,k<=mask/\F3 mask k i=j:=by
 have o:=G4 h;unfold CJ at o;rw[Kz,Nj,MS]at o;obtain⟨g,ha⟩:=o;obtain⟨a,e,c⟩:=List.any_eq_true.mp (ha i (Kw.mpr (by omega)));obtain⟨b,f,d⟩:=List.any_eq_true.mp (ha j (Kw.mpr (by omega)));rw[Nj]at c d;have:=Kw.mp e;have:=Kw.mp f;by_cases q:a<=b
 .refine⟨b-a,by omega,?_⟩
  rw[<-c,<-kY,show a+(b-a)=b by omega,d]
 .refine⟨b+(mask+1)-a,by omega,?_⟩
  rw[<-c,<-kY,show a+(b+(mask+1)-a)=(mask+1)+b by omega,kY,g,d]
theorem j3(mask:Nat):∀(k i:Nat),cg mask k (i,0)=(F3 mask k i,0)
 |0,i=>rfl
 |k+1,i=>by
  show cg mask k (G_ mask i 0,0/32)=_;rw[show(0/32:Nat)=0 from rfl,j3 mask k];rfl
theorem lP(mask:Nat):∀(a b:Nat) (x:Nat×Nat),cg mask (a+b) x=cg mask b (cg mask a x)
 |0,b,x=>by rw[MA];rfl
 |a+1,b,x=>by
  rw[show a+1+b=(a+b)+1 by omega];exact lP mask a b _
theorem lO(mask:Nat):∀(k:Nat) (x:Nat×Nat),(cg mask k x).2=x.2/32^k
 |0,x=>by simp[cg]
 |k+1,x=>by
  rw[im,lO mask k x,RM,Nat.pow_succ]
theorem tq(mask:Nat):∀(k:Nat) (x:Nat×Nat),x.1<=mask->(cg mask k x).1<=mask
 |0,x,h=>h
 |k+1,x,h=>by rw[im];exact vi _ _ _
theorem JN{t:Le}(h:Mk t.mask)(v:Pv t p)(a:j<=t.mask):∃n,n<10*turns t.mask/\(eo t n p).j=j:=by
 have z:(cg t.mask 13 (p.i,p.perturb)).2=0:=by
  rw[lO];exact Nat.div_eq_of_lt (Ku v.pt (by decide))
 have l:=tq t.mask 13 (p.i,p.perturb) v.i;obtain⟨k,c,e⟩:=tK h l a;obtain⟨n,hn,b⟩:=rQ (12+k) v;refine⟨n,by unfold turns;omega,?_⟩;rw[b];show(cg t.mask (12+k+1) (p.i,p.perturb)).1=j;rw[show 12+k+1=13+k by omega,lP,show cg t.mask 13 (p.i,p.perturb)=((cg t.mask 13 (p.i,p.perturb)).1,0)from Mu rfl z,j3];exact e
abbrev Lv(t:Le)(j:Nat):Prop:=∃k:Nat,t.place[k]?=on j
structure Tb (t:Le) (hs:List Int):Prop where
 km:Mk t.mask
 sz:t.place.size=hs.length
 rs:Rs t.place
 le:∀i j:Nat,t.place[i]?=on j->j<=t.mask
 du:t.dummies=#[]
 nf:t.place.size*5<t.mask*3
 rch:∀(i:Nat) (h:Int) (j:Nat),hs[i]?=on h->t.place[i]?=on j->∃n,(eo t n (t.probeStart h)).j=j/\∀m<n,Lv t (eo t m (t.probeStart h)).j
theorem Mk.odd(h:Mk m):m % 2=1/\7<=m/\m<=127:=by
 rcases h with rfl|rfl|rfl<;>decide
theorem WT{xs:Array Nat}(r:Rs xs):∀n,n<=xs.size->(∀i:Nat,i<n->xs[i]?=on i)\/∃j,j<n/\∀i:Nat,xs[i]?≠on j
 |0,_=> .inl λi h=>Kx h (Ms i)
 |n+1,h=>by
  rcases WT r n (by omega)with q|⟨j,c,b⟩
  .have e:xs[n]?=on xs[n]:=getElem?_pos xs n (by omega)
   by_cases z:xs[n]=n
   .refine .inl λi d=>?_
    by_cases w:i=n
    .subst w;rw[e,z]
    .exact q i (by omega)
   .have lt:n<=xs[n]:=by
     cases n with
     |zero=>omega
     |succ m=>
      have:=r m (m+1) _ _ (by omega) (q m (by omega)) e;omega
    refine .inr ⟨n,by omega,λi a=>?_⟩;rcases No i n with w|w|w
    .rw[q i w]at a;cases a;omega
    .subst w;rw[e]at a;exact z (KE a)
    .have:=r n i _ _ w e a
     omega
  .exact .inr ⟨j,by omega,b⟩
theorem HA{xs:Array Nat}(r:Rs xs):∃j,j<=xs.size/\∀i:Nat,xs[i]?≠on j:=by
 rcases WT r xs.size (J3 _)with q|⟨j,c,a⟩
 .refine⟨xs.size,J3 _,λi e=>?_⟩
  have b:=(K4.mp e).1;rw[q i b]at e;cases e;omega
 .exact⟨j,by omega,a⟩
theorem CS{t:Le}(r:Rs t.place)(d:t.dummies=#[]):∀(fuel:Nat) (p:Probe) (e:Nat),Pv t p->e<fuel->¬Lv t (eo t e p).j->
  ∃m,m<=e/\(∀a<m,∃i,t.place[i]?=on (eo t a p).j/\hashAt i≠h)/\
   ((¬Lv t (eo t m p).j/\probe.go t hashAt h fuel p=on (.empty (eo t m p).j JT))\/∃i,t.place[i]?=on (eo t m p).j/\hashAt i=h/\probe.go t hashAt h fuel p=on (.candidate (eo t m p).j i (eo t (m+1) p)))
 |0,_,_,_,h,_=>Kx h (Ms _)
 |fuel+1,p,e,v,hf,he=>by
  unfold probe.go;by_cases q:Lv t p.j
  .obtain⟨i,b⟩:=q
   rw[pe r b];simp only;by_cases z:hashAt i=h
   .refine⟨0,Lq _,λa hm=>Kx hm (Ms _),.inr ⟨i,b,z,?_⟩⟩
    rw[J8 (by rw[Nj];exact z)];rfl
   .rw[J6 (by rw[Nj];exact z)]
    cases e with
    |zero=>exact Kx ⟨i,b⟩ he
    |succ e=>
     obtain⟨m,hm,ha,c⟩:=CS r d fuel (t.advance p) e (yy v) (by omega) he;refine⟨m+1,by omega,λa f=>?_,c⟩;cases a with
     |zero=>exact⟨i,b,z⟩
     |succ a=>exact ha a (by omega)
  .rw[uW d (λi b=>q ⟨i,b⟩)]
   refine⟨0,Lq _,λa hm=>Kx hm (Ms _),.inl ⟨q,?_⟩⟩;simp only[v.du];rfl
theorem Tb.free{t:Le}(T:Tb t hs)(v:Pv t p):∃e,e<10*turns t.mask/\¬Lv t (eo t e p).j:=by
 obtain⟨j,f,a⟩:=HA T.rs;have:=T.nf;have:=T.km.odd;obtain⟨e,b,c⟩:=JN T.km v (show j<=t.mask by omega);exact⟨e,b,λ⟨k,d⟩=>a k (by rw[<-c];exact d)⟩
theorem x8{α:Type}{xs:Array α}{p:Nat}{x:α}(b:p<=xs.size)(i:Nat):(insertAt xs p x)[i]?=if i<p then xs[i]? else if i=p then on x else xs[i-1]?:=by
 unfold insertAt;rw[Array.getElem?_append];have a:((xs.extract 0 p).push x).size=p+1:=by simp;omega
 rw[a];by_cases q:i<p
 .rw[J8 (by omega),J8 q,Sa,Sm]
  rw[J6 (by omega),Rt];simp;omega
 .by_cases z:i=p
  .subst z
   rw[J8 (by omega),J6 (by omega),J8 rfl,Sa,Sm];rw[J8 (by omega)]
  .rw[J6 (by omega),J6 q,J6 z,Rt]
   by_cases w:i-1<xs.size
   .rw[J8 (by omega)]
    congr 1;omega
   .rw[J6 (by omega),Mv (by omega)]
theorem fI{α:Type}{xs:Array α}{p:Nat}{x:α}(a:p<=xs.size):(insertAt xs p x).size=xs.size+1:=by
 unfold insertAt;simp;omega
theorem Tb.put{t:Le}{hs:List Int}(T:Tb t hs)(C:¬Lv t j)(hn:(eo t n (t.probeStart h)).j=j)(ha:∀m<n,Lv t (eo t m (t.probeStart h)).j)(nf:(t.place.size+1)*5<t.mask*3):
  (t.put j).1.dummies=#[]/\(t.put j).1.mask=t.mask/\(t.put j).1.place.size=t.place.size+1/\(t.put j).2<=t.place.size/\Tb (t.put j).1 (hs.take (t.put j).2++h::hs.drop (t.put j).2):=by
 obtain⟨b1,b2,b3⟩:=hZ (j:=j) T.rs;have hd:has t.dummies j=JZ:=by unfold has;rw[T.du];rfl
 have A:(t.put j).1.dummies=#[]:=by
  show(if has t.dummies j=JW then _ else t.dummies)=#[];rw[hd,J6 J7,T.du]
 have ep:(t.put j).1.place=insertAt t.place (below t.place j) j:=rfl;have g:=λi=>x8 (x:=j) b1 i;have B:∀x,Lv t x->Lv (t.put j).1 x:=λx ⟨k,l⟩=>by
  by_cases q:k<below t.place j
  .exact⟨k,by rw[ep,g,J8 q];exact l⟩
  .exact⟨k+1,by rw[ep,g,J6 (by omega),J6 (by omega)];exact l⟩
 have it:∀m p,eo (t.put j).1 m p=eo t m p:=λm=>by
  induction m with
  |zero=>intro p;rfl
  |succ m ih=>intro p;exact ih (t.advance p)
 refine⟨A,rfl,by rw[ep,fI b1],b1,⟨T.km,?_,?_,?_,A,?_,?_⟩⟩
 .rw[ep,fI b1,T.sz]
  have:(t.put j).2<=hs.length:=by rw[<-T.sz];exact b1
  simp;omega
 .intro i k x y r c e
  rw[ep,g]at c e;have F:∀k,t.place[k]?≠on j:=λk l=>C ⟨k,l⟩;by_cases q1:i<below t.place j
  .rw[J8 q1]at c
   by_cases q2:k<below t.place j
   .rw[J8 q2]at e
    exact T.rs i k x y r c e
   .rw[J6 q2]at e
    by_cases q3:k=below t.place j
    .rw[J8 q3]at e;cases e
     exact b2 i x q1 c
    .rw[J6 q3]at e
     exact T.rs i (k-1) x y (by omega) c e
  .rw[J6 q1]at c
   rw[J6 (by omega),J6 (by omega)]at e;by_cases q3:i=below t.place j
   .rw[J8 q3]at c;cases c
    have L:=b3 (k-1) y (by omega) e;have:y≠j:=λz=>F (k-1) (by rw[e,z]);omega
   .rw[J6 q3]at c
    exact T.rs (i-1) (k-1) x y (by omega) c e
 .intro i x c
  rw[ep,g]at c;by_cases q1:i<below t.place j
  .rw[J8 q1]at c;exact T.le i x c
  .rw[J6 q1]at c
   by_cases q3:i=below t.place j
   .rw[J8 q3]at c;cases c
    have v:=ki n (lN t h);have:=v.j;show j<=t.mask;omega
   .rw[J6 q3]at c;exact T.le _ x c
 .rw[ep,fI b1];exact nf
 .intro i h' x H c
  have N:(t.put j).2<=hs.length:=by rw[<-T.sz];exact b1
  have u:(t.put j).2=below t.place j:=rfl;rw[ep,g]at c;have d:(if i<below t.place j then hs[i]? else if i=below t.place j then on h else hs[i-1]?)=on h':=by
   rw[<-H,u];by_cases q1:i<below t.place j
   .rw[J8 q1,NJ (by rw[Lk];omega),Rm q1]
   .rw[J6 q1,Ma (by rw[Lk];omega),Lk,Nat.min_eq_left (by omega)]
    by_cases q3:i=below t.place j
    .rw[J8 q3,q3,N6];rfl
    .rw[J6 q3,show i-below t.place j=(i-1-below t.place j)+1 by omega,Rx,SX]
     congr 1;omega
  have f:∀o,hs[o]?=on h'->t.place[o]?=on x->∃n,(eo (t.put j).1 n ((t.put j).1.probeStart h')).j=x/\∀m<n,Lv (t.put j).1 (eo (t.put j).1 m ((t.put j).1.probeStart h')).j:=λo a b=>by
   obtain⟨I,J,u⟩:=T.rch o h' x a b;refine⟨I,by rw[it];exact J,λm hm=>?_⟩;rw[it];exact B _ (u m hm)
  by_cases q1:i<below t.place j
  .rw[J8 q1]at c d
   exact f i d c
  .rw[J6 q1]at c d
   by_cases q3:i=below t.place j
   .rw[J8 q3]at c d
    cases c;cases d;refine⟨n,by rw[it];exact hn,λm hm=>?_⟩;rw[it];exact B _ (ha m hm)
   .rw[J6 q3]at c d
    exact f (i-1) d c
theorem rR{t u:Le}(h:t.mask=u.mask):∀(n:Nat) (p:Probe),eo t n p=eo u n p
 |0,p=>rfl
 |n+1,p=>by
  show eo t n (t.advance p)=eo u n (u.advance p);have:t.advance p=u.advance p:=by unfold advance;rw[h]
  rw[this];exact rR h n _
theorem uT{t u:Le}(h:t.mask=u.mask)(x:Int):t.probeStart x=u.probeStart x:=by unfold probeStart;rw[h]
noncomputable abbrev tm(mask:Nat):Le:={mask,place:=#[],dummies:=#[],finger:=0,led:=JW,moves:=0,plain:=JW}
noncomputable abbrev fr(owner:Array (Option Nat))(j:Nat):Bool:=(owner.getD j (on 0)).isNone
theorem ug{mask:Nat}{owner:Array (Option Nat)}:∀(fuel i pt:Nat),i<=mask->pt<2^64->(∃b,b<fuel/\fr owner (cg mask b (i,pt)).1=JW)->
  ∃n,layClean.free mask owner fuel i pt=on (eo (tm mask) n (ro (tm mask) i pt)).j/\fr owner (eo (tm mask) n (ro (tm mask) i pt)).j=JW/\∀m<n,fr owner (eo (tm mask) m (ro (tm mask) i pt)).j=JZ
 |0,_,_,_,_,⟨b,h,_⟩=>Kx h (Ms b)
 |fuel+1,i,pt,hi,hp,⟨b,hb,hf⟩=>by
  have v:=nR (t:=tm mask) hi hp;obtain⟨B,C,F⟩:=pi hi;have f:(ro (tm mask) i pt).more=runEnd mask i-i:=rfl;have d:∀k,k<=runEnd mask i-i->(eo (tm mask) k (ro (tm mask) i pt)).j=i+k:=λk c=>by
   rw[oG k v c];rfl
  unfold layClean.free;split
  .rename_i k c
   obtain⟨g,l,o⟩:=List.find?_range_eq_some.mp c;have:=Kw.mp l;refine⟨k,by rw[d k (by omega)],by rw[d k (by omega)];exact g,λm hm=>?_⟩;rw[d m (by omega)];have:=o m hm;simpa using this
  .rename_i c
   have hn:∀k,k<=runEnd mask i-i->fr owner (i+k)=JZ:=λk p=>by
    have:=List.find?_range_eq_none.mp c k (by omega);simpa using this
   cases b with
   |zero=>
    have r:=hn 0 (by omega);exact Kx hf (by rw[show(cg mask 0 (i,pt)).1=i+0 from rfl,r];exact J7)
   |succ b=>
    obtain⟨n,u,y,A⟩:=ug fuel (G_ mask i pt) (pt/32) (vi _ _ _) (LF (QV _ _) hp) ⟨b,by omega,hf⟩;have a:∀m,eo (tm mask) (runEnd mask i-i+1+m) (ro (tm mask) i pt)=eo (tm mask) m (ro (tm mask) (G_ mask i pt) (pt/32)):=λm=>by
     rw[k8,<-f,ma v];rfl
    refine⟨runEnd mask i-i+1+n,by rw[a];exact u,by rw[a];exact y,λm hm=>?_⟩;by_cases q:m<=runEnd mask i-i
    .rw[d m q];exact hn m q
    .obtain⟨e,rfl⟩:∃e,m=runEnd mask i-i+1+e:=⟨m-(runEnd mask i-i+1),by omega⟩
     rw[a];exact A e (by omega)
structure Ow (mask:Nat) (owner:Array (Option Nat)) (hs:List Int):Prop where
 sz:owner.size=mask+1
 lt:∀j k:Nat,owner[j]?=on (on k)->k<hs.length
 un:∀j j' k:Nat,owner[j]?=on (on k)->owner[j']?=on (on k)->j=j'
 cn:owner.toList.countP (·.isSome)=hs.length
 ex:∀(k:Nat) (h:Int),hs[k]?=on h->∃j n:Nat,owner[j]?=on (on k)/\(eo (tm mask) n ((tm mask).probeStart h)).j=j/\∀m<n,∃k':Nat,owner[(eo (tm mask) m ((tm mask).probeStart h)).j]?=on (on k')
theorem vM{mask:Nat}{owner:Array (Option Nat)}(hs:owner.size=mask+1){j:Nat}(b:j<=mask):(fr owner j=JW↔owner[j]?=on JT)/\(fr owner j=JZ↔∃k:Nat,owner[j]?=on (on k)):=by
 have e:owner[j]?=on owner[j]:=getElem?_pos owner j (by omega);have a:owner.getD j (on 0)=owner[j]:=by simp[MP,show j<owner.size by omega]
 unfold fr;rw[a,e];cases owner[j]<;>simp
theorem Ow.step{mask:Nat}{owner:Array (Option Nat)}{hs:List Int}(O:Ow mask owner hs)(h:Int)(hm:Mk mask)(W:hs.length<=mask):
  ∃j,layClean.free mask owner (turns mask) (bits h % (mask+1)) (bits h)=on j/\Ow mask (owner.setIfInBounds j (on hs.length)) (hs++[h]):=by
 have u:bits h % (mask+1)<=mask:=by have:=Re (bits h) (show mask+1>0 by omega);omega
 have⟨v,h1,h2⟩:∃v,v<=mask/\fr owner v=JW:=by
  refine LK λz=>?_;have all:∀a∈owner.toList,Option.isSome a=JW:=λa ha=>by
   obtain⟨i,g,e⟩:=P8 ha;have L:i<owner.size:=by simpa using g
   have N:fr owner i=JZ:=by
    cases q:fr owner i with
    |false=>rfl
    |true=>exact Kx ⟨i,by have:=O.sz;omega,q⟩ z
   obtain⟨k,A⟩:=(vM O.sz (show i<=mask by have:=O.sz;omega)).2.mp N;have:owner[i]?=on a:=by rw[<-MC,JX g,e]
   rw[this]at A;cases A;rfl
  have:=List.countP_eq_length.mpr all;rw[O.cn]at this;have:=O.sz;simp at*;omega
 have z:(cg mask 13 (bits h % (mask+1),bits h)).2=0:=by
  rw[lO];exact Nat.div_eq_of_lt (Ku (lj h) (by decide))
 have l:=tq mask 13 (bits h % (mask+1),bits h) u;obtain⟨k,A,e⟩:=tK hm l h1;have Q:fr owner (cg mask (13+k) (bits h % (mask+1),bits h)).1=JW:=by
  rw[lP,show cg mask 13 (bits h % (mask+1),bits h)=((cg mask 13 (bits h % (mask+1),bits h)).1,0)from Mu rfl z,j3];show fr owner (F3 mask k _)=JW;rw[e];exact h2
 obtain⟨n,F,H,R⟩:=ug (owner:=owner) (turns mask) (bits h % (mask+1)) (bits h) u (lj h) ⟨13+k,by unfold turns;omega,Q⟩;have I:∀m,(eo (tm mask) m (ro (tm mask) (bits h % (mask+1)) (bits h))).j<=mask:=λm=>by
  have:=(ki m (nR (t:=tm mask) u (lj h))).j;show _<=(tm mask).mask;omega
 generalize J:(eo (tm mask) n (ro (tm mask) (bits h % (mask+1)) (bits h))).j=j at F H;have T:j<=mask:=by rw[<-J];exact I n
 have o:owner[j]?=on JT:=(vM O.sz T).1.mp H;have p:j<owner.size:=by have:=O.sz;omega
 have set:∀x:Nat,(owner.setIfInBounds j (on hs.length))[x]?=if j=x then on (on hs.length)else owner[x]?:=λx=>by
  rw[Array.getElem?_setIfInBounds];by_cases q:j=x
  .rw[J8 q,J8 q,J8 p]
  .rw[J6 q,J6 q]
 refine⟨j,F,⟨by rw[Array.size_setIfInBounds];exact O.sz,λx k c=>?_,λx y k c f=>?_,?_,λk h' d=>?_⟩⟩
 .rw[set]at c
  rw[Kg];by_cases q:j=x
  .rw[J8 q]at c;cases c;simp
  .rw[J6 q]at c
   have:=O.lt x k c;omega
 .rw[set]at c f
  by_cases q:j=x
  .rw[J8 q]at c;cases c
   by_cases r:j=y
   .omega
   .rw[J6 r]at f
    exact Kx (O.lt y _ f) (Lc _)
  .rw[J6 q]at c
   by_cases r:j=y
   .rw[J8 r]at f;cases f
    exact Kx (O.lt x _ c) (Lc _)
   .rw[J6 r]at f
    exact O.un x y k c f
 .rw[Array.toList_setIfInBounds,List.countP_set (by simpa using p),O.cn]
  have:owner.toList[j]'(by simpa using p)=JT:=by
   have e:=getElem?_pos owner j p;rw[o]at e;rw[MJ];exact(KE e).symm
  rw[this];simp
 .by_cases q:k<hs.length
  .rw[NJ q]at d
   obtain⟨x,U,a1,a2,a3⟩:=O.ex k h' d;refine⟨x,U,?_,a2,λm hm=>?_⟩
   .rw[set,J6 (λw=>by subst w;rw[o]at a1;cases a1)];exact a1
   .obtain⟨B,b⟩:=a3 m hm
    exact⟨B,by rw[set,J6 (λw=>by rw[<-w,o]at b;cases b)];exact b⟩
  .have C:=(Kc.mp d).1
   rw[Kg,KQ]at C;have:k=hs.length:=by omega
   subst this;rw[Ma (J3 _),N6]at d;cases d;refine⟨j,n,by rw[set,J8 rfl],J,λm hm=>?_⟩;obtain⟨B,b⟩:=(vM O.sz (I m)).2.mp (R m hm);exact⟨B,by rw[o7,set,J6 (λw=>by rw[<-w,o]at b;cases b)];exact b⟩
theorem Ow.nil(mask:Nat):Ow mask (Array.replicate (mask+1) JT) []:=by
 have g:∀x:Nat,(Array.replicate (mask+1) (JT:Option Nat))[x]?=if x<mask+1 then on JT else JT:=λx=>Array.getElem?_replicate;refine⟨by simp,λj k h=>?_,λj b k h=>?_,by simp,λk h a=>by simp at a⟩
 .rw[g]at h
  split at h<;>cases h
 .rw[g]at h
  split at h<;>cases h
theorem rM{mask:Nat}(hm:Mk mask):∀(l:List Int) (owner:Array (Option Nat)) (hs:List Int),Ow mask owner hs->hs.length+l.length<=mask+1->∃a,l.foldl (λ(acc:Option (Array (Option Nat)×Nat)) h=>do
   let (owner,k) <-acc
   let j <-layClean.free mask owner (turns mask) (bits h % (mask+1)) (bits h)
   Mm (owner.setIfInBounds j (on k),k+1)) (on (owner,hs.length))=on (a,hs.length+l.length)/\Ow mask a (hs++l)
 |[],owner,hs,O,_=>⟨owner,rfl,by rw[KW];exact O⟩
 |h::l,owner,hs,O,hl=>by
  rw[Kq]at hl;obtain⟨j,e,d⟩:=O.step h hm (by omega);obtain⟨f,b,c⟩:=rM hm l _ (hs++[h]) d (by rw[Kg,KQ];omega);refine⟨f,?_,by rw[Lg]at c;exact c⟩;rw[List.foldl_cons];simp only[Option.bind_eq_bind,MQ,e];rw[Kg,KQ]at b;rw[Kq,show hs.length+(l.length+1)=hs.length+1+l.length by omega];exact b
theorem Hk{mask:Nat}(hm:Mk mask)(hs:Array Int)(b:hs.size<=mask+1):∃owner,layClean mask hs=on owner/\Ow mask owner hs.toList:=by
 obtain⟨o,e,O⟩:=rM hm hs.toList _ [] (Ow.nil mask) (by simpa using b);refine⟨o,?_,O⟩;unfold layClean;rw[<-Array.foldl_toList];have a:=e;simp only[NR]at a;exact(La (Option.map (·.1)) a).trans rfl
theorem rY{α β:Type}{f:α->Option β}{g:α->β}:∀{l:List α},(∀a∈l,f a=on (g a))->l.filterMap f=l.map g
 |[],_=>rfl
 |a::l,h=>by
  rw[LS,h a J2,Kv,rY λb c=>h b (J1 a c)]
noncomputable def bY(mask:Nat)(owner:Array (Option Nat)):List (Nat×Nat):=(Ka (mask+1)).filterMap λj=>(owner.getD j JT).map (j,·)
theorem zt{mask:Nat}{owner:Array (Option Nat)}(hs:owner.size=mask+1){j k:Nat}:(j,k)∈bY mask owner↔owner[j]?=on (on k):=by
 unfold bY;rw[ON];constructor
 .rintro⟨x,c,e⟩
  have d:=Kw.mp c;have a:owner.getD x JT=owner[x]:=by simp[MP,show x<owner.size by omega]
  rw[a]at e;cases q:owner[x]with
  |none=>rw[q]at e;cases e
  |some f=>
   rw[q]at e;simp only[Md,Ro,Prod.mk.injEq]at e;obtain⟨rfl,rfl⟩:=e;rw[getElem?_pos owner x (by omega),q]
 .intro e
  have b:=(K4.mp e).1;refine⟨j,Kw.mpr (by omega),?_⟩;have a:owner.getD j JT=owner[j]:=by simp[MP,b]
  rw[getElem?_pos owner j b]at e;rw[a,KE e];rfl
theorem xN(mask:Nat)(owner:Array (Option Nat)):(bY mask owner).Pairwise λa b=>a.1<b.1:=by
 unfold bY;refine List.Pairwise.filterMap _ (λa f h b d g c=>?_) List.pairwise_lt_range;cases q:owner.getD a JT with
 |none=>rw[q]at d;cases d
 |some k=>
  rw[q]at d;cases e:owner.getD f JT with
  |none=>rw[e]at c;cases c
  |some i=>
   rw[e]at c;cases d;cases c;exact h
theorem w8{t:Le}{hs:Array Int}(hm:Mk (sizeAbove wanted-1))(nf:hs.size*5<(sizeAbove wanted-1)*3):
  ∃(t':Le) (c:Array Nat),t.relaid hs wanted=on (t',c)/\c.toList.Perm (Ka hs.size)/\Tb t' (c.toList.map λk=>hs.getD k 0)/\t'.led=t.led/\t'.plain=t.plain:=by
 have ho:=hm.odd;obtain⟨owner,e,O⟩:=Hk hm hs (by omega);generalize Q:sizeAbove wanted-1=mask at*;have d:hs.toList.length=hs.size:=by simp
 have f:=xN mask owner;have g:∀{j k:Nat},(j,k)∈bY mask owner↔owner[j]?=on (on k):=zt O.sz;have T:t.relaid hs wanted=on ({mask,place:=((bY mask owner).map (·.1)).toArray,dummies:=#[],finger:=t.finger,led:=t.led,moves:=t.movedTo mask,plain:=t.plain},((bY mask owner).map (·.2)).toArray):=by
  unfold relaid laid;rw[Q,e];rfl
 have perm:((bY mask owner).map (·.2)).Perm (Ka hs.size):=by
  refine(List.perm_ext_iff_of_nodup ?_ List.nodup_range).mpr λk=>?_
  .unfold List.Nodup
   rw[MO];refine List.Pairwise.imp_of_mem (R:=λa b=>a.1<b.1) (λ{a b} ha B h z=>?_) f;obtain⟨j,k⟩:=a;obtain⟨r,v⟩:=b;have U:k=v:=z;subst U;have:=O.un j r k (g.mp ha) (g.mp B);have h':j<r:=h;omega
  .rw[J5,Kw]
   constructor
   .rintro⟨⟨j,v⟩,h,rfl⟩
    have:=O.lt j v (g.mp h);rwa[d]at this
   .intro A
    obtain⟨j,n,C,_⟩:=O.ex k _ (JX (by rw[d];exact A));exact⟨(j,k),g.mpr C,rfl⟩
 have l:(bY mask owner).length=hs.size:=by
  have:=perm.length_eq;rwa[JS,KD]at this
 refine⟨_,_,T,by simpa using perm,?_,rfl,rfl⟩;have pg:∀{i:Nat} {x:Nat},(((bY mask owner).map (·.1)).toArray)[i]?=on x->∃k,(bY mask owner)[i]?=on (x,k):=λ{i x} h=>by
  rw[PN,J9]at h;cases q:(bY mask owner)[i]? with
  |none=>rw[q]at h;cases h
  |some a=>
   rw[q]at h;cases h;exact⟨a.2,rfl⟩
 have F:∀{j k:Nat},owner[j]?=on (on k)->∃i:Nat,(((bY mask owner).map (·.1)).toArray)[i]?=on j:=λ{j k} h=>by
  obtain⟨i,W,X⟩:=P8 (g.mpr h);exact⟨i,by rw[PN,J9,JX W,X];rfl⟩
 refine⟨hm,?_,?_,?_,rfl,?_,?_⟩
 .show(((bY mask owner).map (·.1)).toArray).size=_
  simp
 .intro i k x y H Y Z
  obtain⟨a,ha⟩:=pg Y;obtain⟨b,B⟩:=pg Z;obtain⟨C,I⟩:=Kc.mp ha;obtain⟨h2,e2⟩:=Kc.mp B;have:=MH.mp f i k C h2 H;rw[I,e2]at this;exact this
 .intro i j h
  obtain⟨a,ha⟩:=pg h;have:=(K4.mp (g.mp (KA ha))).1;have:=O.sz;show j<=mask;omega
 .show(((bY mask owner).map (·.1)).toArray).size*5<mask*3
  have:(((bY mask owner).map (·.1)).toArray).size=hs.size:=by simp[l]
  omega
 .intro i h j J hj
  obtain⟨k,A⟩:=pg hj;have o:=g.mp (KA A);have eh:hs.toList[k]?=on h:=by
   rw[J9]at J;have I:((bY mask owner).map (·.2)).toArray.toList[i]?=on k:=by
    show((bY mask owner).map (·.2))[i]?=_;rw[J9,A];rfl
   rw[I]at J;have kl:k<hs.size:=by have:=O.lt j k o;rwa[d]at this
   have:hs.getD k 0=h:=KE J;rw[MC,getElem?_pos hs k kl,<-this];simp[MP,kl]
  obtain⟨r,n,a1,a2,a3⟩:=O.ex k h eh;have:=O.un j r k o a1;subst this;have tr:∀(u:Le),u.mask=mask->∀m,eo u m (u.probeStart h)=eo (tm mask) m ((tm mask).probeStart h):=λu N m=>by
   rw[uT (u:=tm mask) N,rR (u:=tm mask) N]
  refine⟨n,by rw[tr _ rfl];exact a2,λm L=>?_⟩;rw[tr _ rfl];obtain⟨v,p⟩:=a3 m L;exact F p
theorem pk{t:Le}(a:t.probe f h p=r)(T:Tb t hs)(v:Pv t p)(b:e<10*turns t.mask)(c:¬Lv t (eo t e p).j):
  ∃m,m<=e/\(∀d<m,∃i,t.place[i]?=on (eo t d p).j/\f i≠h)/\
   ((¬Lv t (eo t m p).j/\r=on (.empty (eo t m p).j JT))\/∃i,t.place[i]?=on (eo t m p).j/\f i=h/\r=on (.candidate (eo t m p).j i (eo t (m+1) p))):=by
 subst a;exact CS T.rs T.du _ p e v b c
section
variable{prog:KF}{w:K1}{A:Lf}{E:J0->J4->Prop}{s:J4}
noncomputable abbrev hO(prog:KF)(w:K1):HeapKind prog w (List Int):=tupleKind (Ps prog w)
noncomputable abbrev hsh(prog:KF)(w:K1)(k:List Int):Int:=(hO prog w).hash k
theorem Tb.fits{t:Le}{hs:List Int}(T:Tb t hs)(hn:hs.length=n):t.fits n=JW:=by
 have:=T.nf;have:=T.sz;have:=T.km.odd;unfold QR SetTable.fill;rw[T.du];simp;omega
theorem items_int(h:ItemsAre (Ps prog w) ks vs):∀v∈vs,∃n t,v=NV n t:=by
 induction h with
 |nil=>intro v hv;cases hv
 |@cons k v' ks vs h1 _ ih=>
  intro v hv;rcases Kk.mp hv with rfl|hv
  .obtain⟨t,e⟩:=OZ h1
   exact⟨_,t,e⟩
  .exact ih v hv
theorem wu{M:Model}{o:KS}(b:s.heap.get? a=on o)(h:Q o.cls s):Ke M A (typeOf (.ref a)) Q E s:=by
 show Ke M A (loadPart a _>>=_) Q E s;exact JR (wpAny_loadPart b (JU h))
theorem rm(f:(hO prog w).is s.heap k x)(h:Q JZ s):Ke (Ky prog w) A (QZ 8 (.ref x)) Q E s:=by
 obtain⟨o,b,n,e,g,hd,i⟩:=f;unfold QZ;refine JR (wu e ?_);rw[g];simp only[Tt,K8];refine JR (JU ?_);simp only[Mx,Kn,Lb];refine JR (L7 e hd ?_);refine JR ?_;show Ke _ _ (forIn b _ _) _ _ s;rw[<-NP];refine OC _ (λrest r s'=>r.1=JT/\s'=s/\∀v∈rest,∃n t,v=NV n t) _ ?_ ?_ _ _ ⟨rfl,rfl,items_int i⟩
 .rintro v rest r s' ⟨c,rfl,a⟩
  obtain⟨n,t,rfl⟩:=a v J2;unfold QZ;refine JR (JU ?_);simp only[Kn,Lb];exact JU ⟨rfl,rfl,λu d=>a u (J1 _ d)⟩
 .rintro⟨j,l⟩ s' ⟨c,rfl,_⟩
  simp only at c;subst c;exact JU h
theorem zV(e:(hO prog w).is s.heap k x)(h:Q JW s):Ke (Ky prog w) A (hashByValue 8 (.ref x)) Q E s:=by
 have f:=Rw (s:=s) e;obtain⟨o,b,n,g,j,hd,i⟩:=e;unfold hashByValue;refine JR (MR f F.slot_tuple_hash.lookup ?_);simp only;refine JR (L7 g hd ?_);refine JR ?_;show Ke _ _ (forIn b _ _) _ _ s;rw[<-NP];refine OC _ (λrest r s'=>r.1=JT/\s'=s/\∀v∈rest,∃n t,v=NV n t) _ ?_ ?_ _ _ ⟨rfl,rfl,items_int i⟩
 .rintro v rest r s' ⟨c,rfl,a⟩
  obtain⟨n,t,rfl⟩:=a v J2;unfold hashByValue;refine JR (JU ?_);simp only[Mx,Kn,Lb];exact JU ⟨rfl,rfl,λu d=>a u (J1 _ d)⟩
 .rintro⟨l,m⟩ s' ⟨c,rfl,_⟩
  simp only at c;subst c;exact JU h
theorem EV(f:(hO prog w).is s.heap k x):∀(l:List (List Int×JY)) {Q:Bool->J4->Prop},(∀y∈l,(hO prog w).is s.heap y.1 y.2)->Q JZ s->Ke (Ky prog w) A (Q1 (.ref x) (l.map λy=>Ko y.2)) Q E s:=by
 intro l Q h i;unfold Q1;refine JR ?_;refine OC _ (λrest r s'=>r.1=JT/\s'=s/\∃b:List (List Int×JY),rest=b.map (λy=>Ko y.2)/\∀y∈b,(hO prog w).is s.heap y.1 y.2) _ ?_ ?_ _ _ ⟨rfl,rfl,l,rfl,h⟩
 .rintro v rest r s' ⟨d,rfl,b,e,a⟩
  cases b with
  |nil=>cases e
  |cons y b=>
   cases e;have g:=a y J2;have nxt:(JT:Option Bool)=JT/\s'=s'/\∃c:List (List Int×JY),b.map (λy=>Ko y.2)=c.map (λy=>Ko y.2)/\∀y∈c,(hO prog w).is s'.heap y.1 y.2:=⟨rfl,rfl,b,rfl,λu j=>a u (J1 y j)⟩;by_cases q:x==y.2
   .simp only[q,Bool.true_or,K8]
    exact JU nxt
   .simp only[q,Bool.false_or,carriedByValue,OJ,Kn,Lb]
    refine JR ((hO prog w).quiet f ?_);simp only[Mx,Kn,Lb];refine JR ((hO prog w).quiet g ?_);simp only[Mx,Kn,Lb];refine JR (rm f ?_);simp only[Kn,Lb];refine JR (rm g ?_);simp only[Kn,Lb];exact JU nxt
 .rintro⟨m,n⟩ s' ⟨d,rfl,_⟩
  simp only at d;subst d;exact JU i
theorem wN{o:KS}{es:Array (Int×J0)}{t:Le}{xs:List (List Int×JY)}(hu:A.units<OI)(ho:s.heap.get? a=on o)(hd:o.data= .set es ep t)
  (H:es.toList=xs.map λx=>(hsh prog w x.1,Ko x.2)) (hx:∀x∈xs,(hO prog w).is s.heap x.1 x.2) (T:Tb t (xs.map λx=>hsh prog w x.1)) (hk:(hO prog w).is s.heap k b)
  (he:e<10*turns t.mask) (U:¬Lv t (eo t e (t.probeStart (hsh prog w k))).j) (ha:∀m<e,Lv t (eo t m (t.probeStart (hsh prog w k))).j)
  (q1:k∈xs.map (·.1)->Q (.there JT) s) (q2:k∉xs.map (·.1)->Q (.free (eo t e (t.probeStart (hsh prog w k))).j JZ) s):
  ∀(n c m:Nat) (st:Option Probe),e=m+n->n<c->st.getD (t.probeStart (hsh prog w k))=eo t m (t.probeStart (hsh prog w k))->(∀g<m,∀(i:Nat) x,t.place[i]?=on (eo t g (t.probeStart (hsh prog w k))).j->xs[i]?=on x->x.1≠k)->
   Ke (Ky prog w) A (setSearchFrom a (.ref b) (hsh prog w k) JW c st) Q E s:=by
 have hsz:es.size=xs.length:=by rw[<-KG,H,JS]
 have W:t.fits es.size=JW:=T.fits (by rw[JS,hsz]);have l:∀i:Nat,es[i]?=(xs[i]?).map λx=>(hsh prog w x.1,Ko x.2):=λi=>by rw[<-MC,H,J9]
 have gw:t.gaveWay=JZ:=by
  have:=T.km.odd;unfold SetTable.gaveWay;rw[PP];omega
 intro n
 induction n using Nat.strongRecOn with
 |_ n ih=>
  intro c m st em hfu hst p;cases c with
  |zero=>omega
  |succ c=>
   unfold setSearchFrom;refine JR (L0 ho hd W ?_)
   dsimp only
   rw[hst,gw];simp only[Kn,Lb];have v:=ki m (lN t (hsh prog w k));have it:∀n',eo t n' (eo t m (t.probeStart (hsh prog w k)))=eo t (m+n') (t.probeStart (hsh prog w k)):=λn'=>(k8 t m n' _).symm;have same:∀{i O j:Nat},t.place[i]?=on j->t.place[O]?=on j->i=O:=λ{i O j} u C=>by
    rcases No i O with q|q|q
    .exact Kx (T.rs i O j j q u C) (Lc j)
    .exact q
    .exact Kx (T.rs O i j j q C u) (Lc j)
   split
   .rename_i X heq
    obtain⟨g,hm',r,d⟩:=pk heq T v (e:=n) (by omega) (by rw[it,<-em];exact U);rcases d with⟨Y,I⟩|⟨i,R,hfi,I⟩
    .cases I
     have Z:g=n:=by
      rcases Qt g n with q|q
      .rw[it]at Y
       exact Kx (ha (m+g) (by omega)) Y
      .omega
     subst Z;refine JU ?_;rw[it,<-em];refine q2 λhmem=>?_;obtain⟨x,hx1,J⟩:=J5.mp hmem;obtain⟨B,hi0,ei0⟩:=P8 hx1;have h:xs[B]?=on x:=by rw[JX hi0,ei0]
     have L:B<t.place.size:=by have:=T.sz;rw[JS]at this;omega
     obtain⟨F,a1,a2⟩:=T.rch B (hsh prog w k) t.place[B] (by rw[J9,h,<-J];rfl) (getElem?_pos t.place B L);have hlt:F<e:=by
      rcases No F e with q|q|q
      .exact q
      .subst q
       exact Kx ⟨B,by rw[a1];exact getElem?_pos t.place B L⟩ U
      .exact Kx (a2 e q) U
     have hp0:t.place[B]?=on (eo t F (t.probeStart (hsh prog w k))).j:=by rw[a1];exact getElem?_pos t.place B L
     by_cases q:F<m
     .exact p F q B x hp0 h J
     .obtain⟨i,u,C⟩:=r (F-m) (by omega)
      rw[it,show m+(F-m)=F by omega]at u;have:=same u hp0;subst this;refine C ?_;show(es[i]?.map (·.1)).getD 0=_;rw[l,h,<-J];rfl
    .cases I
     have N:i<xs.length:=by
      have u:=(K4.mp R).1;have:=T.sz;rw[JS]at this;omega
     have h:xs[i]?=on xs[i]:=JX N;have hei:es[i]?=on (hsh prog w xs[i].1,Ko xs[i].2):=by rw[l,h];rfl
     have hxk:=hx xs[i] (K5 N);rw[it]at R;simp only;have el:(MU (λx=>x.snd) (Array.filter (λx=>x.fst==hsh prog w k) es).toList)=(xs.filter λy=>hsh prog w y.1==hsh prog w k).map λy=>Ko y.2:=by
      rw[Array.toList_filter,H,QN,Kb];rfl
     rw[el];have seen:∀{Q':Bool->J4->Prop},Q' JZ s->Ke (Ky prog w) A (Q1 (.ref b) ((xs.filter λy=>hsh prog w y.1==hsh prog w k).map λy=>Ko y.2)) Q' E s:=λhq=>EV hk _ (λy hy=>hx y (Pz.mp hy).1) hq;have sm:t.sameMemory t.moves t.mask=on JW:=by unfold sameMemory;simp
     have sl:t.slot (eo t (m+g) (t.probeStart (hsh prog w k))).j= .live i:=pe T.rs R;cases hled:t.led
     all_goals simp only[Q3,Mx,Kn,K8,Lb,it,hei]
     all_goals try refine JR (seen ?_)
     all_goals try simp only[Kn,Lb]
     all_goals
      refine JR (Ln ((hO prog w).eqBool hu hxk hk (JR (L0 ho hd W ?_))));simp only[Oe];by_cases q:xs[i].1=k
      .rw[J8 (Km q)]
       exact JU (q1 (J5.mpr ⟨xs[i],K5 N,q⟩))
      .rw[J6 (by simpa using q)]
       simp only[sm,K8,sl,hei];refine JR ?_;unfold isSame;simp only[Tt,K8];refine JU (JR (JU ?_));simp only[K8];rw[J6 (by simpa using q)];have Z:g<n:=by
        rcases Qt g n with z|z
        .exact z
        .obtain rfl:g=n:=by omega
         rw[<-em]at R;exact Kx ⟨i,R⟩ U
       refine ih (n-(g+1)) (by omega) c (m+g+1) _ (by omega) (by omega) rfl λm2 hm2 i2 x2 u C z=>?_;by_cases q1:m2<m
       .exact p m2 q1 i2 x2 u C z
       .by_cases q2:m2=m+g
        .subst q2
         have:=same R u;subst this;rw[h]at C;cases C;exact q z
        .obtain⟨i3,h3,h4⟩:=r (m2-m) (by omega)
         rw[it,show m+(m2-m)=m2 by omega]at h3;have:=same h3 u;subst this;refine h4 ?_;show(es[i3]?.map (·.1)).getD 0=_;rw[l,C,<-z];rfl
   .rename_i hno
    have key:∀f:Nat->Int,(∀X,t.probe f (hsh prog w k) (eo t m (t.probeStart (hsh prog w k)))=on X->False)->False:=λf W=>by
     obtain⟨g,hm',r,d⟩:=pk (f:=f) rfl T v (e:=n) (by omega) (by rw[it,<-em];exact U);rcases d with⟨_,I⟩|⟨i,_,_,I⟩
     .exact W _ I
     .exact W _ I
    exact(key _ hno).elim
theorem Js{P:Nat->Prop}:∀n,P n->∃m,m<=n/\P m/\∀k<m,¬P k:=by
 intro n
 induction n using Nat.strongRecOn with
 |_ n ih=>
  intro h;by_cases q:∃k,k<n/\P k
  .obtain⟨k,a,b⟩:=q
   obtain⟨m,d,c⟩:=ih k a b;exact⟨m,by omega,c⟩
  .exact⟨n,J3 n,h,λk a b=>q ⟨k,a,b⟩⟩
def oW(prog:KF)(w:K1)(h:Lj)(a:JY)(xs:List (List Int×JY)):Prop:=
 ∃o es ep t,h.get? a=on o/\o.ExactSet/\o.data= .set es ep t/\(es.toList=xs.map λx=>(hsh prog w x.1,Ko x.2))/\(xs.map (·.1)).Nodup/\(∀x∈xs,(hO prog w).is h x.1 x.2)/\(Tb t (xs.map λx=>hsh prog w x.1))/\t.plain=JW/\t.led=!(w.params.followText "set-order")
theorem mq{h h':Lj}{o:KS}{es ep t}(x:(hO prog w).is h k b)(i:h.get? a=on o)(hd:o.data= .set es ep t)(hs:KI a h h'):(hO prog w).is h' k b:=by
 obtain⟨g,c,n,e,j,d,l⟩:=x;have f:b≠a:=by
  rintro rfl;obtain rfl:g=o:=KE (e.symm.trans i);rw[hd]at d;exact nomatch d
 exact⟨g,c,n,(hs.2 b f).trans e,j,d,l⟩
theorem o6{h:Lj}{o:KS}(c:h.get? a=on o)(hd:o.data= .set es ep t)(b:Array (Int×J0))(t':Le):(h.update a (PF b t')).get? a=on {o with data:= .set b (ep+1) t'}:=by
 have:=MF (PF b t') c (by rw[putSet_of b t' hd];rfl);rw[putSet_of b t' hd]at this;exact this
theorem GT{t:Le}(T:Tb t hs)(j:Nat):(t.put j).1.dummies=#[]/\(t.put j).1.place.size=t.place.size+1/\(t.put j).2<=t.place.size:=by
 obtain⟨b1,b2,b3⟩:=hZ (j:=j) T.rs;have hd:has t.dummies j=JZ:=by unfold has;rw[T.du];rfl
 refine⟨?_,fI b1,b1⟩;show(if has t.dummies j=JW then _ else t.dummies)=#[];rw[hd,J6 J7,T.du]
theorem FM{α β:Type}{xs:List α}{ys:Array β}{f:α->β}(e:ys.toList=xs.map f){p:Nat}(c:p<=ys.size)(x:α):(insertAt ys p (f x)).toList=(xs.take p++x::xs.drop p).map f:=by
 unfold insertAt;simp only[Array.toList_append,SO,Array.toList_extract];have a:(ys.toList.extract 0 p)=ys.toList.take p:=by simp[List.extract]
 have b:(ys.toList.extract p ys.size)=ys.toList.drop p:=by
  simp only[List.extract];rw[LO (by simp)]
 rw[a,b,e,KC,Kv,Oi,Nd,Lg];rfl
theorem IG{xs:List (List Int×JY)}(hu:A.units<OI)(S:oW prog w s.heap a xs)(hk:(hO prog w).is s.heap k b)(hn:xs.length<63)
  (h:∀h' q,KI a s.heap h'->oW prog w h' a q->(k∈xs.map (·.1)->q=xs)->(k∉xs.map (·.1)->q.Perm ((k,b)::xs))->Q (decide (k∉xs.map (·.1))) {s with heap:=h'}):
  Ke (Ky prog w) A (setAddHashed a (.ref b) (hsh prog w k)) Q E s:=by
 have S0:=S;obtain⟨o,es,ep,t,U,X,hd,W,hnd,hx,T,hp,J⟩:=S;have F:es.size=xs.length:=by rw[<-KG,W,JS]
 have hf:t.fits es.size=JW:=T.fits (by rw[JS,F]);have Y:t.place.size=xs.length:=by rw[T.sz,JS]
 obtain⟨e0,he0,hl0⟩:=T.free (lN t (hsh prog w k));obtain⟨e,hee,hl,Z⟩:=Js (P:=λe=>¬Lv t (eo t e (t.probeStart (hsh prog w k))).j) e0 hl0;have ha:∀m<e,Lv t (eo t m (t.probeStart (hsh prog w k))).j:=λm hm=>Classical.not_not.mp (Z m hm);have hmk:=T.km.odd;unfold setAddHashed setAddHashedIn;refine Ln (JR (L0 U hd hf ?_));have hb:byScan (Ko b) es=JZ:=rfl;simp only[hb,Kn,Lb];refine JR ?_;unfold setSearch;refine wN (e:=e) hu U hd W hx T hk (by omega) hl ha (λhm=>?_) (λhm=>?_) e 100000 0 JT (by omega) (by unfold turns at he0;omega) rfl (λm' hm'=>Kx hm' (Ms _))
 .refine JU ?_
  have:=h s.heap xs (KI.refl a s.heap) S0 (λ_=>rfl) (λz=>Kx hm z);rw[K0 (λz=>z hm)]at this;exact this
 .have hQ:∀h' q,KI a s.heap h'->oW prog w h' a q->q.Perm ((k,b)::xs)->Q JW {s with heap:=h'}:=λh' q h1 h2 h3=>by
   have:=h h' q h1 h2 (λz=>Kx z hm) (λ_=>h3);rwa[Km hm]at this
  simp only;refine JR (L0 U hd hf ?_);generalize hj:(eo t e (t.probeStart (hsh prog w k))).j=j at hl;obtain⟨pd,ps,pl⟩:=GT T j;generalize y:t.put j=tp at pd ps pl;obtain⟨u,p⟩:=tp;simp only at pd ps pl⊢;have l:u.plain=JW:=by
   have:(t.put j).1.plain=t.plain:=rfl;rw[y]at this;rw[this,hp]
  have L:u.led=t.led:=by
   have:(t.put j).1.led=t.led:=rfl;rw[y]at this;exact this
  have v:u.mask=t.mask:=by
   have:(t.put j).1.mask=t.mask:=rfl;rw[y]at this;exact this
  rw[l];simp only[K8];refine JR (zV hk ?_);simp only[K8];have N:=FM (f:=λx:List Int×JY=>(hsh prog w x.1,Ko x.2)) W (p:=p) (by omega) (k,b);have B:(insertAt es p (hsh prog w k,Ko b)).size=es.size+1:=fI (by omega);have d:(xs.take p++(k,b)::xs.drop p).Perm ((k,b)::xs):=by
   have:=List.perm_middle (a:=(k,b)) (l₁:=xs.take p) (l₂:=xs.drop p);rwa[MG]at this
  have nd1:((xs.take p++(k,b)::xs.drop p).map (·.1)).Nodup:=by
   refine(d.map (·.1)).nodup_iff.mpr ?_;rw[Kv,KM];exact⟨hm,hnd⟩
  refine JR (wpAny_storeSet_of U hd ?_ (by rw[B,LZ];omega));have H:=LA s.heap a (PF (insertAt es p (hsh prog w k,Ko b)) u);have g1:=o6 U hd (insertAt es p (hsh prog w k,Ko b)) u;have hx1:∀x∈xs.take p++(k,b)::xs.drop p,(hO prog w).is (s.heap.update a (PF (insertAt es p (hsh prog w k,Ko b)) u)) x.1 x.2:=λx hx'=>by
   rcases Kk.mp (d.mem_iff.mp hx')with rfl|hx'
   .exact mq hk U hd H
   .exact mq (hx x hx') U hd H
  by_cases r:u.tooFull=JW
  .simp only[r,Q3,Od,K8]
   have fu:u.fill*5≥u.mask*3:=by unfold tooFull at r;exact Mp r
   have fe:u.fill=xs.length+1:=by unfold fill;rw[pd,ps,Y];rfl
   have nf0:=T.nf;have f1:u.fits (insertAt es p (hsh prog w k,Ko b)).size=JW:=by
    unfold QR;rw[B,fe,ps,Y,F,v];simp;omega
   have wm:Mk (sizeAbove (grown (es.size+1))-1)/\(es.size+1)*5<(sizeAbove (grown (es.size+1))-1)*3/\sizeAbove (grown (es.size+1))<=128:=by
    rw[fe,v]at fu;rw[F];rcases T.km with z|z|z
    .have:xs.length=4:=by omega
     rw[this];exact⟨.inr (.inl (by decide)),by decide,by decide⟩
    .have:xs.length=18:=by omega
     rw[this];exact⟨.inr (.inr (by decide)),by decide,by decide⟩
    .omega
   have C:(Array.map (λx=>x.fst) (insertAt es p (hsh prog w k,Ko b))).size=es.size+1:=by rw[Array.size_map,B]
   obtain⟨t2,c,er,op,T2,led2,I⟩:=w8 (t:=u) (hs:=(insertAt es p (hsh prog w k,Ko b)).map (·.1)) (wanted:=grown (es.size+1)) wm.1 (by rw[C];exact wm.2.1);refine JR ?_;unfold setRelay;refine JR (L0 g1 rfl f1 ?_);simp only;rw[J6 (by rw[LZ];omega)];rw[er];generalize hE1:insertAt es p (hsh prog w k,Ko b)=es1 at*;generalize hX1:xs.take p++(k,b)::xs.drop p=xs1 at*;have l1:xs1.length=es.size+1:=by rw[d.length_eq,Kq,F]
   have O:∀i,i<xs1.length->es1[i]?=on (hsh prog w (xs1.getD i (k,b)).1,Ko (xs1.getD i (k,b)).2):=λi R=>by
    rw[<-MC,N,J9,JX R,Kd,JX R];rfl
   have om:∀i∈c.toList,i<xs1.length:=λi R=>by
    have:=Kw.mp (op.mem_iff.mp R);rw[C]at this;omega
   have efl:(c.filterMap λx=>es1[x]?).toList=(c.toList.map λi=>xs1.getD i (k,b)).map λx=>(hsh prog w x.1,Ko x.2):=by
    rw[Array.toList_filterMap,rY (g:=λi=>(hsh prog w (xs1.getD i (k,b)).1,Ko (xs1.getD i (k,b)).2)) λi R=>O i (om i R),Kb];rfl
   have n:(c.toList.map λi=>xs1.getD i (k,b)).Perm xs1:=by
    refine(op.map _).trans (Qj ?_);rw[C,<-l1];refine NC (by simp) λi h1 h2=>?_;rw[ND,OL,Kd,JX h2];rfl
   have fsz:(c.filterMap λx=>es1[x]?).size=es1.size:=by
    rw[<-KG,efl,JS,n.length_eq,l1,B]
   refine JR ?_;show Ke _ _ (if((c.filterMap λx=>es1[x]?).size !=es1.size)=JW then _ else _) _ _ _;rw[J6 (by rw[fsz];simp)];refine JU ?_;refine wpAny_storeSet_of g1 rfl ?_ (by rw[fsz,B,LZ];omega);have sb2:=LA (s.heap.update a (PF es1 u)) a (PF (c.filterMap λx=>es1[x]?) t2);have g2:=o6 g1 rfl (c.filterMap λx=>es1[x]?) t2;refine JU (hQ _ (c.toList.map λi=>xs1.getD i (k,b)) (H.trans sb2) ⟨_,_,_,t2,g2,X,rfl,efl,?_,λx hx'=>?_,?_,by rw[I,l],by rw[led2,L,J]⟩ (n.trans d))
   .exact(n.map (·.1)).nodup_iff.mpr nd1
   .exact mq (hx1 x (n.mem_iff.mp hx')) g1 rfl sb2
   .have eh:(c.toList.map λi=>xs1.getD i (k,b)).map (λx=>hsh prog w x.1)=c.toList.map λi=>(es1.map (·.1)).getD i 0:=by
     rw[Kb];refine K9 λi R=>?_;have h1:=O i (om i R);have h2:(es1.map (·.1))[i]?=on (hsh prog w (xs1.getD i (k,b)).1):=by rw[Array.getElem?_map,h1];rfl
     have h3:=(K4.mp h2);obtain⟨h4,h5⟩:=h3;simp only[PQ];rw[<-h5];simp[MP,h4];omega
    rw[eh];exact T2
  .simp only[r,Q3,Bool.and_false,Lb,Oe,Kn]
   refine JU (hQ _ (xs.take p++(k,b)::xs.drop p) H ⟨_,_,_,u,g1,X,rfl,N,nd1,hx1,?_,l,by rw[L,J]⟩ d);have nf:(t.place.size+1)*5<t.mask*3:=by
    have:¬(u.fill*5≥u.mask*3):=by
     intro z;exact r (by unfold tooFull;exact Km z)
    unfold fill at this;rw[pd,ps,v]at this;simp at this;omega
   have:=(T.put (h:=hsh prog w k) hl hj (by exact ha) nf).2.2.2.2;rw[y]at this;rw[KC,Kv,Oi,Nd];exact this
end
namespace F2
theorem si_next:Slot "set_iterator" "__next__" "set_iterator.__next__":= .of (owner:="set_iterator") (n:="__next__") (by rw[Rz,Qd];kernel_rfl) (by decide +kernel) (by decide +kernel) (by decide +kernel)
  (by first|exact .inl (by decide +kernel)|exact .inr (by decide +kernel)) (by rw[Oj];kernel_rfl)
theorem si_iter:Slot "set_iterator" "__iter__" "set_iterator.__iter__":= .of (owner:="set_iterator") (n:="__iter__") (by rw[Rz,Qd];kernel_rfl) (by decide +kernel) (by decide +kernel) (by decide +kernel)
  (by first|exact .inl (by decide +kernel)|exact .inr (by decide +kernel)) (by rw[Oj];kernel_rfl)
theorem ent_next:entryFor table "set_iterator.__next__"=on Builtin.«set_iterator.__next__»:=entryFor_of_tree (by kernel_rfl)
theorem ent_iter:entryFor table "set_iterator.__iter__"=on Builtin.«dict_keyiterator.__iter__»:=RZ (id':="dict_keyiterator.__iter__") (by kernel_rfl) rfl (by decide +kernel) (by kernel_rfl)
theorem ent_set_iter:entryFor table "set.__iter__"=on Builtin.«frozenset.__iter__»:=RZ (id':="frozenset.__iter__") (by kernel_rfl) rfl (by decide +kernel) (by kernel_rfl)
theorem args_next(a:J0):argsOk "set_iterator.__next__" ⟨[a],[]⟩:=by unfold argsOk;kernel_rfl
theorem args_iter(a:J0):argsOk "set_iterator.__iter__" ⟨[a],[]⟩:=by unfold argsOk;kernel_rfl
end F2
theorem nC{α:Type}:∀{l:List α} {i:Nat} (h:i<l.length),(l[i]::l.eraseIdx i).Perm l
 |[],i,h=>Kx h (Ms i)
 |a::l,0,h=> .refl _
 |a::l,i+1,h=>by
  show(l[i]'(by simpa using h)::a::l.eraseIdx i).Perm (a::l);exact(List.Perm.swap _ _ _).trans ((nC (by simpa using h)).cons a)
theorem tI{α:Type}(next:Nat->Nat):∀(fuel k:Nat) (left:List α) (a:Array α),left.length<=fuel->(Q0 next fuel k left a).toList.Perm (a.toList++left)
 |0,k,left,a,h=>by
  have:left=[]:=Pl.mp (by omega);subst this;unfold Q0;rw[KW]
 |fuel+1,k,left,a,h=>by
  unfold Q0;cases left with
  |nil=>simp
  |cons c d=>
   have b:next k % (c::d).length<(c::d).length:=Re _ (by simp)
   rw[JX b];simp only;refine(tI next fuel (k+1) _ _ (by rw[List.length_eraseIdx_of_lt b];omega)).trans ?_
   rw[SO,Lg];exact List.Perm.append_left _ (nC b)
theorem xk{α:Type}(next:Nat->Nat)(xs:Array α):(Rj next xs).toList.Perm xs.toList:=by
 unfold Rj;refine(tI next xs.size 0 xs.toList #[] (by simp)).trans ?_
 simp
section
variable{prog:KF}{w:K1}{A:Lf}{E:J0->J4->Prop}{s:J4}
noncomputable def dn(w:K1)(a:JY)(ep:Nat)(es:Array (Int×J0)):Array (Int×J0):=if w.params.followText "set-order"=JW then Rj (w.params.setOrder a ep) es else es
theorem jt(w:K1)(a:JY)(ep:Nat)(es:Array (Int×J0)):(dn w a ep es).toList.Perm es.toList:=by
 unfold dn;split
 .exact xk _ _
 .exact .refl _
structure L4 (w:K1) (h:Lj) (I a:JY) (es:Array (Int×J0)) (ep:Nat) (t:Le) (i:Nat):Prop where
 st:∃o,h.get? a=on o/\o.data= .set es ep t
 it:∃(o:KS) (sl:Nat),h.get? I=on o/\o.cls= .type "set_iterator"/\o.data= .fields #[.int sl 0,.int i 0,.ref a,.int es.size 0,.int ep 0]/\(w.params.followText "set-order"=JZ->below t.place sl=i)
theorem kE{M:Model}(h:Q (M.w.params.followText "set-order") s):Ke M A setsByText Q E s:=by
 unfold setsByText;exact JR (OB (JU h))
theorem xA{es:Array (Int×J0)}{t:Le}{e:Int×J0}(T:Tb t hs)(h:t.fits es.size=JW)(H:t.plain=JW)(J:t.led=!(w.params.followText "set-order"))(x:L4 w s.heap I a es ep t i)(k:I≠a)(l:(dn w a ep es)[i]?=on e)
  (L:∀h',L4 w h' I a es ep t (i+1)->KI I s.heap h'->Q (on e.2) {s with heap:=h'}):Ke (Ky prog w) A (Nx (.ref I)) Q E s:=by
 obtain⟨⟨N,b,c⟩,o,sl,n,u,hd,p⟩:=id x;have y:s.TypeIs (.ref I) "set_iterator":=⟨o,n,u⟩;unfold Nx;refine JR (Nu (wpAny_callSpecial?_slot (name:=LQ "__next__") y F2.si_next (KR F2.si_next y F2.ent_next ?_ (F2.args_next _))));unfold Builtin.«set_iterator.__next__»;refine JR (JU ?_);refine JR (Ol n hd ?_);simp only;refine JR (Qv b c h ?_);simp only[Nf,Kn,Lb];refine JR ?_;simp only[Lm]
 have d:∀nx:Nat,(w.params.followText "set-order"=JZ->below t.place nx=i+1)->Ke (Ky prog w) A.in1 (do
    Qm (Ko I) 0 (Nl nx)
    Qm (Ko I) 1 (Nl (i+1))
    ret e.2) (λd s'=>∃v,d=Fin.done (Flow.ret v)/\Ke (Ky prog w) A (Mm (on v)) Q E s') (λe s'=>Ke (Ky prog w) A (do
     if(<-QG e (M1 "StopIteration"))=JW then Mm JT else throw e) Q E s') s:=λnx r=>by
  refine JR (M6 n hd (by simp) ?_);have B:(s.heap.update I (Ry (·.setIfInBounds 0 (Nl nx)))).get? I=on _:=MF _ n (Ob (LL hd _));refine JR (M6 B (LL hd _) (by simp) ?_);refine JU ⟨_,rfl,JU (L _ ⟨⟨N,?_,c⟩,⟨_,nx,MF _ B (Ob (LL (LL hd _) _)),?_,?_,r⟩⟩ ((LA ..).trans (LA ..)))⟩
  .rw[Mb _ _ _ _ (Ne.symm k),Mb _ _ _ _ (Ne.symm k)];exact b
  .rw[Pc,Pc];exact u
  .rw[LL (LL hd _)];simp[Nl]
 unfold setNext;refine JR (L0 b c h (JR (kE ?_)));have C:(Ky prog w).w=w:=rfl;rw[C];cases q:w.params.followText "set-order"
 .have f:dn w a ep es=es:=by unfold dn;rw[q];rfl
  rw[f]at l;have O:=p q;have U:=(K4.mp l).1;simp only[Kn,Lb];have R:t.place.size=es.size:=by
   unfold QR at h;simp only[Kz,Nj,KV]at h;exact h.1
  rw[J6 (λz=>by
   have F:(!t.plain&&decide (es.size>1))=JW:=z;rw[H]at F;cases F)]
  refine JR ?_;show Ke _ _ (if(!t.led&&!es.isEmpty)=JW then _ else _) _ _ _;rw[J6 (by rw[J,q];exact J7)];refine JU (JU ?_);have g:t.place[i]?=on t.place[i]:=getElem?_pos t.place i (by omega);rw[O,l,g];simp only;refine d _ λ_=>?_;obtain⟨b1,b2,b3⟩:=hZ (j:=t.place[i]+1) T.rs;rcases No (below t.place (t.place[i]+1)) (i+1)with z|z|z
  .have:=b3 i _ (by omega) g
   omega
  .exact z
  .have m:t.place[i+1]?=on t.place[i+1]:=getElem?_pos t.place (i+1) (by omega)
   have W:=b2 (i+1) _ z m;have X:=T.rs i (i+1) _ _ (by omega) g m;omega
 .have f:dn w a ep es=Rj (w.params.setOrder a ep) es:=by unfold dn;rw[q];rfl
  rw[f]at l;simp only[K8,Nf,Kn,Lb];refine JR ?_;unfold setWalk;refine JR (L0 b c h (JR (kE ?_)));rw[C,q];simp only[K8];refine JR (OB (JU ?_));refine JU ?_;rw[show((Ky prog w).w.params.setOrder a ep)=w.params.setOrder a ep from rfl,l];simp only[Md];exact d _ λz=>by rw[q]at z;cases z
theorem zi{es:Array (Int×J0)}{t:Le}(r:A.handled=JT)(T:Tb t hs)(g:t.fits es.size=JW)(u:t.plain=JW)(y:t.led=!(w.params.followText "set-order"))(x:L4 w s.heap I a es ep t es.size)
  (B:∀h',PU I s.heap h'->Q JT {s with heap:=h'}):Ke (Ky prog w) A (Nx (.ref I)) Q E s:=by
 obtain⟨⟨F,d,f⟩,o,sl,h,C,hd,i⟩:=id x;have l:s.TypeIs (.ref I) "set_iterator":=⟨o,h,C⟩;unfold Nx;refine JR (Nu (wpAny_callSpecial?_slot (name:=LQ "__next__") l F2.si_next (KR F2.si_next l F2.ent_next ?_ (F2.args_next _))));unfold Builtin.«set_iterator.__next__»;refine JR (JU ?_);refine JR (Ol h hd ?_);simp only;refine JR (Qv d f g ?_);simp only[Nf,Kn,Lb];refine JR ?_;simp only[Lm]
 have c:Ke (Ky prog w) A.in1 (do
    Qm (Ko I) 2 KZ
    let e <-Rh (M1 "StopIteration") []
    (R6 e:Sem Fin)) (λc s'=>∃v,c=Fin.done (Flow.ret v)/\Ke (Ky prog w) A (Mm (on v)) Q E s') (λe s'=>Ke (Ky prog w) A (do
     if(<-QG e (M1 "StopIteration"))=JW then Mm JT else throw e) Q E s') s:=by
  refine JR (M6 h hd (by simp) ?_);refine JR ?_;simp only[Rh,newTuple];refine JR (KU ?_ (by size_fits));refine JR (m:=M5 _ _) (Ng (a:=KZ) (by first|rfl|(simp only[M5];rfl)) ?_)
  refine KU ?_ (by size_fits);simp only[R6];refine JR (QA ?_);rw[show A.in1.handled=JT from r];refine JR (JU (Rr ?_));refine JR (L8 (T:="StopIteration") (b:=JW) ⟨_,Kf _ rfl,rfl⟩ Ql ?_);exact JU (B _ (((LA ..).extBut.push _).push _))
 unfold setNext;refine JR (L0 d f g (JR (kE ?_)));have n:(Ky prog w).w=w:=rfl;rw[n];have j:(dn w a ep es).size=es.size:=by rw[<-KG,(jt w a ep es).length_eq,KG]
 cases q:w.params.followText "set-order"
 .simp only[Kn,Lb]
  rw[J6 (λz=>by
   have p:(!t.plain&&decide (es.size>1))=JW:=z;rw[u]at p;cases p)]
  refine JR ?_;show Ke _ _ (if(!t.led&&!es.isEmpty)=JW then _ else _) _ _ _;rw[J6 (by rw[y,q];exact J7)];refine JU (JU ?_);rw[i q,Mv (J3 _)];exact c
 .have k:dn w a ep es=Rj (w.params.setOrder a ep) es:=by unfold dn;rw[q];rfl
  simp only[K8,Nf,Kn,Lb];refine JR ?_;unfold setWalk;refine JR (L0 d f g (JR (kE ?_)));rw[n,q];simp only[K8];refine JR (OB (JU ?_));refine JU ?_;rw[show((Ky prog w).w.params.setOrder a ep)=w.params.setOrder a ep from rfl,<-k,Mv (by rw[j];exact J3 _)];exact c
theorem L4.at{h h':Lj}(x:L4 w h I a es ep t i)(k:∀b,b=I\/b=a->∀o,h.get? b=on o->h'.get? b=on o):L4 w h' I a es ep t i:=by
 obtain⟨⟨e,c,d⟩,o,sl,f,r⟩:=x;exact⟨⟨e,k a (.inr rfl) e c,d⟩,o,sl,k I (.inl rfl) o f,r⟩
theorem yF(q:A.handled=JT){es:Array (Int×J0)}{t:Le}(T:Tb t hs)(l:t.fits es.size=JW)(m:t.plain=JW)(n:t.led=!(w.params.followText "set-order"))(f:I≠a):
  Walks prog w A I [I,a] [I] es.size (λi v=>∃e,(dn w a ep es)[i]?=on e/\v=e.2) (λi h=>L4 w h I a es ep t i) where
 sub:=λb c=>by simp at c;simp[c]
 frame:=λ_ _ _ st r=>st.at λb c o e=>r b (by simpa using c) o e
 item:=λi s Q E L st d=>by
  have u:(dn w a ep es).size=es.size:=by rw[<-KG,(jt w a ep es).length_eq,KG]
  have p:(dn w a ep es)[i]?=on (dn w a ep es)[i]:=getElem?_pos _ i (by omega);exact xA T l m n st f p λh' g y=>d _ h' s.toks ⟨_,p,rfl⟩ g λb o c e=>y.extBut b o (λh=>c (by simp[h])) e
 done:=λs Q E st d=>zi q T l m n st λh' j=>d h' s.toks λb o c e=>j b o (λh=>c (by simp[h])) e
 self:=λi s Q E st d=>by
  obtain⟨⟨N,B,C⟩,o,sl,F,H,hd,J⟩:=st;have k:s.TypeIs (.ref I) "set_iterator":=⟨o,F,H⟩;refine Om k F2.si_iter (KR F2.si_iter k F2.ent_iter ?_ (F2.args_iter _));show Ke _ _ (ret (.ref I)) _ _ s;exact JU ⟨_,rfl,"set_iterator",_,k,F2.si_next.lookup,d⟩
end
end L2.Hs
namespace L2.Hs
open PySem PySem.SetTable PyProof.Rows
section
variable{prog:KF}{w:K1}{A:Lf}{E:J0->J4->Prop}{s:J4}
theorem zC{o:KS}{es:Array (Int×J0)}{t:Le}(b:s.heap.get? a=on o)(f:o.cls= .type "set")(hd:o.data= .set es ep t)(c:t.fits es.size=JW)(g:t.plain=JW)
  (h:Q (.ref s.heap.objs.size) {s with heap:=s.heap.push {cls:= .type "set_iterator",data:= .fields #[.int (0:Nat) 0,.int (0:Nat) 0,.ref a,.int es.size 0,.int ep 0]}}):Ke (Ky prog w) A (P4 (.ref a)) Q E s:=by
 have d:s.TypeIs (.ref a) "set":=⟨o,b,f⟩;refine Om d F.slot_set_iter (KR F.slot_set_iter d F2.ent_set_iter ?_ (F.args_set_iter_1 _));unfold Builtin.«frozenset.__iter__»;refine JR (Ng (a:=a) rfl ?_);refine JR (JR (Qv b hd c (JU ?_)));refine JR ?_;unfold setDrawn;refine JR (L0 b hd c (JR (kE (JU ?_))));rw[J6 (λz=>by
  have e:(!((Ky prog w).w.params.followText "set-order")&&(!t.plain&&decide (es.size>1)))=JW:=z;rw[g]at e;simp at e)]
 refine JR (JU ?_);refine JR (wpAny_setEpoch_of b hd c ?_);unfold newFields;refine JR (KU (JU ⟨_,rfl,"set_iterator",_,⟨_,Kf _ rfl,rfl⟩,F2.si_next.lookup,?_⟩));exact h
theorem sM{o:KS}{es:Array (Int×J0)}{t:Le}(hh:A.handled=JT)(U:s.heap.get? a=on o)(B:o.cls= .type "set")(hd:o.data= .set es ep t)(T:Tb t hs)(X:t.fits es.size=JW)(Y:t.plain=JW)(hl:t.led=!(w.params.followText "set-order"))
  (hsz:es.size<=1000)
  (hQ:∀h' Z vs,(∀b o,s.heap.get? b=on o->h'.get? b=on o)->s.heap.objs.size<=h'.objs.size->s.toks<=Z->vs.Perm (es.toList.map (·.2))->Q vs {s with heap:=h',toks:=Z}):Ke (Ky prog w) A (collect (.ref a)) Q E s:=by
 unfold collect;refine JR (R9 (OV SR ?_));rw[N9 SS _];show Ke _ A.in1 (newList []>>=λl=>Qy (.builtin "list.__iadd__" ⟨[l,.ref a],[]⟩)) _ _ s;refine JR (KU ?_);refine JU ⟨Qz Pj _,OV F.entry_list_iadd ?_⟩;rw[N9 Pj _];have ha:=Kr U;have g:(s.heap.push {cls:= .type "list",data:= .seq ([]:List J0).toArray}).get? a=on o:=JV _ U;have C:(s.heap.push {cls:= .type "list",data:= .seq ([]:List J0).toArray}).get? s.heap.objs.size=on {cls:= .type "list",data:= .seq ([]:List J0).toArray}:=Kf _ rfl;have r:s.heap.objs.size≠a:=Mz ha;have y:Nm (.ref s.heap.objs.size) (.ref a)=JZ:=by simp[Nm,r]
 have H:(⟨s.heap.push {cls:= .type "list",data:= .seq ([]:List J0).toArray},s.gens,s.drawn,s.toks,s.os⟩:J4).TypeIs (.ref a) "set":=⟨o,g,B⟩;show Ke _ A.in1 (MW (.ref s.heap.objs.size) (.ref a) (.ref s.heap.objs.size)) _ _ _;unfold MW;refine JR (On H ?_);rw[J6 (by rw[y];decide)];refine JR (zC g B hd X Y ?_);refine JR (Ln ?_);unfold P9;have n:(⟨(s.heap.push {cls:= .type "list",data:= .seq ([]:List J0).toArray}).push {cls:= .type "set_iterator",data:= .fields #[.int (0:Nat) 0,.int (0:Nat) 0,.ref a,.int es.size 0,.int ep 0]},s.gens,s.drawn,s.toks,s.os⟩:J4).TypeIs (.ref a) "set":=⟨o,JV _ g,B⟩;refine JR (MR n F.slot_set_len.lookup ?_)
 (generalize u:("set.__len__":String)=id0;wp_delta;rw[show splitId id0=on ("set","__len__")from by subst u;decide +kernel];subst u)
 refine JR (L8 (b:=JW) n (by rw[Oj];kernel_rfl) ?_);rw[J6 (by decide)];show Ke _ _ (if _ then _ else _) _ _ _;rw[J8 (by decide)];refine JR (On n ?_);refine JU ?_;rw[J8 (by decide)];refine JR (M0 ?_);have eI:(s.heap.push {cls:= .type "list",data:= .seq ([]:List J0).toArray}).objs.size=s.heap.objs.size+1:=by rw[size_push']
 generalize h:(s.heap.push {cls:= .type "list",data:= .seq ([]:List J0).toArray}).push {cls:= .type "set_iterator",data:= .fields #[.int (0:Nat) 0,.int (0:Nat) 0,.ref a,.int es.size 0,.int ep 0]}=d;have gS:d.get? s.heap.objs.size=on (Mt "list" #[] 0):=by rw[<-h];exact JV _ C
 have gI:d.get? (s.heap.objs.size+1)=on {cls:= .type "set_iterator",data:= .fields #[.int (0:Nat) 0,.int (0:Nat) 0,.ref a,.int es.size 0,.int ep 0]}:=by rw[<-h,<-eI];exact Kf _ rfl
 have ga:d.get? a=on o:=by rw[<-h];exact JV _ g
 have p:∀b f,s.heap.get? b=on f->d.get? b=on f:=λb f e=>by rw[<-h];exact JV _ (JV _ e)
 unfold Qw;refine JR (JR (NZ gS rfl ?_ (by show 0<=_;omega) (by show 1<=_;omega)));obtain⟨e1,g1⟩:∃e1,(d.update s.heap.objs.size (Lo λxs=>xs.push KZ)).get? s.heap.objs.size=on (Mt "list" #[KZ] e1):=⟨_,get?_update_seq gS λxs=>xs.push KZ⟩;refine NZ g1 rfl ?_ (by show 1<=Ki;decide) (by show 0<=_;omega);obtain⟨J,g2⟩:∃J,((d.update s.heap.objs.size (Lo λxs=>xs.push KZ)).update s.heap.objs.size (Lo λxs=>xs.pop)).get? s.heap.objs.size=on (Mt "list" #[] J):=⟨_,get?_update_seq g1 λxs=>xs.pop⟩;have c:∀b f,b≠s.heap.objs.size->d.get? b=on f->((d.update s.heap.objs.size (Lo λxs=>xs.push KZ)).update s.heap.objs.size (Lo λxs=>xs.pop)).get? b=on f:=λb f q e=>by
  rw[Mb _ _ _ _ q,Mb _ _ _ _ q];exact e
 generalize (d.update s.heap.objs.size (Lo λxs=>xs.push KZ)).update s.heap.objs.size (Lo λxs=>xs.pop)=h4 at g2 c;have L:s.heap.objs.size+1≠a:=Mz (Nn ha);have st:L4 w h4 (s.heap.objs.size+1) a es ep t 0:=⟨⟨o,c a o (Ne.symm r) ga,hd⟩,_,0,c _ _ (by omega) gI,rfl,rfl,λ_=>by
  have:=hZ (j:=0) T.rs;rcases Nat.eq_zero_or_pos (below t.place 0)with z|z
  .exact z
  .have e:=getElem?_pos t.place 0 (by omega)
   have:=this.2.1 0 _ z e;omega⟩
 have W:=yF (prog:=prog) (w:=w) (A:=A.in1) (I:=s.heap.objs.size+1) (a:=a) (ep:=ep) hh T X Y hl L;show Ke _ _ (Qy _) _ _ _;rw[eI];refine JU ⟨Qz F.plain_extend_loop _,codeAny_extend_loopS W.toS (by rw[LZ];omega) s.heap.objs.size (by simp;omega) _ es.size 0 _ #[] J rfl (Lq _) st g2 (ItemsOf.nil _) λs' k c' hm v m=>?_⟩;show Ke _ A (load s.heap.objs.size>>=_) _ _ s';refine JR (wpAny_load v ?_);refine JU ?_;have N:s'={s with heap:=s'.heap,toks:=s'.toks}:=by
  have y:=hm.gens;have d:=hm.drawn;have h3:=hm.os;obtain⟨a1,a2,a3,a4,a5⟩:=s';simp only at y d h3;subst y d h3;rfl
 rw[N];refine hQ _ _ _ (λb f e=>?_) (N4 (Kr v)) hm.toks ?_
 .have q:=Kr e
  exact hm.heap b f (by simp only[Kk,Ly,NS,Tw];exact⟨K7 q,K7 (Nn q)⟩) (c b f (K7 q) (p b f e))
 .refine List.Perm.trans (Qj ?_) ((jt w a ep es).map (·.2))
  have O:(dn w a ep es).size=es.size:=by rw[<-KG,(jt w a ep es).length_eq,KG]
  refine NC (by rw[KG,JS,KG,O,m.1]) λi q1 q2=>?_;have R:i<k.size:=by simpa using q1
  obtain⟨e,he,hv⟩:=m.2 i _ (getElem?_pos k i R);rw[MJ,hv,ND,MJ];have:=K4.mp he;obtain⟨z1,z2⟩:=this;rw[z2]
end
end L2.Hs
namespace L2.Hs
open PySem PySem.W PyProof.Rows
section
variable{α β:Type}{lt:Nat->Nat->Bool}{n:Nat}
def Rn(lt:Nat->Nat->Bool)(n:Nat):KasT α->(α->Prop)->Prop
 | .ret a,Φ=>Φ a
 | .ask i j k,Φ=>i<n/\j<n/\Rn lt n (k (lt i j)) Φ
theorem Rn.bind{Φ:β->Prop}:∀{t:KasT α},Rn lt n t (λa=>Rn lt n (f a) Φ)->Rn lt n (t.bind f) Φ
 | .ret a,h=>h
 | .ask i j k,⟨h1,h2,h3⟩=>⟨h1,h2,Rn.bind h3⟩
theorem Rn.mono{Φ Ψ:α->Prop}(b:∀a,Φ a->Ψ a):∀{t:KasT α},Rn lt n t Φ->Rn lt n t Ψ
 | .ret a,h=>b a h
 | .ask i j k,⟨h1,h2,h3⟩=>⟨h1,h2,Rn.mono b h3⟩
theorem Rn.wp{Φ:α->Prop}(b:∀i j,i<n->j<n->∀C:Bool->J4->Prop,C (lt i j) s->cmp i j C s)(c:∀a,Φ a->Q a s):∀{t:KasT α},Rn lt n t Φ->t.kasWp cmp Q s
 | .ret a,h=>c a h
 | .ask i j k,⟨h1,h2,h3⟩=>b i j h1 h2 _ (Rn.wp b c h3)
end
section
variable{rk:Nat->Nat}{n:Nat}
noncomputable abbrev ra(rk:Nat->Nat)(i j:Nat):Bool:=decide (rk i<rk j)
noncomputable abbrev ky(rk:Nat->Nat)(p:Array Nat)(i:Nat):Nat:=rk (p.getD i 0)
structure Pm (rk:Nat->Nat) (n:Nat) (p:Array Nat):Prop where
 perm:p.toList.Perm (Ka n)
 inj:∀i j,i<n->j<n->rk i=rk j->i=j
theorem Pm.sz{p:Array Nat}(h:Pm rk n p):p.size=n:=by have:=h.perm.length_eq;simpa using this
theorem Pm.lt{p:Array Nat}(h:Pm rk n p)(a:i<n):p.getD i 0<n:=by
 have hs:=h.sz;have e:p.getD i 0=p[i]:=by simp[MP,show i<p.size by omega]
 rw[e];exact Kw.mp (h.perm.mem_iff.mp (by simp))
theorem Pm.ne(h:Pm rk n p)(a:i<j)(b:j<n):ky rk p i≠ky rk p j:=λz=>by
 have hs:=h.sz;have:=h.inj _ _ (h.lt (show i<n by omega)) (h.lt b) z;have nd:p.toList.Nodup:=h.perm.nodup_iff.mpr List.nodup_range;have c:p.getD i 0=p.toList[i]'(by simp;omega):=by simp[MP,show i<p.size by omega]
 have d:p.getD j 0=p.toList[j]'(by simp;omega):=by simp[MP,show j<p.size by omega]
 rw[c,d]at this;exact Kx this (MH.mp nd i j (by simp;omega) (by simp;omega) a)
theorem Pm.of{p q:Array Nat}(h:Pm rk n p)(a:q.Perm p):Pm rk n q:=⟨(Array.perm_iff_toList_perm.mp a).trans h.perm,h.inj⟩
def So(rk:Nat->Nat)(p:Array Nat)(k:Nat):Prop:=∀i j,i<j->j<k->ky rk p i<ky rk p j
def De(rk:Nat->Nat)(p:Array Nat)(k:Nat):Prop:=∀i j,i<j->j<k->ky rk p j<ky rk p i
theorem So.succ(h:So rk p k)(c:1<=k)(b:ky rk p (k-1)<ky rk p k):So rk p (k+1):=λi j a d=>by
 by_cases q:j=k
 .subst q
  by_cases z:i=j-1
  .subst z;exact b
  .exact OG (h i (j-1) (by omega) (by omega)) b
 .exact h i j a (by omega)
theorem De.succ(h:De rk p k)(c:1<=k)(b:ky rk p k<ky rk p (k-1)):De rk p (k+1):=λi j a d=>by
 by_cases q:j=k
 .subst q
  by_cases z:i=j-1
  .subst z;exact b
  .exact OG b (h i (j-1) (by omega) (by omega))
 .exact h i j a (by omega)
theorem sI(P:Pm rk n p):∀(f k:Nat),1<=k->k+f<=n->So rk p k->Rn (ra rk) n (kas_asc p f k) λm=>k<=m/\m<=k+f/\So rk p m/\(m=k+f\/ky rk p m<ky rk p (m-1))
 |0,k,_,_,h=>⟨J3 k,J3 _,h,.inl rfl⟩
 |f+1,k,h1,h2,h=>by
  refine⟨P.lt (by omega),P.lt (by omega),?_⟩;by_cases q:ky rk p k<ky rk p (k-1)
  .rw[show ra rk (p.getD k 0) (p.getD (k-1) 0)=JW from Km q];dsimp only;rw[J8 rfl]
   exact⟨J3 k,by omega,h,.inr q⟩
  .rw[show ra rk (p.getD k 0) (p.getD (k-1) 0)=JZ from K0 q];dsimp only;rw[J6 J7]
   have:=P.ne (show k-1<k by omega) (show k<n by omega);refine Rn.mono (λm hm=>?_) (sI P f (k+1) (by omega) (by omega) (h.succ h1 (by omega)));exact⟨by omega,by omega,hm.2.2.1,by rcases hm.2.2.2 with z|z;exact .inl (by omega);exact .inr z⟩
theorem uo(P:Pm rk n p):∀(f k:Nat),1<=k->k+f<=n->De rk p k->Rn (ra rk) n (kas_desc f p k 0) λr=>r.1=p/\r.2.2=0/\k<=r.2.1/\r.2.1<=k+f/\De rk p r.2.1
 |0,k,_,_,h=>⟨rfl,rfl,J3 k,J3 _,h⟩
 |f+1,k,h1,h2,h=>by
  refine⟨P.lt (by omega),P.lt (by omega),?_⟩;by_cases q:ky rk p k<ky rk p (k-1)
  .rw[show ra rk (p.getD k 0) (p.getD (k-1) 0)=JW from Km q];dsimp only;rw[J8 rfl,J6 (Lc 0)]
   refine Rn.mono (λm hm=>?_) (uo P f (k+1) (by omega) (by omega) (h.succ h1 q));exact⟨hm.1,hm.2.1,by have:=hm.2.2.1;omega,by have:=hm.2.2.2.1;omega,hm.2.2.2.2⟩
  .rw[show ra rk (p.getD k 0) (p.getD (k-1) 0)=JZ from K0 q];dsimp only;rw[J6 J7]
   have:=P.ne (show k-1<k by omega) (show k<n by omega);refine⟨P.lt (by omega),P.lt (by omega),?_⟩;rw[show ra rk (p.getD (k-1) 0) (p.getD k 0)=JW from Km (show ky rk p (k-1)<ky rk p k by omega)];dsimp only;rw[J8 rfl];exact⟨rfl,rfl,J3 k,by show k<=_;omega,h⟩
theorem ue{p q:Array Nat}(h:p[i]?=q[j]?):p.getD i 0=q.getD j 0:=by
 have a:∀(r:Array Nat) (x:Nat),r.getD x 0=(r[x]?).getD 0:=λr x=>by
  by_cases b:x<r.size
  .simp[MP,b]
  .simp[MP,b]
 rw[a,a,h]
theorem GM{p:Array Nat}(a:k<=p.size)(h:De rk p k):So rk (kas_rev p 0 k) k:=λi j b c=>by
 have g:∀x,x<k->(kas_rev p 0 k).getD x 0=p.getD (k-1-x) 0:=λx d=>by
  refine ue ?_;unfold kas_rev;rw[getElem?_mirror_all a,J8 (by omega)];congr 1;omega
 show rk _<rk _;rw[g i (by omega),g j c];exact h (k-1-j) (k-1-i) (by omega) (by omega)
theorem yL(P:Pm rk n p)(b:1<=k)(c:k<=n)(h:De rk p k):Rn (ra rk) n (kas_tail3 k n p) λr=>Pm rk n r.2/\1<=r.1/\r.1<=n/\So rk r.2 r.1:=by
 have a:Pm rk n (kas_rev p 0 k):=P.of (mirror_perm _ _ _ _);unfold kas_tail3;refine Rn.bind (Rn.mono (λm hm=>?_) (sI a (n-k) k b (by omega) (GM (by rw[P.sz];exact c) h)));exact⟨a,by omega,by omega,hm.2.2.1⟩
theorem zP(P:Pm rk n p)(d:1<=n):Rn (ra rk) n (kas_count n p) λr=>Pm rk n r.2/\1<=r.1/\r.1<=n/\So rk r.2 r.1:=by
 unfold kas_count;refine Rn.bind (Rn.mono (λm hm=>?_) (sI P (n-1) 1 (J3 1) (by omega) λi j a b=>by omega));obtain⟨a1,a2,a3,a4⟩:=hm;by_cases q:m=n
 .rw[J8 (by rw[Nj];exact q)]
  exact⟨P,by omega,by omega,a3⟩
 .rw[J6 (by rw[Nj];exact q)]
  have hd:ky rk p m<ky rk p (m-1):=by
   rcases a4 with z|z
   .omega
   .exact z
  by_cases q1:m>1
  .rw[J8 q1]
   refine⟨P.lt (by omega),P.lt (by omega),?_⟩;rw[show ra rk (p.getD 0 0) (p.getD (m-1) 0)=JW from Km (a3 0 (m-1) (by omega) (by omega))];dsimp only;rw[J8 rfl];exact⟨P,by omega,by omega,a3⟩
  .rw[J6 q1]
   obtain rfl:m=1:=by omega
   unfold kas_descPart;refine Rn.bind (Rn.mono (λr c=>?_) (uo P (n-(1+1)) (1+1) (by omega) (by omega) λi j a b=>by
    obtain rfl:j=1:=by omega
    obtain rfl:i=0:=by omega
    exact hd))
   obtain⟨rfl,b2,b3,b4,b5⟩:=c;rw[J6 (by omega)];exact yL P (by omega) (by omega) b5
theorem lU(P:Pm rk n p)(a:k<n):∀(f l r:Nat),l<=r->r<=k->r-l<=f->(∀i,i<l->ky rk p i<ky rk p k)->(∀i,r<=i->i<k->ky rk p k<ky rk p i)->So rk p k->
  Rn (ra rk) n (kas_place p k f l r) λm=>m<=k/\(∀i,i<m->ky rk p i<ky rk p k)/\∀i,m<=i->i<k->ky rk p k<ky rk p i
 |0,l,r,h1,h2,h3,ha,hb,_=>by
  obtain rfl:l=r:=by omega
  exact⟨h2,ha,hb⟩
 |f+1,l,r,h1,h2,h3,ha,hb,so=>by
  unfold kas_place;by_cases q:l≥r
  .rw[J8 q]
   obtain rfl:l=r:=by omega
   exact⟨h2,ha,hb⟩
  .rw[J6 q]
   refine⟨P.lt (by omega),P.lt (by omega),?_⟩;by_cases z:ky rk p k<ky rk p ((l+r)/2)
   .rw[show ra rk (p.getD k 0) (p.getD ((l+r)/2) 0)=JW from Km z];dsimp only;rw[J8 rfl]
    refine lU P a f l ((l+r)/2) (by omega) (by omega) (by omega) ha (λi c b=>?_) so;by_cases w:i=(l+r)/2
    .subst w;exact z
    .exact OG z (so _ i (by omega) b)
   .rw[show ra rk (p.getD k 0) (p.getD ((l+r)/2) 0)=JZ from K0 z];dsimp only;rw[J6 J7]
    have d:=P.ne (show(l+r)/2<k by omega) a;refine lU P a f ((l+r)/2+1) r (by omega) h2 (by omega) (λi c=>?_) hb so;by_cases w:i=(l+r)/2
    .subst w;omega
    .exact OG (so i ((l+r)/2) (by omega) (by omega)) (by omega)
theorem yw:∀(f:Nat) {p:Array Nat} {k:Nat},Pm rk n p->k+f=n->So rk p k->Rn (ra rk) n (kas_bin f p k) λp'=>Pm rk n p'/\So rk p' n
 |0,p,k,P,hk,so=>⟨P,by rw[<-hk];exact so⟩
 |f+1,p,k,P,hk,so=>by
  unfold kas_bin;refine Rn.bind (Rn.mono (λm hm=>?_) (lU P (by omega) k 0 k (Lq _) (J3 _) (by omega) (λi e=>Kx e (Ms i)) (λi h b=>by omega) so));obtain⟨h,b,l⟩:=hm;have o:Pm rk n (bubble p k (k-m)):=P.of (bubble_perm _ _ _);refine yw f o (by omega) λi j a r=>?_;have ks:k<p.size:=by rw[P.sz];omega
  have g:∀x:Nat,(bubble p k (k-m)).getD x 0=p.getD (if x=m then k else if m<x/\x<=k then x-1 else x) 0:=λx=>by
   refine ue ?_;rw[getElem?_bubble ks (k-m) (by omega)];by_cases q:x=m
   .rw[J8 (by omega),J8 q]
   .rw[J6 (by omega),J6 q]
    by_cases q2:m<x/\x<=k
    .rw[J8 (by omega),J8 q2]
    .rw[J6 (by omega),J6 q2]
  show rk _<rk _;rw[g i,g j];by_cases q1:i=m
  .rw[J8 q1,J6 (by omega),J8 (by omega)]
   exact l (j-1) (by omega) (by omega)
  .rw[J6 q1]
   by_cases q2:j=m
   .rw[J8 q2,J6 (by omega)]
    exact b i (by omega)
   .rw[J6 q2]
    by_cases c:m<i/\i<=k
    .rw[J8 c,J8 (by omega)]
     exact so (i-1) (j-1) (by omega) (by omega)
    .rw[J6 c]
     by_cases d:m<j/\j<=k
     .rw[J8 d]
      exact so i (j-1) (by omega) (by omega)
     .rw[J6 d]
      exact so i j a (by omega)
theorem DU(a:1<=n)(inj:∀i j,i<n->j<n->rk i=rk j->i=j):Rn (ra rk) n (kas_sort n) λp=>Pm rk n p/\So rk p n:=by
 unfold kas_sort;have P:Pm rk n (List.toArray (Ka n)):=⟨.refl _,inj⟩;refine Rn.bind (Rn.mono (λr b=>?_) (zP P a));obtain⟨a1,a2,a3,a4⟩:=b;by_cases q:r.1<n
 .rw[J8 q,Nat.max_eq_left a2]
  exact yw _ a1 (by omega) a4
 .rw[J6 q]
  obtain rfl:r.1=n:=by omega
  exact⟨a1,a4⟩
noncomputable def bE:List Int->List Int->Bool
 |[],[]=>JZ
 |[],_::_=>JW
 |_::_,[]=>JZ
 |a::as,b::bs=>if a=b then bE as bs else decide (a<b)
theorem fU:∀x,bE x x=JZ
 |[]=>rfl
 |a::as=>by unfold bE;rw[J8 rfl];exact fU as
theorem m6:∀{x y z},bE x y=JW->bE y z=JW->bE x z=JW
 |[],[],_,h,_=>by cases h
 |[],_::_,[],_,h=>by cases h
 |[],_::_,_::_,_,_=>rfl
 |_::_,[],_,h,_=>by cases h
 |_::_,_::_,[],_,h=>by cases h
 |a::as,b::bs,c::cs,h1,h2=>by
  unfold bE at h1 h2⊢;by_cases q1:a=b
  .rw[J8 q1]at h1
   by_cases q2:b=c
   .rw[J8 q2]at h2
    rw[J8 (q1.trans q2)];exact m6 h1 h2
   .rw[J6 q2]at h2
    rw[J6 (by rw[q1];exact q2),q1];exact h2
  .rw[J6 q1]at h1
   have d:=Mp h1;by_cases q2:b=c
   .rw[J6 (by rw[<-q2];exact q1),<-q2];exact h1
   .rw[J6 q2]at h2
    have e:=Mp h2;rw[J6 (by omega)];exact Km (by omega)
theorem k6:∀{x y},bE x y=JZ->bE y x=JZ->x=y
 |[],[],_,_=>rfl
 |[],_::_,h,_=>by cases h
 |_::_,[],_,h=>by cases h
 |a::as,b::bs,h1,h2=>by
  unfold bE at h1 h2;by_cases q:a=b
  .rw[J8 q]at h1
   rw[J8 q.symm]at h2;rw[q,k6 h1 h2]
  .rw[J6 q]at h1
   rw[J6 (Ne.symm q)]at h2;have:=of_decide_eq_false h1;have:=of_decide_eq_false h2;omega
theorem sB:∀{L:List Nat},(∀l∈L,p l=JW->q l=JW)->∀{i},i∈L->p i=JZ->q i=JW->L.countP p<L.countP q
 |[],_,i,h,_,_=>by cases h
 |a::L,hpq,i,hi,h1,h2=>by
  have le:L.countP p<=L.countP q:=List.countP_mono_left λl b=>hpq l (J1 a b);rcases Kk.mp hi with rfl|hi
  .rw[List.countP_cons_of_neg (by rw[h1];exact J7),List.countP_cons_of_pos h2]
   omega
  .have ih:=sB (λl b=>hpq l (J1 a b)) hi h1 h2
   rw[List.countP_cons,List.countP_cons];have:(if p a=JW then 1 else 0)<=(if q a=JW then 1 else 0):=by
    by_cases z:p a=JW
    .rw[J8 z,J8 (hpq a J2 z)];exact J3 1
    .rw[J6 z];exact Lq _
   omega
def gu(ks:LI)(i:Nat):Nat:=(Ka ks.length).countP λj=>bE (ks.getD j []) (ks.getD i [])
theorem pZ{ks:LI}(a:i<ks.length)(h:bE (ks.getD i []) (ks.getD j [])=JW):gu ks i<gu ks j:=
 sB (λl _ b=>m6 b h) (Kw.mpr a) (fU _) h
theorem wZ{ks:LI}(b:i<ks.length)(c:j<ks.length):decide (gu ks i<gu ks j)=bE (ks.getD i []) (ks.getD j []):=by
 cases h:bE (ks.getD i []) (ks.getD j [])with
 |true=>exact Km (pZ b h)
 |false=>
  refine K0 λz=>?_;cases a:bE (ks.getD j []) (ks.getD i [])with
  |true=>have:=pZ c a;omega
  |false=>
   have e:=k6 h a;unfold gu at z;rw[e]at z;exact Lc _ z
theorem GK{ks:LI}(nd:ks.Nodup)(a:i<ks.length)(b:j<ks.length)(h:gu ks i=gu ks j):i=j:=by
 have e:ks.getD i []=ks.getD j []:=by
  refine k6 ?_ ?_
  .cases z:bE (ks.getD i []) (ks.getD j [])with
   |false=>rfl
   |true=>have:=pZ a z;omega
  .cases z:bE (ks.getD j []) (ks.getD i [])with
   |false=>rfl
   |true=>have:=pZ b z;omega
 rw[Kd,Kd,JX a,JX b]at e;have c:ks[i]=ks[j]:=e;rcases No i j with z|z|z
 .exact Kx c (MH.mp nd i j a b z)
 .exact z
 .exact Kx c.symm (MH.mp nd j i b a z)
abbrev Up(l:LI):Prop:=l.Pairwise λa b=>bE a b=JW
theorem kN:∀{l m:LI},Up l->Up m->(∀x,x∈l↔x∈m)->l=m
 |[],[],_,_,_=>rfl
 |[],b::m,_,_,h=>by have:=(h b).mpr J2;cases this
 |a::l,[],_,_,h=>by have:=(h a).mp J2;cases this
 |a::l,b::m,h1,h2,h=>by
  obtain⟨d,f⟩:=NU.mp h1;obtain⟨q1,q2⟩:=NU.mp h2;have e:a=b:=by
   rcases Kk.mp ((h a).mp J2)with z|z
   .exact z
   .rcases Kk.mp ((h b).mpr J2)with w|w
    .exact w.symm
    .have:=m6 (q1 a z) (d b w)
     rw[fU]at this;cases this
  subst e;congr 1;refine kN f q2 λx=>⟨λc=>?_,λc=>?_⟩
  .rcases Kk.mp ((h x).mp (J1 a c))with rfl|z
   .have:=d x c;rw[fU]at this;cases this
   .exact z
  .rcases Kk.mp ((h x).mpr (J1 a c))with rfl|z
   .have:=q1 x c;rw[fU]at this;cases this
   .exact z
variable{prog:KF}{w:K1}{A:Lf}{E:J0->J4->Prop}{s:J4}
theorem tU{b:Bool}:∀{xs ys:List Int} {us vs:List J0} (i:Nat),ItemsAre (Ps prog w) xs us->ItemsAre (Ps prog w) ys vs->∀n m:Nat,(decide (n+us.length<m+vs.length)=decide (xs.length<ys.length))->Q (bE xs ys) s->KatLex prog w A JW (decide (n+us.length<m+vs.length)) Q (us.zip vs) i s
 |[],ys,us,vs,i,hx,hy,n,m,e,q=>by
  cases hx;cases hy with
  |nil=>rw[O5];exact kat_nil (by rw[e];exact q)
  |cons c d=>rw[O5];exact kat_nil (by rw[e];exact q)
 |x::xs,ys,us,vs,i,hx,hy,n,m,e,q=>by
  cases hx with
  |@cons _ u _ us' c d=>
   cases hy with
   |nil=>rw[SY];exact kat_nil (by rw[e];exact q)
   |@cons y v ys' vs' h3 h4=>
    obtain⟨g,rfl⟩:=OZ c;obtain⟨h,rfl⟩:=OZ h3;rw[MD];refine kat_cons (wpAny_eqBool_int ?_);unfold bE at q;by_cases z:x=y
    .rw[J8 z]at q
     rw[show(x==y)=JW by rw[Nj];exact z];refine kat_yes ?_;have f:∀k l:Nat,decide (k+(us'.length+1)<l+(vs'.length+1))=decide (k+1+us'.length<l+1+vs'.length):=λk l=>decide_eq_decide.mpr (by omega);rw[Kq,Kq,f];refine tU (b:=b) (i+1) d h4 (n+1) (m+1) ?_ q;rw[<-f,<-Kq (a:=NV x g),<-Kq (a:=NV y h),e,Kq,Kq];exact decide_eq_decide.mpr (by omega)
    .rw[J6 z]at q
     rw[show(x==y)=JZ by rw[PP];exact z];refine kat_no ?_;cases j:(JW&&i==0)with
     |true=>exact oneLt_int q
     |false=>exact kat_one _ _ (lt_int (show PySem.W.BoolBack Q (.bool _) s from q))
theorem xG(i:(hO prog w).is s.heap xs x)(j:(hO prog w).is s.heap ys y)(h:Q (bE xs ys) s):Ke (Ky prog w) A (keyLt' (Tz JW) (.ref x) (.ref y)) Q E s:=by
 obtain⟨m,o,p,d,k,e,a⟩:=i;obtain⟨o2,q,r,f,l,g,c⟩:=j;refine kat_lt d e f g ?_;have:=tU (A:=A) (b:=JW) (Q:=Q) (s:=s) 0 a c 0 0 (by rw[MA,MA,a.length,c.length]) h;rw[MA,MA,KG,KG]at this;exact this
structure Ue (prog:KF) (w:K1) (A:Lf) (is:Lj->List Int->JY->Prop):Prop where
 fr:∀{h h':Lj} {k:List Int} {x:JY},is h k x->(∀b o,o.cls= .type "tuple"->h.get? b=on o->h'.get? b=on o)->is h' k x
 tup:∀{h:Lj} {k:List Int} {x:JY},is h k x->∃o its n i t,h.get? x=on o/\o.cls= .type "tuple"/\o.data= .seq its n/\its[0]?=on (.int i t)
 lt:∀{E:J0->J4->Prop} {s:J4} {Q:Bool->J4->Prop} {x y:JY} {xs ys:List Int},is s.heap xs x->is s.heap ys y->Q (bE xs ys) s->Ke (Ky prog w) A (keyLt' (Tz JW) (.ref x) (.ref y)) Q E s
theorem sS(S:Ue prog w A is):∀{ks:List (List Int×JY)},(∀k∈ks,is s.heap k.1 k.2)->∃fs:List J0,KatTups s.heap (ks.map λk=>Ko k.2) fs/\fs.length=ks.length/\∀v∈fs,∃n t,v=NV n t
 |[],_=>⟨[],trivial,rfl,λv hv=>by cases hv⟩
 |k::ks,h=>by
  obtain⟨fs,a,b,c⟩:=sS S λd f=>h d (J1 k f);obtain⟨o,its,n,i,t,g,j,hd,e⟩:=S.tup (h k J2);refine⟨_::fs,KatTups.cons g j hd e a,by rw[Kq,Kq,b],λv hv=>?_⟩;rcases Kk.mp hv with rfl|hv
  .exact⟨i,t,rfl⟩
  .exact c v hv
abbrev Xj(prog:KF)(w:K1)(h:Lj)(k:List Int)(x:JY):Prop:=(hO prog w).is h k x/\1<=k.length
theorem uU:Ue prog w A (Xj prog w) where
 fr:=λ⟨⟨o,its,n,d,b,f,c⟩,l⟩ k=>⟨⟨o,its,n,k _ _ b d,b,f,c⟩,l⟩
 tup:=λ⟨⟨o,its,n,d,b,f,c⟩,l⟩=>by
  have a:=c.length;have g:0<its.size:=by rw[<-KG,<-a];omega
  obtain⟨i,t,e⟩:=items_int c its[0] (by rw[<-MJ];exact K5 _);exact⟨o,its,n,i,t,d,b,f,by rw[getElem?_pos its 0 g,e]⟩
 lt:=λj m h=>xG j.1 m.1 h
theorem o8(S:Ue prog w A is){ks:List (List Int×JY)}{n:Nat}{P:Pg->J4->Prop}(L:s.heap.get? a=on (Mt "list" (ks.map λk=>Ko k.2).toArray n))(hk:∀k∈ks,is s.heap k.1 k.2)(nd:(ks.map (·.1)).Nodup)(h64:ks.length<64)
  (h:∀(h':Lj) (l:List (List Int×JY)) (n':Nat),l.Perm ks->Up (l.map (·.1))->h'.get? a=on (Mt "list" (l.map λk=>Ko k.2).toArray n')->(∀b o,b≠a->s.heap.get? b=on o->h'.get? b=on o)->P (.done (.ret .none)) {s with heap:=h'}):
  Ke (Ky prog w) A (Builtin.«list.sort» ⟨[.ref a],[]⟩) P E s:=by
 have ha:a<s.heap.objs.size:=Kr L;rw[list_sort_plain];refine JR (listItems_at L rfl ?_);refine JR (NZ L rfl ?_ (by simp[LZ];omega) (by simp));obtain⟨B,N⟩:∃B,(s.heap.update a (Lo λ_=>#[])).get? a=on (Mt "list" #[] B):=⟨_,get?_update_seq L (λ_=>#[])⟩;refine JR (seqEpoch_at N rfl ?_);refine JR (R8 ?_ (by simp[LZ];omega));refine JR (SN ?_ (Lq _));refine Ln ?_;generalize m:(ks.map λk=>Ko k.2)=vs at*;have q:vs.length=ks.length:=by rw[<-m,JS]
 have d:(((s.heap.update a (Lo λ_=>#[])).push (Mt "tuple" vs.toArray 0)).push (Mt "list" #[] 0)).get? a=on (Mt "list" #[] B):=by
  rw[Ti _ _ _ (by rw[size_push',Heap.size_update];exact K7 (Nn ha)),Ti _ _ _ (by rw[Heap.size_update];exact K7 ha)];exact N
 have keep:∀b o,b≠a->s.heap.get? b=on o->(((s.heap.update a (Lo λ_=>#[])).push (Mt "tuple" vs.toArray 0)).push (Mt "list" #[] 0)).get? b=on o:=λb o F e=>by
  refine JV _ (JV _ ?_);rw[Mb _ _ _ _ F];exact e
 show Ke (Ky prog w) A _ P E {s with heap:=((s.heap.update a (Lo λ_=>#[])).push (Mt "tuple" vs.toArray 0)).push (Mt "list" #[] 0)};generalize hh6:((s.heap.update a (Lo λ_=>#[])).push (Mt "tuple" vs.toArray 0)).push (Mt "list" #[] 0)=h6 at d keep
 dsimp only
 have O:∀(l:List (List Int×JY)) (u:Array J0),l.Perm ks->Up (l.map (·.1))->u=(l.map λk=>Ko k.2).toArray->P (.done (.ret .none)) {s with heap:=h6.update a (Lo λ_=>u)}:=λl u p1 p2 e=>by
  refine h _ l _ p1 p2 (by rw[<-e];exact get?_update_seq d λ_=>u) λb o F W=>?_;rw[Mb _ _ _ _ F];exact keep b o F W
 by_cases I:vs.toArray.size<2
 .rw[J8 I,J8 I]
  refine JR (JU ?_);rw[StateT.run_pure];refine JR (JU ?_)
  dsimp only
  refine JR (seqEpoch_at d rfl ?_);have X:((arrOf (SortSt.mk' general' (vs.toArray.zip vs.toArray) #[] 7 JT)).map (·.2))=vs.toArray:=by
   show(vs.toArray.zip vs.toArray).map (·.2)=_;apply Array.toList_inj.mp;rw[Array.toList_map,Array.toList_zip];exact List.map_snd_zip (J3 _)
  rw[X];refine JR (NZ d rfl ?_ (by simp) (by simp[LZ];omega));simp only[Nf,Kn,Lb];refine JU (O ks _ (.refl _) ?_ (by rw[m]));have Y:ks.length<2:=by rw[<-q];simpa using I
  match ks,Y with
  |[],_=>exact Py
  |[k],_=>exact MV _ _
  |_::_::_,Y=>simp at Y;omega
 .rw[J6 I,J6 I]
  have h2':2<=ks.length:=by rw[<-q];simp at I;omega
  have H:∀k∈ks,is h6 k.1 k.2:=λk Z=>S.fr (hk k Z) λb o hc F=>keep b o (λz=>by
   subst z;rw[L]at F;cases F;exact Kx (M1.inj hc) (by decide)) F
  obtain⟨fs,t1,t2,t3⟩:=sS S (s:={s with heap:=h6}) H;rw[m]at t1;refine JR (kat_kind (T:= .type "int") t1 (by omega) (λv hv=>?_) rfl ?_)
  .obtain⟨x,t,rfl⟩:=t3 v hv
   exact Looks.of_pure rfl
  show Ke _ _ (StateT.run sortRuns' (SortSt.mk' (Tz JW) (vs.toArray.zip vs.toArray) #[] 7 JT)>>=_) _ _ _;have J:(ks.map (·.1)).length=vs.length:=by rw[JS,q]
  have at_:∀i,i<vs.length->∃k∈ks,vs.getD i KZ= .ref k.2/\(ks.map (·.1)).getD i []=k.1/\ks[i]?=on k:=λi c=>by
   have f:i<ks.length:=by omega
   refine⟨ks[i],K5 f,?_,?_,JX f⟩
   .rw[<-m,Kd,J9,JX f];rfl
   .rw[Kd,J9,JX f];rfl
  refine JR (Ld (kat_run (κ:=Tz JW) (ks:=vs) (vs:=vs) (Q:=λg s'=>s'={s with heap:=h6}/\failedOf g=JT/\∃p:Array Nat,Pm (gu (ks.map (·.1))) vs.length p/\So (gu (ks.map (·.1))) p vs.length/\arrOf g=p.map (kas_item (vs.toArray.zip vs.toArray)))
   (G:=λp s'=>s'={s with heap:=h6}/\Pm (gu (ks.map (·.1))) vs.length p/\So (gu (ks.map (·.1))) p vs.length) rfl (by omega) (by omega) (λp g s' a1 a2 a3 a4=>⟨a4.1,a3,p,a4.2.1,a4.2.2,a2⟩)
   (Rn.wp (lt:=ra (gu (ks.map (·.1)))) (n:=vs.length) (λi j c y C hC=>?_) (λp hp=>⟨rfl,hp⟩) (DU (by omega) λi j c y hr=>GK nd (by rw[J];exact c) (by rw[J];exact y) hr))) (λr s' hr=>?_) λ_ _ e=>e)
  .obtain⟨k1,m1,B,f1,_⟩:=at_ i c
   obtain⟨k2,m2,e2,f2,_⟩:=at_ j y;unfold kas_ask;rw[B,e2];refine S.lt (H k1 m1) (H k2 m2) ?_;have:=wZ (ks:=ks.map (·.1)) (i:=i) (j:=j) (by rw[J];exact c) (by rw[J];exact y);rw[f1,f2]at this;rw[<-this];exact hC
  .obtain⟨⟨⟩,g⟩:=r
   obtain⟨rfl,hf,p,P1,so,har⟩:=hr
   dsimp only
   have X:(arrOf g).map (·.2)=(p.toList.map λi=>vs.getD i KZ).toArray:=kat_snds rfl har;have R:=P1.sz;rw[X];refine JR (seqEpoch_at d rfl ?_);refine JR (NZ d rfl ?_ (by simp) (by simp[LZ];omega));rw[hf];simp only[Nf,Kn,Lb];have U:∀i∈p.toList,i<vs.length:=λi c=>Kw.mp (P1.perm.mem_iff.mp c);refine JU (O (p.toList.map λi=>ks.getD i ([],0)) _ ?_ ?_ ?_)
   .refine(P1.perm.map _).trans (Qj ?_)
    rw[q];refine NC (by simp) λi q1 q2=>?_;rw[ND,OL,Kd,JX q2];rfl
   .rw[Kb]
    unfold Up;rw[MO];refine MH.mpr λi j c y hij=>?_;have f:i<vs.length:=by simpa[R]using c
    have hj':j<vs.length:=by simpa[R]using y
    have gd:∀x (hx:x<p.toList.length),p.getD x 0=p.toList[x]:=λx hx=>by
     have:x<p.size:=by simpa using hx
     simp[MP,this]
    have z:=so i j hij hj';unfold ky at z;rw[gd i c,gd j y]at z;obtain⟨k1,m1,B,f1,g1⟩:=at_ p.toList[i] (U _ (K5 c));obtain⟨k2,m2,e2,f2,g2⟩:=at_ p.toList[j] (U _ (K5 y));have:=wZ (ks:=ks.map (·.1)) (i:=p.toList[i]) (j:=p.toList[j]) (by rw[J];exact U _ (K5 c)) (by rw[J];exact U _ (K5 y));rw[Km z,f1,f2]at this;simp only[PQ];rw[Kd,Kd,g1,g2];exact this.symm
   .rw[Kb]
    congr 1;refine K9 λi c=>?_;obtain⟨k1,m1,B,f1,g1⟩:=at_ i (U i c);rw[B];simp only[PQ];rw[Kd,g1];rfl
theorem za{α β:Type}{f:α->β}{vs g:List β}(p:vs.Perm g):∀{xs:List α},g=xs.map f->∃ks:List α,ks.Perm xs/\vs=ks.map f:=by
 induction p with
 |nil=>
  intro xs e;cases xs with
  |nil=>exact⟨[],.refl _,rfl⟩
  |cons _ _=>cases e
 |cons x _ ih=>
  intro xs e;cases xs with
  |nil=>cases e
  |cons a xs=>
   cases e;obtain⟨ks,c,d⟩:=ih rfl;exact⟨a::ks,c.cons a,by rw[d];rfl⟩
 |swap x y l=>
  intro xs e
  match xs,e with
  |[],e=>cases e
  |[_],e=>cases e
  |a::b::xs,e=>
   cases e;exact⟨b::a::xs,.swap _ _ _,rfl⟩
 |trans _ _ ih1 ih2=>
  intro xs e;obtain⟨ks,c,d⟩:=ih2 e;obtain⟨h,i,j⟩:=ih1 d;exact⟨h,i.trans c,j⟩
theorem uV{xs:List (List Int×JY)}(H:A.handled=JT)(S:oW prog w s.heap a xs)(I:∀x∈xs,1<=x.1.length)(J:xs.length<64)
  (h:∀(l:JY) (h':Lj) (f v:Nat) (g:List (List Int×JY)),g.Perm xs->Up (g.map (·.1))->h'.get? l=on (Mt "list" (g.map λk=>Ko k.2).toArray v)->s.heap.objs.size<=l->(∀b o,s.heap.get? b=on o->h'.get? b=on o)->s.toks<=f->Q (.ref l) {s with heap:=h',toks:=f}):
  Ke (Ky prog w) A (Qu (.builtin "sorted") [.ref a]) Q E s:=by
 obtain⟨o,es,ep,t,L,y,hd,i,B,N,T,O,j⟩:=S;have C:es.size=xs.length:=by rw[<-KG,i,JS]
 have R:t.fits es.size=JW:=T.fits (by rw[JS,C]);refine Q5 kind_sorted plain_sorted entry_sorted (args_sorted1 _) ?_;unfold Builtin.«sorted»;refine JR (m:=checkCount "sorted" 1 1 _) (JU ?_);refine JR (sM H L y.1 hd T R O j (by omega) λp f vs keep q htk pv=>?_);rw[i,Kb]at pv;obtain⟨ks,r,rfl⟩:=za pv rfl;have U:ks.length=xs.length:=r.length_eq;refine JR (SN ?_ (by rw[JS,LZ];omega));have c:∀b d,s.heap.get? b=on d->(p.push (Mt "list" (ks.map λk=>Ko k.2).toArray 0)).get? b=on d:=λb d e=>JV _ (keep b d e);have u:(p.push (Mt "list" (ks.map λk=>Ko k.2).toArray 0)).get? p.objs.size=on (Mt "list" (ks.map λk=>Ko k.2).toArray 0):=Kf _ rfl;show Ke _ _ _ _ _ {s with heap:=p.push (Mt "list" (ks.map λk=>Ko k.2).toArray 0),toks:=f};refine JR (Ln (KR slot_list_sort ⟨_,u,rfl⟩ entry_list_sort (o8 uU u (λk F=>⟨?_,I k (r.mem_iff.mp F)⟩) ((r.map (·.1)).nodup_iff.mpr B) (by omega) λh' g v q1 q2 q3 q4=>⟨_,rfl,?_⟩) (args_list_sort _)))
 .obtain⟨W,its,m,X,Y,Z,z4⟩:=N k (r.mem_iff.mp F)
  exact⟨W,its,m,c _ _ X,Y,Z,z4⟩
 .refine JU ⟨_,rfl,h p.objs.size h' f v g (q1.trans r) q2 q3 q (λb d e=>q4 b d (λz=>?_) (c b d e)) htk⟩
  have:=Kr e;exact Kx (z▸this) (Nat.not_lt.mpr q)
end
end L2.Hs
namespace L2.Hs
open PySem PySem.Spec PyProof.Rows
section
variable{prog:KF}{w:K1}
def oX(prog:KF)(w:K1)(a:JY)(xs:List (List Int×JY))(h:Lj):Prop:=
 ∃o es ep t,h.get? a=on o/\o.ExactSet/\o.data= .set es ep t/\(es.toList=xs.map λx=>(hsh prog w x.1,Ko x.2))/\(xs.map (·.1)).Nodup/\(Tb t (xs.map λx=>hsh prog w x.1))/\t.plain=JW/\t.led=!(w.params.followText "set-order")
noncomputable def kI(prog:KF)(w:K1)(a:JY)(xs:List (List Int×JY)):HO:= .ext (oX prog w a xs)
theorem oX.to(S:oX prog w a xs h)(b:∀x∈xs,(hO prog w).is h x.1 x.2):oW prog w h a xs:=by
 obtain⟨o,es,ep,t,c,d,e,f,g,i⟩:=S;exact⟨o,es,ep,t,c,d,e,f,g,b,i⟩
theorem sZ(S:oX prog w a xs h):bC prog w H h a (kI prog w a xs):=by
 refine⟨S,?_,λb c z k=>?_⟩
 .obtain⟨o,_,_,_,e,_⟩:=S
  exact⟨o,e⟩
 .obtain⟨o,es,ep,t,e,r⟩:=z
  exact⟨o,es,ep,t,k _ e,r⟩
theorem zD{k:List Int}:∀{its:List J0},aq (k.map V.int) its->ItemsAre (Ps prog w) k its:=by
 induction k with
 |nil=>intro its h;cases h;exact .nil
 |cons i k ih=>
  intro its h;cases h with
  |cons a b=>
   obtain⟨t,rfl⟩:=a;exact .cons (by simp[Ps,RU]) (ih b)
variable{X:Cx}
theorem k9{s:J4}{k:List Int}(I:cp X ai σ H s)(h:hH X.K H b (k.map V.int)):(hO X.prog X.w).is s.heap k b:=by
 obtain⟨its,a,⟨o,e,c,n,hd⟩,_⟩:=I.tuple h;exact⟨o,its.toArray,n,e,c,hd,zD a⟩
theorem W6{b:Bool}:Tb (.fresh 0 0 b) []:=⟨.inl rfl,rfl,λi j a b h=>by simp[S8]at*,λi j h=>by simp[S8]at h,rfl,by show 0*5<7*3;decide,λi h j c=>by simp at c⟩
theorem jL:∀a:List (List Int×JY),aq (a.map λz=>V.ref z.2) (a.map λk=>Ko k.2)
 |[]=> .nil
 |_::a=> .cons rfl (jL a)
theorem EW:UI X (newSet (.type "set")) λD=>kI X.prog X.w D []:=λa s c H E Q I h=>by
 unfold newSet setsByText;refine JR (JR (OB (JU ?_)))
 dsimp only
 simp only[newObj];refine JR (wpAny_alloc (JU (h _ (I.laid (t':=s.toks) (λ_ _ q=>JV _ q) (J3 _) (sZ ?_)) λb o e=>JV _ e)));exact⟨_,#[],0,_,Kf _ rfl,⟨rfl,rfl,rfl⟩,rfl,rfl,.nil,W6,rfl,rfl⟩
def yr(P:KF)(w:K1)(K:Kt)(D:JY)(d:TE):TB:=λc H Q=>d c H λv H1=>∃xs k b,H1 D=on (kI P w D xs)/\v= .ref b/\hH K H1 b (k.map V.int)/\(∀x∈xs,hH K H1 x.2 (x.1.map V.int))/\xs.length<63/\
 ∀a,(k∈xs.map (·.1)->a=xs)->(k∉xs.map (·.1)->a.Perm ((k,b)::xs))->Q c (upd H1 D (kI P w D a))
theorem re{D:JY}(p:X.A.units+1<OI)(L:gens[d+1]?=JT)(N:PE X elt te)(j:X.xe=λ_ _=>False):PB X (.S elt) gens scope pos d D (yr X.prog X.w X.K D te):=by
 intro a s y H Q I h k Q' E' O;unfold gn;rw[L];show Ke _ _ ((do let v <-LC elt X.env;O8 elt.pos;let _ <-Qu (.builtin "set.add") [.ref D,v])>>=λ_=>k) _ _ _
 have c:=N a s y H _ I h;rw[j]at c;refine JR (JR (Ld c (λu g l=>?_) λ_ _ f=>f.elim));obtain⟨v,H1,i,r,xs,R,b,B,rfl,C,J,hn,q⟩:=l;cases r;have S:oX X.prog X.w D xs g.heap:=(i.hok D _ B).1;have T:oW X.prog X.w g.heap D xs:=S.to λx h=>k9 i (J x h);obtain⟨o,es,ep,t,U,W,_⟩:=S;refine JR (Mr (JR (KR F.slot_set_add ⟨o,U,W.1⟩ F.entry_set_add ?_ (F.args_set_add_2 _ _))));unfold Builtin.«set.add» Builtin.Frozenset.oneOther;simp only[List.isEmpty_nil,bind_assoc];unfold Builtin.Frozenset.addrOf setAdd;refine JR (JU ?_)
 try dsimp only
 refine JR (JU ?_)
 try dsimp only
 refine JR (Ln (JR ((hO X.prog X.w).pyHash p (k9 i C) ?_)));refine IG (s:={g with toks:=g.toks+(hO X.prog X.w).draws R}) p T (k9 (s:=g) i C) hn λh' m Y Z c1 c2=>?_;show Ke _ _ (ret KZ) _ _ _;refine JU ⟨_,rfl,JU (O _ y _ (i.write (by rw[B];trivial) (.inl rfl) (λb u n e=>(Y.2 b n).trans e) ?_ (sZ ?_)) (q m c1 c2))⟩
 all_goals obtain⟨o,es,ep,t,c,l,h3,h4,h5,J,h6⟩:=Z
 .exact⟨o,c⟩
 .exact⟨o,es,ep,t,c,l,h3,h4,h5,h6⟩
def jQ(b:JY->HO)(cy:List K2)(b_:List Nat)(c:TI)(d:JY->It->TB):TE:=λa H Q=>c a H λJ H1=>∀D,H1 D=JT->d D J (jc cy b_ a) (upd H1 D (b D)) λ_ e=>Q (.ref D) e
theorem EL{d a b:Expr}{f:List Expr}{rest:List LR}{scope:Scope}{pos:OH}{j cy:List K2}{b_:List Nat}{g:TG}{tt:TT}{o:JY->TB}{p:TI}(r:X.calm=JW)(S:c4 X scope j cy b_)(t:PI X a b p)
  (u:∀(cl:List (K2×JY)) (C:JY) (k:List JY) (s:J4) (H:Hp),PG (ay X j scope cl C k s H) a g/\dh (ay X j scope cl C k s H) f tt/\∀D,PB (ay X j scope cl C k s H) (.S d) (⟨a,b,f,0⟩::rest) scope pos 0 D (o D))
  (hs:∀x,K6 b X.env x=Mm x:=by intro _;rfl):PE X (.SetComp d (⟨a,b,f,0⟩::rest) scope pos) (jQ (λD=>kI X.prog X.w D []) cy b_ p λD J=>cP J g tt (o D)):=by
 intro i s y H Q I h;refine MZ (use:=JT) rfl hs (S.clo I.ok) S.kind S.loc (Ld (t i s y H _ I h) (λv Y B=>Ld B (λF Z L=>?_) λ_ _ x=>x) λ_ _ x=>x);obtain⟨it,k,tn,J,H2,e,N,T,l,f2,q⟩:=L;subst e;refine gm (c:= .S d) EW (RR:=λacc C=>RY (Ky X.prog X.w) X.A X.xe JT _ acc C) r S u N T l f2 q λD C s' O m R ns U W=>?_;exact⟨m,ns,λh' n=>⟨.ref D,O,R.letgo U n,rfl,W⟩⟩
def tu(P:KF)(w:K1)(K:Kt):List V->Hp->VK->Prop:=λxs H Q=>∃a ys,xs=[.ref a]/\H a=on (kI P w a ys)/\(∀x∈ys,hH K H x.2 (x.1.map V.int)/\1<=x.1.length)/\ys.length<64/\
 ∀(l:JY) (b:List (List Int×JY)),H l=JT->b.Perm ys->Up (b.map (·.1))->Q (.ref l) (upd H l (.lst (b.map λz=>V.ref z.2)))
theorem sN(e:X.calm=JW):cI X (.builtin "sorted") (tu X.prog X.w X.K):=by
 intro c s m H xs us Q I r h;obtain⟨a,ys,rfl,ha,d,hn,q⟩:=h;obtain⟨u,rfl,rfl⟩:=ic r;have S:oX X.prog X.w a ys s.heap:=(I.hok a _ ha).1;refine uV (I.ok.hd e) (S.to λx h=>k9 I (d x h).1) (λx h=>(d x h).2) hn λl h' f g b p i j hs keep n=>?_;refine⟨.ref l,_,I.laid (t':=f) (o:= .lst (b.map λz=>V.ref z.2)) keep hs ⟨?_,b.map λk=>Ko k.2,g,?_,j⟩,rfl,q l b (I.hok.fresh hs) p i⟩
 .rw[JS,p.length_eq,LZ];omega
 .exact jL b
end
end L2.Hs
namespace L2.Pu
open PySem PySem.Spec PyProof.Rows L2.Hs
def gi(nv:Nat)(b_:List Nat)(it:FL)(tg:l0)(tt:Dn->M Bool)(b:FL)(a:List D->Option D):FD:=λδ β=>match it δ β with
 |none=>JT
 |some (.error C,β1)=>on (.error C,β1)
 |some (.ok ds,β1)=>match nw tg tt b ds (lg nv b_ δ) β1 with
  |some (.ok os,β2)=>(a os).map λd=>(.ok d,β2)
  |_=>JT
section
variable{K:Kt}{E:St->XK}
theorem o4{R:AR}{p:JY->HO}{c:List D->Option D}{cy:List K2}{b_:List Nat}{it:FL}{g:TG}{tg:l0}{tt:Dn->M Bool}{O:JY->TB}{b:FL}(hg:cz K g tg)(sg:dg tg)(hb:∀D,dO K R D (O D) b)
  (r0:∀F H D,R.R F (upd H D (p D)) D []) (hp:∀os d,c os=on d->R.Z os) {T:St} {H:Hp} {Q U:VK} (h:tV K (gi cy.length b_ it tg tt b c) E T H U)
  (k:∀F B f D os d,Fr F B f->¬F.A D->R.R F B D os->c os=on d->(∀v j,To F B j f->bt K F j d v->U v j)->Q (.ref D) B):
  jQ p cy b_ (iV K it E) (λD J=>cP J g (g8 K tt E0) (O D)) T H Q:=by
 obtain⟨F,δ,β,fr,W,r,f,e,h⟩:=h;unfold gi at e;refine⟨F,δ,β,fr,W,?_⟩;split at e
 .cases e
 .rename_i C β1 q
  cases e;exact⟨.error C,_,q,h⟩
 .rename_i ds β1 q
  split at e
  .rename_i os β2 q2
   cases hd:c os with
   |none=>rw[hd]at e;cases e
   |some d=>
    rw[hd]at e;cases e;refine⟨.ok ds,β1,q,λJ H1 t hJ D m=>?_⟩;have i:¬F.A D:=t.fr.fresh m;have nb:∀b l,F.bg=on (b,l)->D≠b/\D≠l:=λb l z=>⟨λw=>i (w▸(fr.bgA b l z).1),λw=>i (w▸(fr.bgA b l z).2.1)⟩;have X:=t.fr.upd (p D) m;have I:Fr ⟨λa=>F.A a\/a=D,F.bg⟩ (upd H1 D (p D)) β1:=by
     refine⟨λa ha z=>?_,λb l z=>let ⟨x,y,w⟩:=fr.bgA b l z;⟨.inl x,.inl y,w⟩,X.fr.bag⟩
     rcases ha with ha|ha
     .exact X.fr.occ a ha z
     .subst ha;rw[af]at z;cases z
    have u:Tr F H1 ⟨λa=>F.A a\/a=D,F.bg⟩ (upd H1 D (p D)):=⟨λa ha hs z=>by
     rcases z with z|z
     .exact ha z
     .subst z;exact hs m,λa o ha z=>by rw[a_ (aC z m)];exact z,rfl⟩
    refine k7 (R:=R) (D:=D) (as:=[]) (os:=os) hg sg (hb D) I (.inr rfl) nb (nP (W.tr ((t.tr fr).trans u))) (r0 _ _ _) (hJ.tr u) q2 (hp os d hd) λσ1 j L vk3 N=>?_;have Y:To F H1 j f:=by
     refine⟨λa o z n=>L.kp a o (by rw[a_ (aC z m)];exact z) (aC z m) n,λa ha z=>L.fr.occ a (Mn ha) z,fr.bgA,L.fr.bag⟩
    exact k F j f D os d Y.fr i (R.tr (F:=⟨λa=>F.A a\/a=D,F.bg⟩) N (λ_ z=>z) ⟨λa ha _ z=>ha (Mn z),λa o _ z=>z,rfl⟩) hd λv H3 t4 hv=>h v H3 ((t.trans Y).trans t4) hv
  .cases e
noncomputable abbrev hL(k:List Int):D:= .tup (k.map .int)
theorem oN{k:List Int}(h:bt K F H (hL k) v):∃b,v= .ref b/\hH K H b (k.map V.int):=by
 obtain⟨a,xs,rfl,sq,c⟩:=bt.sqT h;cases aj.ints k c;exact⟨a,rfl,sq⟩
theorem dP(h:hL k=hL l):k=l:=by
 injection h with h
 exact Qf (λa b z=>by injection z)|>.mp h
theorem nd_len{α:Type} [BEq α] [LawfulBEq α]:∀{l m:List α},l.Nodup->(∀x∈l,x∈m)->l.length<=m.length
 |[],_,_,_=>Lq _
 |a::l,m,nd,h=>by
  obtain⟨c,d⟩:=KM.mp nd;have:=nd_len (m:=m.erase a) d λx b=>(List.mem_erase_of_ne (λ(z:x=a)=>c (z▸b))).mpr (h x (J1 a b));rw[List.length_erase_of_mem (h a J2)]at this;have:=List.length_pos_of_mem (h a J2);rw[Kq];omega
noncomputable def RS(P:KF)(w:K1)(K:Kt):AR where
 R:=λF H D as=>∃xs,H D=on (kI P w D xs)/\(xs.map (·.1)).Nodup/\(∀x∈xs,bt K F H (hL x.1) (.ref x.2)/\hL x.1∈as)/\∀d∈as,∃k∈xs.map (·.1),d=hL k
 Z:=λl=>∃ks:LI,ks.length<63/\∀d∈l,∃k∈ks,d=hL k
 tr:=λh k t=>by
  obtain⟨xs,a,b,c,f⟩:=h;exact⟨xs,k _ a,b,λx e=>⟨bt.tr t _ _ (c x e).1,(c x e).2⟩,f⟩
 zp:=λh=>by
  obtain⟨ks,a,b⟩:=h;exact⟨ks,a,λd hd=>b d (MN _ hd)⟩
theorem zw{P:KF}{w:K1}{D:JY}:dO K (RS P w K) D (yr P w K D (tV K f E0)) (nS f):=λF H δ β u O as os Q fr R A I T e U k=>by
 obtain⟨xs,W,nd,j,ha⟩:=T;obtain⟨d,β1,X,Y⟩:=M.bind_inv e;cases Y;refine⟨F,δ,β,fr,I,E0.run X λv H1 t J=>?_⟩;have B:=t.kp D _ W A;obtain⟨ks,z1,L⟩:=U;obtain⟨r,Z,rfl⟩:=L d (K3 _ J2);obtain⟨b,rfl,sq⟩:=oN J;have c:∀x∈xs,bt K F H1 (hL x.1) (.ref x.2):=λx h=>bt.tr (t.tr fr) _ _ (j x h).1;have g:xs.length<63:=by
  have:=nd_len (m:=ks) nd λx C=>by
   obtain⟨y,hy,rfl⟩:=J5.mp C;obtain⟨l,hl,e⟩:=L _ (MN _ (j y hy).2);rw[dP e];exact hl
  rw[JS]at this;omega
 refine⟨xs,r,b,B,rfl,sq,λx h=>?_,g,λi c1 c2=>?_⟩
 .obtain⟨b',e,q⟩:=oN (c x h)
  cases e;exact q
 have N:m_ F D H1 (upd H1 D (kI P w D i)) u:=by
  refine⟨λa o h n _=>by rw[a_ n];exact h,λa h q=>?_,fr.bgA,λb l q=>?_⟩
  .by_cases z:a=D
   .subst z;rw[af]at q;cases q
   .rw[a_ z]at q;exact t.fr.occ a h q
  .rw[a_ (A b l q).1.symm,a_ (A b l q).2.symm]
   exact t.fr.bag b l q
 have tt:=N.tr t.fr R;refine k O _ ((t.toD D).trans N) (I.tr ((t.tr fr).trans tt)) ⟨i,af,?_⟩;by_cases hm:r∈xs.map (·.1)
 .cases c1 hm
  refine⟨nd,λx h=>⟨bt.tr tt _ _ (c x h),MN _ (j x h).2⟩,λd hd=>?_⟩;rcases Ll.mp hd with hd|hd
  .exact ha d hd
  .exact⟨r,hm,KN.mp hd⟩
 .have p:=c2 hm
  refine⟨(p.map (·.1)).nodup_iff.mpr (KM.mpr ⟨hm,nd⟩),λx h=>?_,λd hd=>?_⟩
  .rcases Kk.mp (p.mem_iff.mp h)with rfl|h
   .exact⟨bt.tr tt _ _ J,K3 _ J2⟩
   .exact⟨bt.tr tt _ _ (c x h),MN _ (j x h).2⟩
  .rcases Ll.mp hd with hd|hd
   .obtain⟨k2,h2,e⟩:=ha d hd
    exact⟨k2,(p.map (·.1)).mem_iff.mpr (J1 _ h2),e⟩
   .exact⟨r,(p.map (·.1)).mem_iff.mpr J2,KN.mp hd⟩
def TF(ks:LI)(os:List D):Prop:=Up ks/\ks.length<63/\(∀k∈ks,1<=k.length/\hL k∈os)/\∀d∈os,∃k∈ks,d=hL k
theorem TF.eq{os:List D}(a:TF ks os)(b:TF ls os):ks=ls:=kN a.1 b.1 λx=>⟨λh=>by
 obtain⟨l,c,e⟩:=b.2.2.2 _ (a.2.2.1 x h).2;rw[dP e];exact c,λh=>by
 obtain⟨l,c,e⟩:=a.2.2.2 _ (b.2.2.1 x h).2;rw[dP e];exact c⟩
open Classical in
def eY(os:List D):Option D:=if h:∃ks,TF ks os then on (.lst (h.choose.map hL))else JT
theorem qK{ks:LI}{os:List D}(h:TF ks os):eY os=on (.lst (ks.map hL)):=by
 have q:∃ks,TF ks os:=⟨ks,h⟩;unfold eY;rw[dif_pos q,q.choose_spec.eq h]
theorem ii{os:List D}(h:eY os=on d):∃ks,TF ks os/\d= .lst (ks.map hL):=by
 unfold eY at h;split at h
 .rename_i q
  cases h;exact⟨_,q.choose_spec,rfl⟩
 .cases h
theorem kt:∀{a:List (List Int×JY)},(∀z∈a,bt K F H (hL z.1) (.ref z.2))->aj K F H ((a.map (·.1)).map hL) (a.map λz=>V.ref z.2)
 |[],_=>aj.nil
 |z::a,h=>aj.cons (h z J2) (kt λx b=>h x (J1 z b))
end
section
variable{X:Cx}{E:St->XK}{elt bb iter:Expr}{ifs:List Expr}{rest:List LR}{scope:Scope}{pos p pos':OH}{Nc cy:List K2}{b_:List Nat}{g:TG}{tb:JY->TB}
theorem yH(i:Gl X "sorted")(hm:X.mg "sorted"=JT)(o:X.calm=JW)(S:c4 X scope Nc cy b_)(r:PI X bb iter (iV X.K it E))
  (t:∀(cl:List (K2×JY)) (C:JY) (j:List JY) (s:J4) (H:Hp),PG (ay X Nc scope cl C j s H) bb g/\dh (ay X Nc scope cl C j s H) ifs (g8 X.K tt E0)/\∀D,PB (ay X Nc scope cl C j s H) (.S elt) (⟨bb,iter,ifs,0⟩::rest) scope pos 0 D (tb D))
  (u:cz X.K g tg) (A:dg tg) (B:∀D,dO X.K (RS X.prog X.w X.K) D (tb D) b) (hs:∀x,K6 iter X.env x=Mm x:=by intro _;rfl):
  PE X (.Call (.Name "sorted" p) [.SetComp elt (⟨bb,iter,ifs,0⟩::rest) scope pos] [] pos') (tV X.K (gi cy.length b_ it tg tt b eY) E):=
 (jo (sN o) i hm (by kernel_rfl) (dC (EL o S r t hs) ge)).imp λY H Q h=>by
  refine o4 (Q:=λv H1=>tu X.prog X.w X.K [v] H1 Q) u A B (λF H D=>⟨[],af,.nil,λx a=>Kx a (by simp),λd hd=>Kx hd (by simp)⟩) (λos d e=>?_) h λF Z I D os d fr J L e q=>?_
  .obtain⟨ks,s,_⟩:=ii e
   exact⟨ks,s.2.1,s.2.2.2⟩
  .obtain⟨ks,s,rfl⟩:=ii e
   obtain⟨xs,N,nd,a,ha⟩:=L;have k:∀x∈xs,x.1∈ks:=λx h=>by
    obtain⟨l,f,e⟩:=s.2.2.2 _ (a x h).2;rw[dP e];exact f
   have hn:xs.length<64:=by
    have:=nd_len (m:=ks) nd λy c=>by
     obtain⟨x,h,rfl⟩:=J5.mp c;exact k x h
    rw[JS]at this;have:=s.2.1;omega
   refine⟨D,xs,rfl,N,λx h=>?_,hn,λl O f n R=>?_⟩
   .obtain⟨b',e,q⟩:=oN (a x h).1
    cases e;exact⟨q,(s.2.2.1 _ (k x h)).1⟩
   .have T:ks=O.map (·.1):=kN s.1 R λy=>by
     refine⟨λc=>?_,λc=>?_⟩
     .obtain⟨k2,U,e⟩:=ha _ (s.2.2.1 y c).2
      rw[dP e];exact(n.map (·.1)).mem_iff.mpr U
     .obtain⟨x,h,rfl⟩:=J5.mp ((n.map (·.1)).mem_iff.mp c)
      exact k x h
    rw[T]at q;exact q _ _ (fr.upd _ f) (bt.newL fr f (kt λz W=>(a z (n.mem_iff.mp W)).1))
end
end L2.Pu
namespace L2.Hs
open PySem PySem.Spec PyProof.Rows
section
variable{prog:KF}{w:K1}{A:Lf}{E:J0->J4->Prop}{s:J4}
def xr(prog:KF)(w:K1)(h:Lj)(k:d4)(a:JY):Prop:=∃o n t b,h.get? a=on o/\o.cls= .type "tuple"/\o.data= .seq #[.int k.1 t,.ref b] n/\(hO prog w).is h k.2 b
theorem xr.ty(x:xr prog w s.heap k a):s.TypeIs (.ref a) "tuple":=let ⟨o,_,_,_,ho,hc,_⟩:=x;⟨o,ho,hc⟩
theorem xr.inj(f:xr prog w h x a)(g:xr prog w h y a):x=y:=by
 obtain⟨o,n,t,b,i,_,hd,j⟩:=f;obtain⟨k,p,t',q,d,_,c,e⟩:=g;obtain rfl:o=k:=KE (i.symm.trans d);rw[hd]at c;simp only[Data.seq.injEq,Array.mk.injEq,MX,NV.injEq,Ko.injEq]at c;obtain⟨⟨⟨l,_⟩,m,_⟩,_⟩:=c;subst m;exact Mu l ((hO prog w).inj j e)
theorem Hy(k:List Int):hsh prog w k=hI k:=by unfold hsh hI;show tupleKeyHash _ _=_;unfold tupleKeyHash;rfl
theorem Hz{k:d4}(g:A.units+1<OI)(f:xr prog w s.heap k a)(h:Q (hB JW k) {s with toks:=s.toks+(k.2.length+3)}):Ke (Ky prog w) A (pyHash (.ref a)) Q E s:=by
 have c:=f.ty;obtain⟨o,n,t,b,i,_,hd,j⟩:=f;unfold pyHash
 first|unfold pyHashByItsType|skip
 refine JR (wpAny_cRoomFor_or (.inr (by omega)) ?_);refine JR (MR c F.slot_tuple_hash.lookup ?_);show Ke _ _ (if(on (Value.builtin "tuple.__hash__")==on KZ)=JW then _ else _) Q E s;rw[J6 (by rw[beq_builtin_none];exact J7)];refine JR (MR c F.slot_tuple_hash.lookup ?_);show Ke _ _ (callSpecialIfBoundUnlessNone? (.ref a) "__hash__" _>>=_) Q E s;refine JR (wpAny_callSpecialIfBoundUnlessNone?_slot c F.slot_tuple_hash (KR F.slot_tuple_hash c F.entry_tuple_hash ?_ (F.args_tuple_hash_1 _)));show Ke _ _ (N7 (.ref a)>>=_) _ _ s;refine JR (QI i hd ?_);refine JR ?_;rw[<-NP];simp only[Na,Nq];refine JR (JR (wpAny_pyHash_int ?_));refine JU (JR (JR ((hO prog w).pyHash g j ?_)));refine JU (JU ?_);have h':Q (hB JW k) {s with toks:=s.toks+1+(k.2.length+1)+1}:=by
  have e:s.toks+1+(k.2.length+1)+1=s.toks+(k.2.length+3):=by omega
  rw[e];exact h
 refine wpAny_ret_mkInt ?_;generalize l:Og _=z;have m:hB JW k=reduceHash z:=by rw[<-l,show(hO prog w).hash k.2=hI k.2 from Hy k.2];rfl
 rw[m]at h';show Ke _ _ (if(decide (-(2:Int)^63<=z)&&decide (z<2^63))=JW then _ else _) Q E _;unfold reduceHash at h';by_cases d:(decide (-(2:Int)^63<=z)&&decide (z<2^63))=JW
 .rw[J8 d]
  rw[J8 d]at h';exact JU h'
 .rw[J6 d]
  rw[J6 d]at h';exact JR (M0 (JU h'))
theorem Vx(q:A.units+1<OI)(d:xr prog w s.heap x a)(f:xr prog w s.heap y b)(h:Q (decide (x=y)) s):Ke (Ky prog w) A (eqBool (.ref a) (.ref b)) Q E s:=by
 unfold eqBool
 try with_reducible refine Ln ?_
 show Ke _ _ (if(Ko a==Ko b)=JW then _ else _) Q E s;by_cases c:(Ko a==Ko b)=JW
 .rw[J8 c]
  have e:a=b:=by have:=eq_of_beq c;injection this
  subst e;obtain rfl:=d.inj f;exact JR (M0 (JU (by simpa using h)))
 .rw[J6 c]
  refine JR (wpAny_richCompare_same_room (op:= .Eq) d.ty f.ty F.slot_tuple_eq
   (KR F.slot_tuple_eq d.ty F.entry_tuple_eq ?_ (F.args_tuple_eq_2 _ _)) (by omega))
  have j:=f.ty;obtain⟨r,t,u,v,k,_,l,m⟩:=d;obtain⟨B,C,H,I,n,_,o,p⟩:=f;show Ke _ _ (QG (.ref b) (.type "tuple")>>=_) _ _ s;refine JR (L8 j Qe ?_);simp only[Mx,Kn,Lb];refine JR (QI k l ?_);refine JR (QI n o ?_);refine JR ?_;simp only[MD,O5,Na,Nq];refine JR (JR ((Ps prog w).eqBool (a:=x.1) (b:=y.1) (by simp[Ps,RU]) (by simp[Ps,RU]) ?_));by_cases g:x.1=y.1
  .rw[Km g]
   refine JU (JR (JR ((hO prog w).eqBool q m p ?_)));by_cases i:x.2=y.2
   .rw[Km i]
    rw[Km (Mu g i)]at h;exact JU (JU (JU ⟨_,rfl,(λe=>nomatch e),LD h⟩))
   .rw[K0 i]
    rw[K0 (λe=>i (La _ e))]at h;exact JR (JU (JU (JU (JU ⟨_,rfl,(λe=>nomatch e),LD h⟩))))
  .rw[K0 g]
   rw[K0 (λe=>g (La _ e))]at h;exact JR (JU (JU (JU (JU ⟨_,rfl,(λe=>nomatch e),LD h⟩))))
theorem ED(f:(hO prog w).is s.heap k a)(h:Q JW s):Ke (Ky prog w) A (Td (m+1) (.ref a)) Q E s:=by
 have g:=Rw f;obtain⟨o,c,n,i,_,hd,j⟩:=f;unfold Td;refine JR (MR g F.slot_tuple_eq.lookup ?_);show Ke _ _ (QG (.ref a) (.type "tuple")>>=_) _ _ s;refine JR (L8 g Qe ?_);simp only[Mx,Kn,Lb];refine JR (L7 i hd ?_);refine JR ?_;show Ke _ _ (forIn c _ _) _ _ s;rw[<-NP];refine OC _ (λrest r s'=>r.1=JT/\s'=s/\∀v∈rest,carriedByValue v=JW) _ ?_ ?_ _ _ ⟨rfl,rfl,j.byValue⟩
 .rintro v rest r s' ⟨d,rfl,b⟩
  rw[eqIsQuiet_byValue _ (b v J2)];refine JR (JU ?_);simp only[Mx,Kn,Lb];exact JU ⟨rfl,rfl,λu e=>b u (J1 _ e)⟩
 .rintro⟨l,p⟩ s' ⟨d,rfl,_⟩
  simp only at d;subst d;exact JU h
theorem EE(c:xr prog w s.heap k a)(h:Q JW s):Ke (Ky prog w) A (Td 8 (.ref a)) Q E s:=by
 have d:=c.ty;obtain⟨o,n,t,b,e,_,hd,f⟩:=c;unfold Td;refine JR (MR d F.slot_tuple_eq.lookup ?_);show Ke _ _ (QG (.ref a) (.type "tuple")>>=_) _ _ s;refine JR (L8 d Qe ?_);simp only[Mx,Kn,Lb];refine JR (L7 e hd ?_);refine JR ?_;show Ke _ _ (forIn #[NV k.1 t,Ko b] _ _) _ _ s;rw[<-NP];simp only[Na,Nq];rw[eqIsQuiet_byValue _ (v:= .int k.1 t) rfl];exact JR (JR (JU (JU (JR (JR (ED (m:=6) f (JU (JU (JU h)))))))))
def Yt(prog:KF)(w:K1):HeapKind prog w d4 where
 is:=xr prog w
 hash:=hB JW
 draws:=λk=>k.2.length+3
 room:=λA=>A.units+1<OI
 inj:=λd e=>d.inj e
 keeps:=λx i hd hs=>by
  obtain⟨j,n,t,b,c,l,a,m⟩:=x;refine⟨j,n,t,b,(hs.2 _ ?_).trans c,l,a,(hO prog w).keeps m i hd hs⟩;rintro rfl;obtain rfl:=KE (c.symm.trans i);rw[hd]at a;exact nomatch a
 pyHash:=λf g h=>Hz f g h
 eqBool:=λf d e h=>Vx f d e h
 quiet:=λg h=>EE g h
def Yw(prog:KF)(w:K1):HeapKind prog w d4 where
 is:=λh k a=>k.1=0/\(hO prog w).is h k.2 a
 hash:=hB JZ
 draws:=λk=>k.2.length+1
 room:=λA=>A.units+1<OI
 inj:=λc d=>Mu (c.1.trans d.1.symm) ((hO prog w).inj c.2 d.2)
 keeps:=λx i hd hs=>⟨x.1,(hO prog w).keeps x.2 i hd hs⟩
 pyHash:=λf g h=>(hO prog w).pyHash (Qs f) g.2 h
 eqBool:=λ{A E s x y a b Q} f c d h=>(hO prog w).eqBool (Qs f) c.2 d.2 (by
  have e:decide (x.2=y.2)=decide (x=y):=by
   by_cases q:x.2=y.2
   .rw[Km q,Km (Mu (c.1.trans d.1.symm) q)]
   .rw[K0 q,K0 (λz=>q (La _ z))]
  rw[e];exact h)
 quiet:=λg h=>(hO prog w).quiet g.2 h
def KB(prog:KF)(w:K1):Bool->HeapKind prog w d4
 |true=>Yt prog w
 |false=>Yw prog w
theorem oE{b:Bool}:(KB prog w b).hash=hB b:=by cases b<;>rfl
theorem oD{b:Bool}{A:Lf}(h:A.units+1<OI):(KB prog w b).room A:=by cases b<;>exact h
def C_(K:Kt)(H:Hp):Bool->d4->JY->Prop
 |true,k,c=>∃e,hH K H c [.int k.1,.ref e]/\hH K H e (k.2.map V.int)
 |false,k,c=>k.1=0/\hH K H c (k.2.map V.int)
abbrev XY(x:d4×JY×V)(y:d4×JY×J0):Prop:=x.1=y.1/\x.2.1=y.2.1/\aI x.2.2 y.2.2
theorem iP:∀{xs:List (d4×JY×V)} {ys:List (d4×JY×J0)},OS XY xs ys->xs.map (·.1)=ys.map (·.1)
 |_,_,.nil=>rfl
 |_,_,.cons h t=>by rw[Kv,Kv,h.1,iP t]
theorem wb:∀{xs:List (d4×JY×V)} {ys:List (d4×JY×J0)},OS XY xs ys->∀y∈ys,∃x∈xs,XY x y
 |_,_,.nil,y,h=>by cases h
 |_,_,.cons (a:=a) h t,y,hy=>by
  rcases Kk.mp hy with rfl|hy
  .exact⟨a,J2,h⟩
  .obtain⟨x,b,e⟩:=wb t y hy
   exact⟨x,J1 _ b,e⟩
noncomputable def t5(xs:List (d4×JY×V))(k:d4):Option V:=(xs.find? λx=>decide (x.1=k)).map (·.2.2)
theorem nZ:∀{xs:List (d4×JY×V)} {ys:List (d4×JY×J0)},OS XY xs ys->sJ (t5 xs k) ((S9 ys k).map (·.2))
 |_,_,.nil=>by simp[t5,S9,sJ]
 |_,_,.cons (a:=a) (b:=b) h t=>by
  have ih:=nZ (k:=k) t;unfold t5 S9 at ih⊢;rw[M9,M9,<-h.1];by_cases q:a.1=k
  .rw[Km q];exact h.2.2
  .rw[K0 q];exact ih
theorem nY(h:XY x y):∀{xs:List (d4×JY×V)} {ys:List (d4×JY×J0)},OS XY xs ys->OS XY (xs++[x]) (ys++[y])
 |_,_,.nil=> .cons h .nil
 |_,_,.cons h' t=> .cons h' (nY h t)
variable{X:Cx}{ai:List (JY×KS)}{σ:St}{H:Hp}
theorem m7{b:Bool}(I:cp X ai σ H s)(h:C_ X.K H b k c):(KB X.prog X.w b).is s.heap k c:=by
 cases b with
 |true=>
  obtain⟨e,a,d⟩:=h;obtain⟨its,f,⟨o,g,i,n,hd⟩,_⟩:=I.tuple a;obtain⟨j,l,rfl,⟨t,rfl⟩,rfl⟩:=uI f;exact⟨o,n,t,e,g,i,hd,k9 I d⟩
 |false=>exact⟨h.1,k9 I h.2⟩
theorem R_{ai:List (JY×KS)}{σ:St}{H:Hp}{s:J4}(I:cp X ai σ H s):OA<s.heap.objs.size:=OG (by decide) (show Mj<s.heap.objs.size from(I.mod.glob.keeps I.bk).lt)
theorem nF{b:Bool}(I:cp X ai σ H s)(d:H a=on (cD a b ep xs))(e:∀x∈xs,C_ X.K H b x.1 x.2.1):∃ys,s.heap.DictOfH (KB X.prog X.w b) a ys/\OS XY xs ys/\ys.length<=Ki/\(a==OA)=JZ:=by
 obtain⟨o,es,ys,f,g,h,i,j,k,l,c⟩:v7 a b ep xs s.heap:=(I.hok a _ d).1;refine⟨ys,⟨o,es,ep,f,g,h,?_,λy m=>?_,j⟩,c,l,k⟩
 .rw[i];unfold entryOfKey;rw[oE]
 .obtain⟨x,n,p,q,_⟩:=wb c y m
  rw[<-p,<-q];exact m7 I (e x n)
def GP(K:Kt):R2:=λx y H Q=>∃a b ep xs k c v,x= .ref a/\y= .ref c/\H a=on (cD a b ep xs)/\(∀x∈xs,C_ K H b x.1 x.2.1)/\C_ K H b k c/\t5 xs k=on v/\Q v H
theorem m8(l:X.A.units+2<OI):D2 X (GP X.K):=by
 intro g i ai s σ H x y v u Q I m n h hs;obtain⟨a,b,ep,xs,k,c,o,rfl,rfl,t,B,C,J,q⟩:=h;cases m;cases n;obtain⟨ys,d,p,_,_⟩:=nF I t B;have f:=nZ (k:=k) p;rw[J]at f;cases e:S9 ys k with
 |none=>rw[e]at f;exact f.elim
 |some r=>
  rw[e]at f;exact P5 (x:=r.2) d.typeIs PySem.F.slot_dict_getitem.lookup (wpAny_getItem_heap (Q:=λj s'=>j=r.2/\EP X ai σ Q j s') (oD l) (m7 I C) d e ⟨rfl,o,H,I.tok _,f,q⟩) hs
theorem lX{b:Bool}:UI X newDict λD=>cD D b 0 []:=λai s σ H E Q I h=>KU (h _ (I.laid (t':=s.toks) (λ_ _ q=>JV _ q) (J3 _) (oO ⟨_,#[],[],Kf _ rfl,⟨rfl,rfl,rfl⟩,rfl,rfl,.nil,beq_eq_false_iff_ne.mpr (Ne.symm (K7 (R_ I))),Lq _,.nil⟩)) λb o e=>JV _ e)
def yt(K:Kt)(b:Bool)(D:JY)(e f:TE):TB:=λσ H Q=>e σ H λx H1=>f σ H1 λy a=>∃ep xs k c,x= .ref c/\a D=on (cD D b ep xs)/\(∀x∈xs,C_ K a b x.1 x.2.1)/\C_ K a b k c/\k∉xs.map (·.1)/\xs.length<Ki/\∀d,Q σ (upd a D (cD D b d (xs++[(k,c,y)])))
theorem jq{D:JY}{b:Bool}(L:X.A.units+1<OI)(N:gens[d+1]?=JT)(O:PE X ke tk)(R:PE X ve tv)(a:X.xe=λ_ _=>False):PB X (.D ke ve) gens scope pos d D (yt X.K b D tk tv):=by
 intro ai s σ H Q I h k Q' E' T;unfold gn;rw[N];show Ke _ _ (Uz (.D ke ve) (.ref D) X.env>>=λ_=>k) _ _ _;unfold Uz;have t:=O ai s σ H _ I h;rw[a]at t;refine JR (JR (Ld t (λu U W=>?_) λ_ _ f=>f.elim));obtain⟨v,H1,Y,r,q1⟩:=W;have B:=R ai U σ H1 _ Y q1;rw[a]at B;refine JR (Ln (Ld B (λu2 s2 Z=>?_) λ_ _ f=>f.elim));obtain⟨v2,H2,i,r2,ep0,xs,j,c,rfl,C,hx,hc,hn,hl,q⟩:=Z;cases r;obtain⟨ys,dd,p,hz,l⟩:=nF i C hx;have F:=iP p;have e0:S9 ys j=JT:=by
  cases e:S9 ys j with
  |none=>rfl
  |some r=>
   exfalso
   unfold S9 at e;cases m:ys.find? (λx=>decide (x.1=j))with
   |none=>rw[m]at e;cases e
   |some y=>
    have:=List.find?_some m;exact hn (by rw[F];exact J5.mpr ⟨y,List.mem_of_find?_eq_some m,Mp this⟩)
 refine JR (Mr (Ln (wpAny_dictSet_heap (oD L) (m7 i hc) dd (λh' d' sb=>?_) hz)));rw[storedH_new e0]at d';obtain⟨o,es,ep,J,g2,g3,g4,g5,g6⟩:=d';have g:ys.length=xs.length:=by rw[<-JS (f:=(·.1)),<-F,JS]
 refine T _ σ _ (i.write (by rw[C];trivial) (.inl rfl) (λb u n e=>(sb.2 b n).trans e) ⟨o,J⟩ (oO ⟨o,es,_,J,g2,g3,?_,g6,l,?_,nY ⟨rfl,rfl,r2⟩ p⟩)) (q ep)
 .rw[g4];unfold entryOfKey;rw[oE]
 .rw[Kg,g,KQ];omega
theorem zb{b:Bool}{k l a d:Expr}{f:List Expr}{rest:List LR}{scope:Scope}{pos:OH}{i cy:List K2}{b_:List Nat}{g:TG}{tt:TT}{p:JY->TB}{r:TI}(t:X.calm=JW)(S:c4 X scope i cy b_)(u:PI X a d r)
  (y:∀(cl:List (K2×JY)) (C:JY) (j:List JY) (s:J4) (H:Hp),PG (ay X i scope cl C j s H) a g/\dh (ay X i scope cl C j s H) f tt/\∀D,PB (ay X i scope cl C j s H) (.D k l) (⟨a,d,f,0⟩::rest) scope pos 0 D (p D))
  (hs:∀x,K6 d X.env x=Mm x:=by intro _;rfl):PE X (.DictComp k l (⟨a,d,f,0⟩::rest) scope pos) (jQ (λD=>cD D b 0 []) cy b_ r λD J=>cP J g tt (p D)):=by
 intro ai s σ H Q I h;refine MZ (use:=JT) rfl hs (S.clo I.ok) S.kind S.loc (Ld (u ai s σ H _ I h) (λv Y B=>Ld B (λF Z L=>?_) λ_ _ x=>x) λ_ _ x=>x);obtain⟨it,j,tn,J,H2,e,N,T,n,f2,q⟩:=L;subst e;refine gm (c:= .D k l) lX (RR:=λacc C=>RY (Ky X.prog X.w) X.A X.xe JT _ acc C) t S y N T n f2 q λD C s' O m R ns U W=>?_;exact⟨m,ns,λh' o=>⟨.ref D,O,R.letgo U o,rfl,W⟩⟩
end
end L2.Hs
namespace L2.Pu
open PySem PySem.Spec PyProof.Rows L2.Hs
def dK:Bool->d4->D
 |true,k=> .tup [.int k.1,hL k.2]
 |false,k=>hL k.2
def w_(b:Bool)(k:d4):Prop:=b=JZ->k.1=0
theorem HM{b:Bool}(a:w_ b k)(c:w_ b l)(h:dK b k=dK b l):k=l:=by
 cases b with
 |true=>
  simp only[dK,D.tup.injEq,MX,D.int.injEq,and_true]at h;exact Mu h.1 (dP (La D.tup h.2))
 |false=>exact Mu ((a rfl).trans (c rfl).symm) (dP h)
section
variable{K:Kt}{F:Fx}{H:Hp}{E:St->XK}
theorem su(h:bt K F H (.tup ds) v):∃a xs,v= .ref a/\TQ K F H a xs/\aj K F H ds xs:=by
 unfold bt at h;exact h
theorem mB(h:TQ K F H a xs)(hd:aj K F H ds xs):bt K F H (.tup ds) (.ref a):=by
 unfold bt;exact⟨a,xs,rfl,h,hd⟩
theorem TQ.sq(h:TQ K F H c xs):hH K H c xs:=h.imp (·.2) id
theorem ef.s{b:Bool}(h:ef K F H b k c):C_ K H b k c:=by
 cases b with
 |true=>
  obtain⟨e,a,d⟩:=h;exact⟨e,a.sq,d.sq⟩
 |false=>exact⟨h.1,h.2.sq⟩
theorem ef.z{b:Bool}(h:ef K F H b k c):w_ b k:=λe=>by subst e;exact h.1
theorem vx{b:Bool}(g:w_ b k)(h:bt K F H (dK b k) v):∃c,v= .ref c/\ef K F H b k c:=by
 cases b with
 |true=>
  obtain⟨a,xs,rfl,q,d⟩:=su h;obtain⟨i,j,rfl,d1,d2⟩:=aj.two d;cases d1.int;obtain⟨e,ys,rfl,q2,f⟩:=su d2;cases aj.ints k.2 f;exact⟨a,rfl,e,q,q2⟩
 |false=>
  obtain⟨a,xs,rfl,q,d⟩:=su h;cases aj.ints k.2 d;exact⟨a,rfl,g rfl,q⟩
theorem u9{b:Bool}(h:ef K F H b k c):bt K F H (dK b k) (.ref c):=by
 cases b with
 |true=>
  obtain⟨e,a,d⟩:=h;exact mB a (aj.cons rfl (aj.cons (mB d (aj.ofInts k.2)) aj.nil))
 |false=>exact mB h.2 (aj.ofInts k.2)
abbrev vr(b:Bool)(p:d4×D):D:= .tup [dK b p.1,p.2]
def Dk(b:Bool)(kvs:List (d4×D))(os:List D):Prop:=os=kvs.map (vr b)/\(kvs.map (·.1)).Nodup/\kvs.length<=Ki/\∀p∈kvs,w_ b p.1
theorem EQ{b:Bool}{p q:d4×D}(a:w_ b p.1)(c:w_ b q.1)(h:vr b p=vr b q):p=q:=by
 simp only[vr,D.tup.injEq,MX,and_true]at h;exact Mu (HM a c h.1) h.2
theorem jr{b:Bool}:∀{l m:List (d4×D)},(∀p∈l,w_ b p.1)->(∀p∈m,w_ b p.1)->l.map (vr b)=m.map (vr b)->l=m
 |[],[],_,_,_=>rfl
 |[],_::_,_,_,h=>by cases h
 |_::_,[],_,_,h=>by cases h
 |p::l,q::m,hl,hm,h=>by
  rw[Kv,Kv,MX]at h;rw[EQ (hl p J2) (hm q J2) h.1,jr (λx a=>hl x (J1 _ a)) (λx a=>hm x (J1 _ a)) h.2]
theorem Dk.eq{b:Bool}{os:List D}(x:Dk b l os)(y:Dk b m os):l=m:=jr x.2.2.2 y.2.2.2 (x.1.symm.trans y.1)
open Classical in
def jE(b:Bool)(os:List D):Option D:=if h:∃kvs,Dk b kvs os then on (.dct b (h.choose.map (·.1)) (h.choose.map (·.2)))else JT
theorem ut{b:Bool}{kvs:List (d4×D)}{os:List D}(h:Dk b kvs os):jE b os=on (.dct b (kvs.map (·.1)) (kvs.map (·.2))):=by
 have q:∃kvs,Dk b kvs os:=⟨kvs,h⟩;unfold jE;rw[dif_pos q,q.choose_spec.eq h]
theorem sA{b:Bool}{os:List D}(h:jE b os=on d):∃kvs,Dk b kvs os/\d= .dct b (kvs.map (·.1)) (kvs.map (·.2)):=by
 unfold jE at h;split at h
 .rename_i q
  cases h;exact⟨_,q.choose_spec,rfl⟩
 .cases h
noncomputable def RD(K:Kt)(b:Bool):AR where
 R:=λF H D as=>∃ep,∃a:List ((d4×Pu.D)×JY×V),as=a.map (λz=>vr b z.1)/\H D=on (cD D b ep (a.map λz=>(z.1.1,z.2)))/\∀z∈a,ef K F H b z.1.1 z.2.1/\bt K F H z.1.2 z.2.2
 Z:=λl=>∃kvs more,Dk b kvs (l++more)
 tr:=λh k t=>by
  obtain⟨ep,a,e,f,c⟩:=h;exact⟨ep,a,e,k _ f,λz d=>⟨(c z d).1.tr t,bt.tr t _ _ (c z d).2⟩⟩
 zp:=λh=>by
  obtain⟨kvs,more,h⟩:=h;exact⟨kvs,_,by rw[<-Lg];exact h⟩
def zU(f g:FD):FL:=λδ=>M.bind (f δ) λk=>M.bind (g δ) λv=>M.ret [.tup [k,v]]
theorem l6{b:Bool}{D:JY}:dO K (RD K b) D (yt K b D (tV K f E0) (tV K g E0)) (zU f g):=λF H δ β I σ as os Q fr hA B J hR e hz k=>by
 obtain⟨ep,d,rfl,hD,C⟩:=hR;obtain⟨W,β1,e1,e2⟩:=M.bind_inv e;obtain⟨X,β2,e3,e4⟩:=M.bind_inv e2;cases e4;obtain⟨kvs,more,L,Y,z3,Z⟩:=hz;have N:∀p∈d.map (·.1),w_ b p.1:=λp r=>by
  obtain⟨z,h,rfl⟩:=J5.mp r;exact(C z h).1.z
 have O:d.length<kvs.length:=by
  have:=La PX L;simp at this;omega
 have ez:(d.map (·.1)).map (vr b)=(kvs.take d.length).map (vr b):=by
  rw[Oi,<-L,Lg,List.take_append_of_le_length (by simp),LO (by simp),Kb];rfl
 have ek:=jr N (λp r=>Z p (Sh r)) ez;have R:vr b kvs[d.length]= .tup [W,X]:=by
  have h0:(kvs.map (vr b))[d.length]?=on (.tup [W,X]):=by
   rw[<-L,Lg,Ma (by simp)];simp
  rw[J9,JX O]at h0;exact KE h0
 have u:=Z _ (K5 O);generalize r:kvs[d.length]=p at R u;obtain⟨j,vv⟩:=p;simp only[vr,Pu.D.tup.injEq,MX,and_true]at R;obtain⟨rfl,rfl⟩:=R;have y:j∉d.map (·.1.1):=λhm=>by
  have h2:kvs.take d.length++(j,vv)::kvs.drop (d.length+1)=kvs:=by
   rw[<-r,<-Ls O,MG]
  rw[<-h2,<-ek,KC,Kv,O3]at Y;refine Y.2.2 j ?_ j J2 rfl;rw[Kb];exact hm
 refine⟨F,δ,β,fr,J,E0.run e1 λv H1 t hv=>⟨F,δ,β1,t.fr,J.tr (t.tr fr),E0.run e3 λv2 H2 m T=>?_⟩⟩;have U:=bt.tr (m.tr t.fr) _ _ hv;obtain⟨c,rfl,kc⟩:=vx u U;have i:=(t.tr fr).trans (m.tr t.fr);refine⟨ep,_,j,c,rfl,m.kp D _ (t.kp D _ hD B) B,λx h=>?_,kc.s,?_,?_,λA=>?_⟩
 .obtain⟨z,h',rfl⟩:=J5.mp h
  exact((C z h').1.tr i).s
 .rw[Kb];exact y
 .rw[JS];omega
 have tD:m_ F D H2 (upd H2 D (cD D b A ((d.map λz=>(z.1.1,z.2))++[(j,c,v2)]))) I:=by
  refine⟨λa o h n _=>by rw[a_ n];exact h,λa h q=>?_,fr.bgA,λb l q=>?_⟩
  .by_cases z:a=D
   .subst z;rw[af]at q;cases q
   .rw[a_ z]at q;exact m.fr.occ a h q
  .rw[a_ (B b l q).1.symm,a_ (B b l q).2.symm]
   exact m.fr.bag b l q
 have tt:=tD.tr m.fr hA;refine k σ _ (((t.trans m).toD D).trans tD) (J.tr (i.trans tt)) ⟨A,d++[((j,vv),c,v2)],by rw[KC];rfl,by rw[KC];exact af,λz h=>?_⟩;rcases Ll.mp h with h|h
 .exact⟨(C z h).1.tr (i.trans tt),bt.tr (i.trans tt) _ _ (C z h).2⟩
 .cases KN.mp h
  exact⟨kc.tr tt,bt.tr tt _ _ T⟩
theorem sw{F:Fx}{H:Hp}{α:Type}{f:α->D}{g:α->V}:∀{a:List α},(∀z∈a,bt K F H (f z) (g z))->aj K F H (a.map f) (a.map g)
 |[],_=>aj.nil
 |z::a,h=>aj.cons (h z J2) (sw λx b=>h x (J1 z b))
end
theorem ss{K:Kt}{E:St->XK}{kb:Bool}{cy:List K2}{b_:List Nat}{g:TG}{f:JY->TB}{it:FL}{tg:l0}{tt:Dn->M Bool}{b:FL}(j:cz K g tg)(k:dg tg)(l:∀D,dO K (RD K kb) D (f D) b){i:St}{H:Hp}{Q:VK}(h:tV K (gi cy.length b_ it tg tt b (jE kb)) E i H Q):
  jQ (λD=>cD D kb 0 []) cy b_ (iV K it E) (λD J=>cP J g (g8 K tt E0) (f D)) i H Q:=by
 refine o4 j k l (λF H D=>⟨0,[],rfl,af,λx a=>Kx a (by simp)⟩) (λos d e=>?_) h λF v m D os d fr c n e q=>?_
 .obtain⟨kvs,s,_⟩:=sA e
  exact⟨kvs,[],by rw[KW];exact s⟩
 .obtain⟨kvs,s,rfl⟩:=sA e
  obtain⟨ep,o,rfl,r,a⟩:=n;have t:kvs=o.map (·.1):=jr s.2.2.2 (λp u=>by
   obtain⟨z,h,rfl⟩:=J5.mp u;exact(a z h).1.z) (by rw[<-s.1,Kb];rfl)
  refine q _ _ (To.refl fr) ?_;unfold bt;subst t;refine⟨D,ep,_,rfl,⟨c,r⟩,by simp,λx h=>?_,?_⟩
  .obtain⟨z,h',rfl⟩:=J5.mp h
   exact(a z h').1
  .rw[Kb,Kb]
   exact sw λz h=>(a z h).2
section
variable{X:Cx}{E:St->XK}{ke ve bb iter:Expr}{ifs:List Expr}{rest:List LR}{scope:Scope}{pos:OH}{Nc cy:List K2}{b_:List Nat}{g:TG}{tb:JY->TB}
theorem DK{kb:Bool}(c:X.calm=JW)(S:c4 X scope Nc cy b_)(d:PI X bb iter (iV X.K it E))
  (e:∀(cl:List (K2×JY)) (C:JY) (a:List JY) (s:J4) (H:Hp),PG (ay X Nc scope cl C a s H) bb g/\dh (ay X Nc scope cl C a s H) ifs (g8 X.K tt E0)/\∀D,PB (ay X Nc scope cl C a s H) (.D ke ve) (⟨bb,iter,ifs,0⟩::rest) scope pos 0 D (tb D))
  (f:cz X.K g tg) (i:dg tg) (j:∀D,dO X.K (RD X.K kb) D (tb D) b) (hs:∀x,K6 iter X.env x=Mm x:=by intro _;rfl):
  PE X (.DictComp ke ve (⟨bb,iter,ifs,0⟩::rest) scope pos) (tV X.K (gi cy.length b_ it tg tt b (jE kb)) E):=
 (zb (b:=kb) c S d e hs).imp λk H Q h=>ss f i j h
noncomputable def gq:List D->Option (List Int)
 |[]=>on []
 | .int i::r=>(gq r).map (i::·)
 |_=>JT
def iM:Bool->D->Option d4
 |false,.tup ds=>(gq ds).map λl=>(0,l)
 |true,.tup [.int i,.tup ds]=>(gq ds).map λl=>(i,l)
 |_,_=>JT
theorem oh:∀(l:List Int),gq (l.map .int)=on l
 |[]=>rfl
 |i::l=>by show(gq (l.map .int)).map _=_;rw[oh l];rfl
theorem lu:∀{ds:List D} {l:List Int},gq ds=on l->ds=l.map .int
 |[],l,h=>by cases h;rfl
 | .int i::r,l,h=>by
  have h':(gq r).map (i::·)=on l:=h;cases q:gq r with
  |none=>rw[q]at h';cases h'
  |some m=>rw[q]at h';cases h';rw[lu q];rfl
 | .non::_,_,h=>by cases h
 | .bl _::_,_,h=>by cases h
 | .str _::_,_,h=>by cases h
 | .ty _::_,_,h=>by cases h
 | .txt::_,_,h=>by cases h
 | .lst _::_,_,h=>by cases h
 | .tup _::_,_,h=>by cases h
 | .scr _::_,_,h=>by cases h
 | .obj _ _ _::_,_,h=>by cases h
 | .bag::_,_,h=>by cases h
 | .adr _::_,_,h=>by cases h
 | .dct _ _ _::_,_,h=>by cases h
theorem i6{b:Bool}(h:w_ b k):iM b (dK b k)=on k:=by
 cases b with
 |true=>show(gq _).map _=_;rw[oh];rfl
 |false=>show(gq _).map _=_;rw[oh];exact La on (Mu (h rfl).symm rfl)
theorem rP{b:Bool}(h:iM b d=on k):w_ b k/\d=dK b k:=by
 unfold iM at h;split at h
 .rename_i ds
  cases q:gq ds with
  |none=>rw[q]at h;cases h
  |some l=>rw[q]at h;cases h;exact⟨λ_=>rfl,by rw[lu q];rfl⟩
 .rename_i i ds
  cases q:gq ds with
  |none=>rw[q]at h;cases h
  |some l=>rw[q]at h;cases h;exact⟨λz=>(by cases z),by rw[lu q];rfl⟩
 .cases h
noncomputable def H_(ks:List d4)(vs:List D)(k:d4):Option D:=((ks.zip vs).find? λp=>decide (p.1=k)).map (·.2)
variable{K:Kt}{F:Fx}{H:Hp}
def WA(K:Kt)(F:Fx)(H:Hp):Option D->Option V->Prop
 |none,v=>v=JT
 |some d,v=>∃u,v=on u/\bt K F H d u
theorem xM:∀{xs:List (d4×JY×V)} {vs:List D},aj K F H vs (xs.map (·.2.2))->WA K F H (H_ (xs.map (·.1)) vs k) (t5 xs k)
 |[],vs,_=>by unfold H_ t5;rfl
 |x::xs,vs,h=>by
  cases vs with
  |nil=>cases h
  |cons d vs=>
   obtain⟨u,r,e,a,b⟩:=h;rw[Kv,MX]at e;obtain⟨rfl,rfl⟩:=e;have ih:=xM (k:=k) b;unfold H_ t5 at ih⊢;rw[Kv,MD,M9,M9];by_cases q:x.1=k
   .rw[Km q];exact⟨_,rfl,a⟩
   .rw[K0 q];exact ih
def vR:D->D->Option D
 | .dct b ks vs,y=>(iM b y).bind (H_ ks vs)
 |_,_=>JT
theorem vq:aV K (GP K) vR:=λF H β Q d1 d2 d y A fr h i e k=>by
 unfold vR at e;split at e
 .rename_i b ks vs
  cases q:iM b d2 with
  |none=>rw[q]at e;cases e
  |some f=>
   rw[q]at e;have j:H_ ks vs f=on d:=e;obtain⟨l,rfl⟩:=rP q;obtain⟨c,rfl,m⟩:=vx l i;unfold bt at h;obtain⟨a,ep,xs,rfl,n,rfl,o,p⟩:=h;have:=xM (k:=f) p;rw[j]at this;obtain⟨u,r,t⟩:=this;exact⟨a,b,ep,xs,f,c,u,rfl,rfl,n.2,λx v=>(o x v).s,m.s,r,k u H (To.refl fr) t⟩
 .cases e
variable{o e:Expr}{es:List Expr}{apos cpos:OH}
end
end L2.Pu
namespace L2.Hs
open PySem PySem.Spec PyProof.Rows
section
variable{prog:KF}{w:K1}{A:Lf}{E:J0->J4->Prop}{s:J4}{d it v:JY}{od:KS}{es:Array Mo}{ep i:Nat}{ok ov:J0}
theorem vW(a:s.TypeIs (.ref d) "dict")(hd:(d==OA)=JZ)(h:Q (.ref s.heap.objs.size) {s with heap:=s.heap.push {cls:= .type "dict_items",data:= .fields #[.ref d]}}):Ke (Ky prog w) A (Qu (.builtin "dict.items") [.ref d]) Q E s:=by
 refine KR F.slot_dict_items a F.entry_dict_items ?_ (F.args_dict_items_1 _);unfold Builtin.«dict.items»;refine JR ?_;unfold Builtin.Dict.noArgs;refine JR (wpAny_notOrdered_dict a ?_);show Ke _ _ (Mm d) _ _ s;refine JU ?_;show Ke _ _ (NQ d>>=_) _ _ s;unfold NQ;rw[J6 (by rw[hd];exact J7)];exact JR (JU (JR (KU (JU ⟨_,rfl,h⟩))))
theorem vF(a:s.heap.IsItemsView v d)(e:s.heap.get? d=on od)(hd:od.data= .dict es ep)
  (h:Q (.ref s.heap.objs.size) {s with heap:=s.heap.push {cls:= .type "dict_itemiterator",data:= .fields #[.none,.bool JZ,.ref d,.int 0 0,.int es.size 0,.int ep 0,.none,.none]}}):Ke (Ky prog w) A (P4 (.ref v)) Q E s:=by
 obtain⟨o,b,f,c⟩:=id a;refine Om a.typeIs Sv (KR Sv a.typeIs F.entry_dict_items_iter ?_ (F.args_dict_items_iter_1 _));unfold Builtin.«dict_items.__iter__»;refine JR (JU (JR ?_));unfold Builtin.Dict_items.dictOf;refine JR (Lu b c (x:= .ref d) rfl (JU (JR ?_)));unfold Builtin.Dict_items.newIterator;refine JR (NH e hd (JR (N3 e hd ?_)));simp only[show Me "dict_itemiterator"=JW from by decide,K8];refine KU (JU ⟨_,rfl,"dict_itemiterator",_,⟨_,Kf _ rfl,rfl⟩,LY.lookup,?_⟩)
  (by simp only[sizeOk,OO,Kh,Kg,Kq,NR,LZ];omega)
 simpa[Nl,OO]using h
theorem vD(a:Pe s.heap it d i es.size ep ok ov)(h:Q (.ref it) s):Ke (Ky prog w) A (P4 (.ref it)) Q E s:=by
 have c:s.TypeIs (.ref it) "dict_itemiterator":=⟨_,a,rfl⟩;refine Om c Q8 (KR Q8 c (b:=Builtin.«dict_keyiterator.__iter__») (RZ (id':="dict_keyiterator.__iter__") (by kernel_rfl) rfl (by decide +kernel) (by kernel_rfl)) ?_ (F.args_dict_itemiterator_iter_1 _));show Ke _ _ (ret (.ref it)) _ _ s;exact JU ⟨_,rfl,"dict_itemiterator",_,c,LY.lookup,h⟩
theorem vE{e:Mo}(l:Pe s.heap it d i es.size ep ok ov)(ho:s.heap.get? d=on od)(hd:od.data= .dict es ep)(X:es[i]?=on e)
  (hQ:∀h',IsItemIterOut h' it d (i+1) es.size ep e.key e.val s.heap.objs.size->h'.get? s.heap.objs.size=on {cls:= .type "tuple",data:= .seq #[e.key,e.val]}->h'.objs.size=s.heap.objs.size+1->
   (∀b o,b≠it->s.heap.get? b=on o->h'.get? b=on o)->Q (on (.ref s.heap.objs.size)) {s with heap:=h'}):Ke (Ky prog w) A (Nx (.ref it)) Q E s:=by
 obtain⟨m,g,R,T,os⟩:=s;have t:Shared.TypeIs ⟨m,g,R,T,os⟩ (.ref it) "dict_itemiterator":=⟨_,l,rfl⟩;have U:i<es.size:=by
  rcases Qt i es.size with h|h
  .exact h
  .simp[Mv h]at X
 obtain rfl:es[i]=e:=by rw[Ny U]at X;exact KE X
 unfold Nx;refine JR (Nu (wpAny_callSpecial?_slot (name:=LQ "__next__") t LY
  (KR LY t QU ?_ (QK _))))
 refine JR (JU (JR (JR ?_)))
 first|refine JR (M7 t (JU ?_))|refine JR (NW t (JU ?_))
 refine JR (Ol l rfl ?_);simp only[show Me "dict_itemiterator"=JW from by decide,K8];show Ke _ _ (if(Ko d==KZ)=JW then _ else _) _ _ _;rw[J6 (show ¬((Ko d==KZ)=JW)from J7)];refine JR (JU (JR (NH ho hd ?_)));rw[J6 (by simp)];refine JR (JU (JR (N3 ho hd ?_)));rw[J6 (by simp)];refine JU ?_;simp only[show ¬((i:Int)<0)from by omega,Lb,Lm,Ny U];refine JR ?_
 first|refine JR (M7 t (JU ?_))|refine JR (NW t (JU ?_))
 refine JR (P6 t ?_);show Ke _ _ (Qm (.ref it) 3 (Nl ((i:Int)+1))>>=_) _ _ ⟨m,g,R,T,os⟩;refine JR (LG l (by simp) λh₁ a c=>?_)
 replace c:KI it m h₁:=c
 replace a:Pe h₁ it d (i+1) es.size ep ok ov:=by
  have e:((i+1:Nat):Int)=(i:Int)+1:=by omega
  unfold Pe;rw[e];simpa[Nl]using a
 have k:Shared.TypeIs ⟨h₁,g,R,T,os⟩ (.ref it) "dict_itemiterator":=⟨_,a,rfl⟩;refine JR (Ln (JR (P6 k (JR (P6 k ?_)))));show Ke _ _ (O9 (.ref it) 6 es[i].key es[i].val) _ _ ⟨h₁,g,R,T,os⟩;unfold O9;refine JR (R8 ?_);have f:Pe (h₁.push {cls:= .type "tuple",data:= .seq #[es[i].key,es[i].val]}) it d (i+1) es.size ep ok ov:=JV _ a;have j:h₁.objs.size=m.objs.size:=c.1;have Y:it≠m.objs.size:=K7 (Kr l);have u:(h₁.push {cls:= .type "tuple",data:= .seq #[es[i].key,es[i].val]}).get? m.objs.size=on {cls:= .type "tuple",data:= .seq #[es[i].key,es[i].val]}:=by rw[<-j];exact Kf _ rfl
 have y:(h₁.push {cls:= .type "tuple",data:= .seq #[es[i].key,es[i].val]}).objs.size=m.objs.size+1:=by rw[L9,j]
 have B:∀b o,b≠it->m.get? b=on o->(h₁.push {cls:= .type "tuple",data:= .seq #[es[i].key,es[i].val]}).get? b=on o:=λb o W e=>JV _ (c.extBut b o W e);generalize h₁.push {cls:= .type "tuple",data:= .seq #[es[i].key,es[i].val]}=h₂ at*;show Ke _ _ (OP (.ref it)>>=_) _ _ ⟨h₂,g,R,T,os⟩;rw[j];refine JR ?_;unfold OP;refine JR (Lu f rfl (x:= .none) rfl (JU ?_));simp only[K8];refine JR (Lu f rfl (x:=ok) rfl (JR (Lu f rfl (x:=ov) rfl ?_)));refine JR (LG f (by simp) λn C F=>?_);refine JR (LG C (by simp) λp H I=>?_);refine JR (LG H (by simp) λq J L=>?_);refine JR (LG J (by simp) λr N O=>?_);have Z:=((show KI it h₂ n from F).trans (show KI it n p from I)).trans ((show KI it p q from L).trans (show KI it q r from O));exact JR (Rq (JU (JU ⟨_,rfl,JU (hQ r N (Z.extBut _ _ Y.symm u) (by rw[Z.1,y]) λb o W e=>Z.extBut b o W (B b o W e))⟩)))
theorem xZ(g:A.handled=JT)(c:Pe s.heap it d i es.size ep ok ov)(f:s.heap.get? d=on od)(hd:od.data= .dict es ep)(h:es.size<=i)
  (j:∀h',PU it s.heap h'->Q JT {s with heap:=h'}):Ke (Ky prog w) A (Nx (.ref it)) Q E s:=by
 have e:s.TypeIs (.ref it) "dict_itemiterator":=⟨_,c,rfl⟩;unfold Nx;refine JR (Nu (wpAny_callSpecial?_slot (name:=LQ "__next__") e LY
  (KR LY e QU ?_ (QK _))))
 refine JR (JU (JR (JR ?_)))
 first|refine JR (M7 e (JU ?_))|refine JR (NW e (JU ?_))
 refine JR (Ol c rfl ?_);simp only[show Me "dict_itemiterator"=JW from by decide,K8];show Ke _ _ (if(Ko d==KZ)=JW then _ else _) _ _ s;rw[J6 (show ¬((Ko d==KZ)=JW)from J7)];refine JR (JU (JR (NH f hd ?_)));rw[J6 (by simp)];refine JR (JU (JR (N3 f hd ?_)));rw[J6 (by simp)];refine JU ?_;simp only[show ¬((i:Int)<0)from by omega,Lb,Lm,Mv h];refine JR ?_
 first|refine JR (M7 e (JU ?_))|refine JR (NW e (JU ?_))
 show Ke _ _ (Qm (.ref it) 2 .none>>=_) _ _ s;refine JR (M6 c rfl (by simp) ?_);show Ke _ _ (Rh (.type "StopIteration") []>>=_) _ _ _;refine JR ?_;simp only[Rh,newTuple];refine JR (KU ?_ (by size_fits));refine JR (m:=M5 _ _) (Ng (a:=KZ) (by first|rfl|(simp only[M5];rfl)) ?_)
 refine KU ?_ (by size_fits);simp only[R6];refine JR (QA ?_);rw[show A.in1.handled=JT from g];refine JR (JU (Rr ?_));refine JR (L8 (T:="StopIteration") (b:=JW) ⟨_,Kf _ rfl,rfl⟩ Ql ?_);exact JU (j _ (((LA ..).extBut.push _).push _))
end
end L2.Hs
namespace L2.Pu
open PySem PySem.Spec PyProof.Rows L2.Hs
noncomputable def WD(a:JY)(ep n:Nat):It:=
 ⟨λi H=>∃b xs,H a=on (cD a b ep xs)/\xs.length=n/\i<n,
  λi H v c=>∃p x,H p=JT/\v= .ref p/\c=upd H p (.tup [.ref x.1,x.2])/\∀b xs,H a=on (cD a b ep xs)->(xs[i]?).map (·.2)=on x,
  λi H=>∃b xs,H a=on (cD a b ep xs)/\xs.length=n/\i=n⟩
theorem BM:∀{xs:List (d4×JY×V)} {ys:List (d4×JY×J0)} {i:Nat} {y:d4×JY×J0},OS XY xs ys->ys[i]?=on y->∃x,xs[i]?=on x/\XY x y
 |_,_,0,_,.cons h t,e=>by cases e;exact⟨_,rfl,h⟩
 |_,_,i+1,_,.cons h t,e=>BM (i:=i) t e
 |_,_,0,_,.nil,e=>by cases e
 |_,_,_+1,_,.nil,e=>by cases e
section
variable{X:Cx}{ai:List (JY×KS)}{σ:St}{H:Hp}{s:J4}{a:JY}{b:Bool}{ep i:Nat}{xs:List (d4×JY×V)}
theorem nG(I:cp X ai σ H s)(h:H a=on (cD a b ep xs)):∃(o:KS) (es:Array Mo),s.heap.get? a=on o/\o.data= .dict es ep/\es.size=xs.length/\o.ExactDict/\(a==OA)=JZ/\∀(i:Nat) (e:Mo),es[i]?=on e->∃x,xs[i]?=on x/\e.key= .ref x.2.1/\aI x.2.2 e.val:=by
 obtain⟨o,es,ys,j,k,l,d,u,m,v,g⟩:v7 a b ep xs s.heap:=(I.hok a _ h).1;have n:ys.length=xs.length:=by rw[<-JS (f:=(·.1)),<-iP g,JS]
 refine⟨o,es,j,l,by rw[<-KG,d,JS,n],k,m,λi e c=>?_⟩;rw[<-MC,d,J9]at c;cases q:ys[i]? with
 |none=>rw[q]at c;cases c
 |some y=>
  rw[q]at c;cases c;obtain⟨x,p,_,r,t⟩:=BM g q;exact⟨x,p,by rw[r],t⟩
theorem uN{P:KF}{w:K1}{K:Kt}{x1}(a it:JY)(n ep:Nat):
  oa P w K (.Tuple elts x1 pos) (WD a ep n) [it] it (λi h=>∃ok d,Pe h it a i n ep ok d) where
 mem:=by simp
 obj:=λi h st b c=>by
  obtain⟨ok,d,e⟩:=st;cases KN.mp c;exact⟨_,e,λv q=>by cases q⟩
 keep:=λi h h' st k=>by
  obtain⟨ok,d,e⟩:=st;exact⟨ok,d,k it (by simp) _ e⟩
 item:=by
  intro X m p r J i ai s σ H E I f st t;subst m p r;obtain⟨ok,d,e⟩:=st;obtain⟨b,xs,A,W,L⟩:=t;obtain⟨o,es,g,j,Y,h4,h5,Z⟩:=nG I A;have hn:n=es.size:=by omega
  subst hn;have B:es[i]?=on es[i]:=Ny L;refine vE e g j B λh' io gt sz kp=>⟨_,rfl,wpAny_letOwnedTupleGo_items (s:={s with heap:=h'}) io λC ei N=>?_⟩;obtain⟨x,ex,O,Q⟩:=Z i _ B;have R:s.heap.objs.size≠it:=Mz (Kr e);have I2:cp X ai σ (upd H s.heap.objs.size (.tup [.ref x.2.1,x.2.2])) {s with heap:=C,toks:=s.toks}:=
   cp.turnNew I f (λb u c q=>N.extBut b u (λz=>c (by rw[z];simp)) (kp b u (λz=>c (by rw[z];simp)) q)) (J3 _) ⟨by show 2<=Ki;decide,[es[i].key,es[i].val],.cons O (.cons Q .nil),_,N.extBut _ _ R gt,rfl,_,rfl⟩
  refine⟨.ref s.heap.objs.size,_,I2,rfl,⟨s.heap.objs.size,x.2,I.hok.fresh (J3 _),rfl,rfl,λb' xs' F=>?_⟩,⟨_,_,ei⟩,λb c=>?_⟩
  .obtain⟨o',es',T,U,_,_,_,g6⟩:=nG I F
   rw[g]at T;cases T;rw[j]at U;cases U;obtain⟨y,ey,l,fv⟩:=g6 i _ B;rw[ey];rw[O]at l
   injection l with l
   exact La on (Mu l.symm (aI.inj fv Q))
  .cases KN.mp c
   rw[a_ R.symm];exact(f _ c).1
 done:=by
  intro X m p r J i ai s σ H E I f st t;subst m p r;obtain⟨ok,d,e⟩:=st;obtain⟨b,xs,A,W,L⟩:=t;obtain⟨o,es,g,j,Y,_⟩:=nG I A;have hn:n=es.size:=by omega
  subst hn;refine xZ (I.ok.hd J) e g j (by omega) λh' kp=>⟨rfl,cp.turnL (t':=s.toks) I f λb o c q=>kp b o (λz=>c (by rw[z];simp)) q⟩
 self:=λ_ _ _ _ _ st h=>by
  obtain⟨ok,d,e⟩:=st;exact vD (es:=(Ks n (⟨0,.none,.none⟩:Mo)).toArray) (by rw[Kh,LX];exact e) h
variable{E:St->XK}{K:Kt}{o:Expr}{apos cpos tpos:OH}{elts:List Expr}{x1:Nat}
def Vo(to:TE):TI:=λσ H R=>to σ H λx H1=>∃a b ep xs,x= .ref a/\H1 a=on (cD a b ep xs)/\R (WD a ep xs.length) H1
theorem y9(n:PE X o to)(c:SI o "items" X.env (LC o X.env)=LC o X.env:=by rfl)(d:(apos.endLine==cpos.line)=JW:=by rfl):PI X (.Tuple elts x1 tpos) (.Call (.Attribute o "items" apos) [] [] cpos) (Vo to):=by
 intro ai s σ H R I h;refine wpAny_Call_method0_late c d (d_ (n ai s σ H _ I h) λv f g=>?_);obtain⟨x,H1,m,p,a,b,ep,xs,rfl,r,q⟩:=g;cases p;obtain⟨j,es,g,t,u,k,y,_⟩:=nG m r;refine⟨"dict","dict.items",PySem.F.plainAttrs_dict,PySem.F.slot_dict_items,PySem.F.type_dict_items,⟨j,g,k.1⟩,λb e=>?_,?_⟩
 .cases e;exact⟨j,g,k.2.1⟩
 refine Ru rfl (PySem.evalArgs_none (vW ⟨j,g,k.1⟩ y ?_));have l:cp X ai σ H1 {f with heap:=f.heap.push {cls:= .type "dict_items",data:= .fields #[.ref a]},toks:=f.toks}:=m.kept λb o e=>JV _ e;refine vF (s:={f with heap:=f.heap.push {cls:= .type "dict_items",data:= .fields #[.ref a]}}) ⟨_,Kf _ rfl,rfl,rfl⟩ (JV _ g) t ?_;rw[u];exact⟨_,[_],_,_,H1,rfl,l.kept (t':=f.toks) λb o e=>JV _ e,uN a _ _ ep,⟨_,_,Kf _ rfl⟩,λb A=>by
  cases KN.mp A;exact l.fpOk (J3 _) (l.hok.fresh (J3 _)),q⟩
def Vk:D->Option (List D)
 | .dct b ks vs=>on (OD (λk v=> .tup [dK b k,v]) ks vs)
 |_=>JT
theorem x3{F:Fx}{H:Hp}{b:Bool}{a:JY}{ep:Nat}{xs:List (d4×JY×V)}(C:¬F.A a)(I:H a=on (cD a b ep xs))(g:ks=xs.map (·.1))(J:∀x∈xs,ef K F H b x.1 x.2.1)(h:aj K F H vs (xs.map (·.2.2))):s9 K (WD a ep xs.length) F H (OD (λk v=> .tup [dK b k,v]) ks vs):=λT j β2 t fr i=>by
 have L:vs.length=xs.length:=by rw[h.length,JS]
 have N:ks.length=xs.length:=by rw[g,JS]
 have c:=t.kp a _ C I;refine⟨λd hd=>?_,λe=>⟨b,xs,c,rfl,by rw[e,Sy,N,L,Nat.min_self]⟩⟩;have e:i<xs.length:=by
  have:=(Kc.mp hd).1;rw[Sy]at this;omega
 refine⟨⟨b,xs,c,rfl,e⟩,λy U O=>?_⟩;obtain⟨p,x,l,rfl,rfl,Q⟩:=O;have m:=Q b xs c;rw[JX e]at m;have f:xs[i].2=x:=KE m;subst f;have n:bH j (upd j p (.tup [.ref xs[i].2.1,xs[i].2.2])):=bH.upd l;obtain⟨v,q⟩:∃v,vs[i]?=on v:=⟨_,JX (by omega)⟩;have R:ks[i]?=on xs[i].1:=by rw[g,J9,JX e];rfl
 rw[List.getElem?_zipWith,R,q]at hd;cases hd;have d2:=aj.tr t _ _ h;obtain⟨u,r,du⟩:=d2.get q;rw[J9,JX e]at r;cases r;have B:=(fr.same n).tr fr;exact⟨n,mB (.inl ⟨fr.fresh l,.inl af⟩) (aj.cons (bt.tr B _ _ (u9 ((J _ (K5 e)).tr t))) (aj.cons (bt.tr B _ _ du) aj.nil))⟩
def U_(f:FD):FL:=λδ=>M.bind (f δ) λd=>M.ofO (Vk d)
theorem ua(m:PE X o (tV X.K f E))(c:SI o "items" X.env (LC o X.env)=LC o X.env:=by rfl)(g:(apos.endLine==cpos.line)=JW:=by rfl):PI X (.Tuple elts x1 tpos) (.Call (.Attribute o "items" apos) [] [] cpos) (iV X.K (U_ f) E):=
 (y9 m c g).imp λσ H R j=>j1 j λF δ β fr n h=>⟨F,δ,β,fr,n,(run.bind (R:=bt X.K F) h).mono λv H1 j=>by
  obtain⟨d,β1,t,hd,p⟩:=j;obtain⟨ds,e,k⟩:=run.ofO p;cases d<;>first|(cases e;done)|skip
  cases e;unfold bt at hd;obtain⟨a,ep,xs,rfl,l,q,r,u⟩:=hd;exact⟨a,_,ep,xs,rfl,l.2,k _ H1 (To.refl t.fr) (x3 l.1 l.2 q r u)⟩⟩
end
end L2.Pu
namespace L2.Hs
open PySem PySem.Spec PyProof.Rows
theorem tR:mroOf (.type "reversed")=Mm [.type "reversed",.type "object"]:=by rw[mroOf_type];kernel_rfl
theorem zr:typeLookup (.type "reversed") "__new__"=Mm (on (.builtin "reversed.__new__")):=by rw[Rz,Qd];kernel_rfl
theorem zm:Bind.madeBy (.type "reversed")=Mm (on "reversed.__new__"):=madeBy_type tR zr (by decide +kernel)
theorem DQ:isSubtype (.type "reversed") (.type "reversed")=Mm JW:=by rw[Oj];kernel_rfl
theorem yR:isSubtype (.type "range_iterator") (.type "reversed")=Mm JZ:=by rw[Oj];kernel_rfl
theorem FR:entryFor table "reversed.__new__"=on Builtin.«reversed.__new__»:=entryFor_of_tree (by kernel_rfl)
section
variable{prog:KF}{w:K1}{A:Lf}{E:J0->J4->Prop}{s:J4}
theorem zR(a:IsRange s.heap r 0 n 1 t u v)(j:0<=n)(g:n<2^62)
  (h:Q (.ref s.heap.objs.size) {s with heap:=s.heap.push {cls:= .type "range_iterator",data:= .fields #[Nl (n-1),Nl n,Nl (-1)]}}):Ke (Ky prog w) A (Qu (.type "reversed") [.ref r]) Q E s:=by
 refine wpAny_call (codeAny_of_tree ?_);show Ke _ _ (callAny (.type "reversed") _) _ _ _;refine JU ⟨Code.quiet_builtin _ (by decide +kernel),OV F.entry_type_call ?_⟩;rw[Around.under_plain (weight_type_call_type "reversed" [.ref r] []) (units_type_call_type "reversed" [.ref r] [])];have g:(M1 "reversed"==M1 "type")=JZ:=by decide +kernel
 have k:((SZ "reversed").bind (·.mro.findSome? λt=>(SZ t).bind λb=>if b.noNew then on JW else if b.attrs.any (·.1=="__new__")then on JZ else JT)).getD JZ=JZ:=by decide +kernel
 have e:=tR;have c:=zm;have i:checkTypeCall "reversed" ⟨[.ref r],[]⟩=Mm ():=by kernel_rfl
 repeat (any_goals (first|assumption|wp_step))
 refine codeAny_call_builtin (by decide +kernel) FR (Ng (show checkBuiltinCall "reversed.__new__" ⟨[.type "reversed",.ref r],[]⟩=Mm () by kernel_rfl) ?_);have f:s.TypeIs (.ref r) "range":=⟨_,a,rfl⟩;unfold Builtin.«reversed.__new__»
 repeat (any_goals (first|assumption|wp_step))
 refine Ng DQ (JU ?_);refine JR (m:=O1 _ _ _) ?_;refine Ng (show O1 "reversed" (M1 "reversed") ⟨[.type "reversed",.ref r],[]⟩=Mm ()from rfl) ?_;refine JR (m:=checkCount "reversed" 1 1 _) (JU ?_);show Ke _ _ (specialOf (.ref r) (LQ "__reversed__")>>=_) _ _ s;refine JR (MR f F.slot_range_reversed.lookup ?_);show Ke _ _ (bindSpecial (.builtin "range.__reversed__") (.ref r)>>=_) _ _ s;refine JR (Ng (F.slot_range_reversed.bind _) ?_);show Ke _ _ (rule "reversed.__new__.own-method">>=_) _ _ s;refine JR (M0 (JR (R9 (codeAny_call_builtin F.slot_range_reversed.plain F.entry_range_reversed (F.slot_range_reversed.check _ _ _ _ _ _ _ _ f (F.args_range_reversed_1 _) ?_)))));unfold Builtin.«range.__reversed__»;refine JR (m:=selfOnly "range.__reversed__" _) (JU (JR ?_));unfold Builtin.Range.rangeFields;refine JR (Lu a rfl (x:= .int 0 t) rfl (JR (m:=asInt? _) (JU ?_)));refine JR (Lu a rfl (x:= .int n u) rfl (JR (m:=asInt? _) (JU ?_)));refine JR (Lu a rfl (x:= .int 1 v) rfl (JR (m:=asInt? _) (JU (JU ?_))));have hn:Ot 0 n 1=n:=by rw[rangeSize_one];split<;>omega
 simp only[hn];have d:(Lr 0&&Lr n&&Lr 1&&Lr (-1)&&Lr (0-1)&&Lr n)=JW:=by
  have:Lr n=JW:=by unfold Lr;simp;omega
  rw[this];decide
 simp only[d,K8,Mx,Kn,Lb];rw[show(0:Int)+(n-1)*1=n-1 by omega];refine JR (KU (JU (JU ?_)));exact JR (L8 (T:="range_iterator") (b:=JZ) ⟨_,Kf _ rfl,rfl⟩ yR (JR (M0 (JU h))))
end
end L2.Hs
namespace L2.Pu
open PySem PySem.Spec PyProof.Rows L2.Hs
noncomputable def UL(n:Nat):It:=⟨λi _=>i<n,λi H v a=>v= .int ((n:Int)-1-i)/\a=H,λi _=>n<=i⟩
theorem lr{P:KF}{w:K1}{K:Kt}(it:JY)(n:Nat):oa P w K tg (UL n) [it] it (λi h=>Qi h it ((n:Int)-1+(i:Nat)*-1) ((n:Int)-(i:Nat)) (-1)) where
 mem:=by simp
 obj:=λi h st b c=>by
  cases KN.mp c;exact⟨_,st,λv z=>by
   have C:Data.fields _=Data.cell v:=z;cases C⟩
 keep:=λi h h' st k=>k it (by simp) _ st
 item:=by
  intro X g j l m i a s A H E I f st p;subst g j l;obtain⟨q,f1,f2,r,u,y⟩:=f it (by simp);refine(Walks.range (prog:=X.prog) (w:=X.w) (I.ok.hd m) it ((n:Int)-1) (-1) n).item i s _ _ p st λv h' B F d J=>?_;obtain⟨t,rfl⟩:=F;have L:cp X a A H {s with heap:=h',toks:=B}:=I.turned (λb o c e=>J b o (by simpa using c) e) q f1 r u y;exact⟨_,rfl,qg (s:={s with heap:=h',toks:=B}) (n:="range_iterator") d rfl rfl (by decide) ⟨.int ((n:Int)-1-i),H,L,⟨t,by rw[show(n:Int)-1+(i:Int)*-1=(n:Int)-1-i by omega]⟩,⟨rfl,rfl⟩,d,λb c=>(f b c).1⟩⟩
 done:=by
  intro X g j l m i a s A H E I f st p;subst g j l;obtain⟨q,f1,f2,r,u,y⟩:=f it (by simp);exact TC (I.ok.hd m) st (by have:n<=i:=p;omega) λh' N=>⟨rfl,I.turned (t':=s.toks) (λb o c e=>N b o c e) q f1 r u y⟩
 self:=λ_ _ _ _ _ st h=>P7 st h
section
variable{X:Cx}{E:St->XK}{K:Kt}{tg:Expr}
def JF(a:TA):TI:=λb H R=>a b H λvs H1=>∃j:Int,vs=[.int j]/\0<=j/\j<2^62/\R (UL j.toNat) H1
theorem xm(f:Gl X "reversed")(g:X.mg "reversed"=JT)(m:Gl X "range")(hm:X.mg "range"=JT)(ha:PA X [a] ta)(hs:Kj [a] X.env=[(JZ,LC a X.env)]:=by rfl)
  (i:Kj [.Call (.Name "range" p) [a] [] pos] X.env=[(JZ,LC (.Call (.Name "range" p) [a] [] pos) X.env)]:=by rfl):PI X tg (.Call (.Name "reversed" p2) [.Call (.Name "range" p) [a] [] pos] [] pos2) (JF ta):=by
 intro c s l H R I h;refine Call_ (eE I f g PyProof.Rows.Boot.«reversed» (Lw ?_ i rfl));refine Ss (Call_ (eE I m hm RV (Lw (d_ (ha pos c s l H _ I h) λus d n=>?_) hs rfl)));obtain⟨vs,H1,r,v,j,rfl,q1,q2,q⟩:=n;obtain⟨u,rfl,t,rfl⟩:=ic v;refine call_range_1 (SQ (zR (Rv ..) q1 q2 (P7 (x:=j-1) (left:=j) (step:=-1) (Kf _ rfl) ?_)));have k:cp X c l H1 {d with heap:=d.heap.push {cls:= .type "range",data:= .fields #[.int 0 d.toks,.int j t,.int 1 (d.toks+1)]},toks:=d.toks+1+1}:=r.kept λb o e=>JV _ e;refine⟨_,[_],_,_,H1,rfl,k.kept (t':=d.toks+1+1) λb o e=>JV _ e,lr _ j.toNat,?_,λb y=>?_,q⟩
 .show Qi _ _ (((j.toNat:Nat):Int)-1+((0:Nat):Int)*-1) (((j.toNat:Nat):Int)-((0:Nat):Int)) (-1)
  rw[show((j.toNat:Nat):Int)-1+((0:Nat):Int)*-1=j-1 by omega,show((j.toNat:Nat):Int)-((0:Nat):Int)=j by omega];exact Kf _ rfl
 .cases KN.mp y
  exact k.fpOk (J3 _) (k.hok.fresh (J3 _))
noncomputable def c7(n:Nat):List D:=(Ka n).map λ(i:Nat)=> .int ((n:Int)-1-i)
theorem m9:s9 K (UL n) F H (c7 n):=λe f β2 t fr i=>by
 refine⟨λd hd=>?_,λa=>?_⟩
 .unfold c7 at hd
  have a:i<n:=by
   have:=(Kc.mp hd).1;simpa using this
  rw[J9,Li a]at hd;cases hd;exact⟨a,λx g ⟨b,c⟩=>by subst b c;exact⟨bH.refl _,rfl⟩⟩
 .show n<=i
  rw[a];simp[c7]
def pY:List D->Option (List D)
 |[.int j]=>if(decide (0<=j)&&decide (j<2^62))=JW then on (c7 j.toNat)else JT
 |_=>JT
theorem zG(b:Gl X "reversed")(c:X.mg "reversed"=JT)(j:Gl X "range")(hm:X.mg "range"=JT)(ha:PA X [a] (hW X.K g E))(hs:Kj [a] X.env=[(JZ,LC a X.env)]:=by rfl)
  (d:Kj [.Call (.Name "range" p) [a] [] pos] X.env=[(JZ,LC (.Call (.Name "range" p) [a] [] pos) X.env)]:=by rfl):PI X tg (.Call (.Name "reversed" p2) [.Call (.Name "range" p) [a] [] pos] [] pos2) (iV X.K (dF pY g) E):=
 (xm b c j hm ha hs d).imp λq H R f=>j1 f λF δ β fr m h=>⟨F,δ,β,fr,m,(run.bind (R:=aj X.K F) h).mono λvs H1 f=>by
  obtain⟨ds,β1,t,hd,n⟩:=f;obtain⟨l,e,k⟩:=run.ofO n;unfold pY at e;split at e
  .split at e
   .rename_i i
    cases e;simp only[Kz,KV]at i;obtain⟨v,rfl,o⟩:=aj.one hd;cases o.int;exact⟨_,rfl,i.1,i.2,k _ H1 (To.refl t.fr) m9⟩
   .cases e
  .cases e⟩
variable{e m:Expr}{te tm:TE}{pos p2:OH}
theorem y7(a:List J0):Tg a.toArray JT JT (on (-1))=a.reverse.toArray:=by
 have b:NN JT JT (on (-1)) a.toArray.size=((a.length:Int)-1,-1,-1):=by simp[NN]
 unfold Tg;rw[b];refine La _ ?_;have c:sliceRange ((a.length:Int)-1) (-1) (-1)=(Ka a.length).map λk=>a.length-1-k:=by
  unfold sliceRange;have d:(if(-1:Int)>0 then(if(a.length:Int)-1< -1 then(-1-((a.length:Int)-1)+-1-1)/ -1 else 0)else(if(a.length:Int)-1>-1 then((a.length:Int)-1- -1- -1-1)/(- -1)else 0)).toNat=a.length:=by
   rw[J6 (by decide)];split
   .rw[show(- -1:Int)=1 by decide,Int.ediv_one];omega
   .omega
  simp only[d];exact K9 λk _=>by omega
 show(sliceRange ((a.length:Int)-1) (-1) (-1)).filterMap _=_;rw[c,SV];rcases a with _|⟨x,r⟩
 .rfl
 generalize j:x::r=a;rw[rY (g:=λk=>a.getD (a.length-1-k) x) λk f=>by
  have:k<a.length:=Kw.mp f;simp only[PQ,PN];rw[Kd,JX (by omega)];rfl]
 refine NC (by simp) λi h l=>?_;have n:i<a.length:=by simpa using h
 rw[ND,OL,Sg,Kd,JX (by omega)];rfl
def UR(K:Kt)(te tm:TE):TE:=λc H Q=>te c H λx H1=>tm c H1 λy b=>∃a xs,x= .ref a/\y= .int (-1)/\e_ K b a xs/\∀p,b p=JT->Q (.ref p) (upd b p (.lst xs.reverse))
theorem G0(n:PE X e te)(hm:PE X m tm):PE X (.Subscript e (.Slice JT JT (on m) p2) pos) (UR X.K te tm):=by
 intro c s f H Q I h;refine Subscript_ (d_ (n c s f H _ I h) λv o p=>?_);obtain⟨x,H1,r,B,q1⟩:=p;refine wpAny_Slice ?_;rw[SJ];refine JU (JU ?_);rw[evalPart_some];refine d_ (hm c o f H1 _ r q1) λu d C=>?_;obtain⟨y,F,g,J,a,xs,rfl,rfl,sq,q⟩:=C;cases B;obtain⟨t,rfl⟩:=J;obtain⟨its,i,j,k⟩:=g.list sq;have l:cp X c f F {d with heap:=d.heap.push {cls:= .type "slice",data:= .fields #[.none,.none,.int (-1) t]}}:=g.kept (t':=d.toks) λb L q=>JV _ q;show Ke (Ky X.prog X.w) X.A (SL e (.Slice JT JT (on m) p2) (.ref a) (.ref d.heap.objs.size)) (EP X c f Q) X.xe {d with heap:=d.heap.push {cls:= .type "slice",data:= .fields #[.none,.none,.int (-1) t]}};refine tail_any (ops:=[.ref a,.ref d.heap.objs.size]) (j.isList.push _).typeIs slot_list_getitem.lookup (SM (j.isList.push _) (QL ..) .none .none (.int (-1) t) (by simp) ?_ (by rw[Kh,<-i.length];exact k)) (by with_unfolding_all rfl)
 rw[y7];exact⟨.ref _,_,l.lnew (t':=d.toks) (its:=its.reverse) (ys:=xs.reverse) i.reverse (by rw[Sx];exact k),rfl,q _ (l.hok.fresh (J3 _))⟩
noncomputable def GN:D->D->Option D
 | .lst ds,.int (-1)=>on (.lst ds.reverse)
 |_,_=>JT
theorem aj.reverse:∀{ds:List D} {xs:List V},aj K F H ds xs->aj K F H ds.reverse xs.reverse
 |[],xs,h=>by have q:xs=[]:=h;subst q;exact aj.nil
 |d::ds,xs,h=>by
  obtain⟨x,r,rfl,a,b⟩:=h;rw[O4,O4];exact aj.append (aj.reverse b) (aj.cons a aj.nil)
theorem IM(o:PE X e (tV X.K f E))(hm:PE X m (tV X.K g E)):PE X (.Subscript e (.Slice JT JT (on m) p2) pos) (tV X.K (f2 GN f g) E):=
 (G0 o hm).imp λy H Q b=>j1 b λF δ β fr l h=>⟨F,δ,β,fr,l,(run.bind (R:=bt X.K F) h).mono λv H1 b=>pj b λd β1 t hd q=>⟨F,δ,β1,t.fr,l.tr (t.tr fr),(run.bind (R:=bt X.K F) q).mono λA B b=>pj b λd2 β2 i j r=>by
  obtain⟨z,c,k⟩:=run.ofO r;unfold GN at c;split at c
  .cases c
   obtain⟨a,xs,rfl,sq,u⟩:=bt.sqL (bt.tr (i.tr t.fr) _ _ hd);cases j.int;exact⟨a,xs,rfl,rfl,sq,λp n=>k _ _ (i.fr.upd _ n) (bt.newL i.fr n (aj.reverse u))⟩
  .cases c⟩⟩
end
end L2.Pu
namespace L2.Pu
open PySem
theorem TU{A:Lf}(a:ee k A):A.units+2<OI:=LF (S3 (by decide:2<=64) _) a.units
open PySem.Spec PyProof.Rows L2.Hs
section
variable{X:Cx}{E:St->XK}{ke ve bb iter:Expr}{ifs:List Expr}{rest:List LR}{scope:Scope}{pos:OH}{Nc cy:List K2}{b_:List Nat}{g:TG}{tb:JY->TB}
theorem EG{kb:Bool}{b d:OH}(y:X.N.Nodup)(k:X.N[i]?=on x)(B:wl X.env.scope x)(F:X.calm=JW)(S:c4 X scope Nc cy b_)(L:PI X bb iter wi)
  (O:∀(cl:List (K2×JY)) (C:JY) (j:List JY) (s:J4) (H:Hp),PG (ay X Nc scope cl C j s H) bb g/\dh (ay X Nc scope cl C j s H) ifs tt/\∀D,PB (ay X Nc scope cl C j s H) (.D ke ve) (⟨bb,iter,ifs,0⟩::rest) scope pos 0 D (tb D))
  (l:Pd (.DictComp ke ve (⟨bb,iter,ifs,0⟩::rest) scope pos) (on (.Name x b)) d.line X.env=Mm JW:=by rfl)
  (hs:∀x,K6 iter X.env x=Mm x:=by intro _;rfl) (R:X.fn x=JW\/X.env.scope.names.lookup x=on .local:=by first|exact .inl rfl|exact .inr rfl|assumption):
  PS X (.Assign [.Name x b] (.DictComp ke ve (⟨bb,iter,ifs,0⟩::rest) scope pos) d) (dH (jQ (λD=>cD D kb 0 []) cy b_ wi λD J=>cP J g tt (tb D)) (c9 i)):=by
 intro f s U H D I h;rw[exec_Assign_Name_used _ _ _ _ l];refine JR (Mr (JR ?_));show Ke _ X.A (do let _ <-comprehension (.DictComp ke ve (⟨bb,iter,ifs,0⟩::rest) scope pos) scope X.env _ newDict JZ (LC iter X.env) (on (OU (.Name x b) X.env))) _ _ s
 refine JR (Ld (MZ (use:=on (OU (.Name x b) X.env)) (Q:=λ_ s'=>SP X f D .next s') rfl hs (S.clo I.ok) S.kind S.loc
  (Ld (L f s U H _ I h) (λv s1 W=>Ld W (λY Z n=>?_) λ_ _ e=>e) λ_ _ e=>e)) (λ_ s' hq=>JU (JU hq)) λ_ _ e=>e)
 obtain⟨it,j,tn,J,H2,e,o,T,p,f2,q⟩:=n;subst e;refine gm (c:= .D ke ve) lX (RR:=λacc C=>RY (Ky X.prog X.w) X.A X.xe (on (OU (.Name x b) X.env)) _ acc C) F S O o T p f2 q λA C s' H' m I' ns r q'=>?_;show Ke _ X.A (OU (.Name x b) X.env (.ref A)) _ _ s';refine Q2 (jR I' y k B (v:= .ref A) rfl (λZ o n=>?_) R);obtain⟨a,sb,ha⟩:=n;have t:C≠a:=by
  rcases ha with rfl|ha
  .exact r.2.1
  .exact λz=>r.2.2.2.1 x a ha z.symm
 exact⟨m,ns.sameBut sb t,λh' u=>⟨_,H',o.letgo r u,q'⟩⟩
theorem wU{kb:Bool}{a c:OH}(j:X.N.Nodup)(d:X.N[i]?=on x)(k:wl X.env.scope x)(l:X.calm=JW)(S:c4 X scope Nc cy b_)(m:PI X bb iter (iV X.K it E))
  (n:∀(cl:List (K2×JY)) (C:JY) (f:List JY) (s:J4) (H:Hp),PG (ay X Nc scope cl C f s H) bb g/\dh (ay X Nc scope cl C f s H) ifs (g8 X.K tt E0)/\∀D,PB (ay X Nc scope cl C f s H) (.D ke ve) (⟨bb,iter,ifs,0⟩::rest) scope pos 0 D (tb D))
  (o:cz X.K g tg) (p:dg tg) (q:∀D,dO X.K (RD X.K kb) D (tb D) b)
  (e:Pd (.DictComp ke ve (⟨bb,iter,ifs,0⟩::rest) scope pos) (on (.Name x a)) c.line X.env=Mm JW:=by rfl)
  (hs:∀x,K6 iter X.env x=Mm x:=by intro _;rfl) (r:X.fn x=JW\/X.env.scope.names.lookup x=on .local:=by first|exact .inl rfl|exact .inr rfl|assumption):
  PS X (.Assign [.Name x a] (.DictComp ke ve (⟨bb,iter,ifs,0⟩::rest) scope pos) c) (tG X.K X.H₀ (oH i (gi cy.length b_ it tg tt b (jE kb))) E):=
 aO ((EG (kb:=kb) j d k l S m n e hs r).imp λD t H h=>ss o p q h)
end
end L2.Pu
namespace L2.Hs
open PySem PySem.Spec PyProof.Rows
section
variable{X:Cx}
end
end L2.Hs
namespace L2.Pu
open PySem PySem.Spec PyProof.Rows L2.Hs
section
variable{K:Kt}
end
end L2.Pu
namespace L2.Pu
open PySem PySem.Spec PyProof.Rows
section
variable{X:Cx}{E:St->XK}{K:Kt}{st:LM}{H₀:Hp}{B:Ow}{bg:Option (JY×JY)}{H H':Hp}{δ:Ds}{β β':Bg}{σ:St}
end
end L2.Pu
namespace L2.Pu
open PySem PySem.Spec PyProof.Rows PySem.SeqAt
open PySem.AutoSeq1 (wpAny_loadPart')
open PySem.MeetsSeq PySem.MeetsSeq2 PySem.MeetsSeq3
end L2.Pu
namespace L2.Hs
open PySem PySem.Spec PyProof.Rows
section
variable{X:Cx}
def Gm(b:Bool):TE:=λ_ H Q=>∀D,H D=JT->Q (.ref D) (upd H D (cD D b 0 []))
theorem lW{b:Bool}:PE X (.Dict [] [] pos) (Gm b):=by
 intro a s c H Q I h;rw[arm_eval_Dict];refine JR (Mr ?_);show Ke _ _ newDict _ _ _;exact lX a s c H _ _ I λe d _=>⟨.ref _,_,d,rfl,h _ (I.hok.fresh (J3 _))⟩
def u_(xs:List (d4×JY×V))(k:d4)(c:JY)(v:V):List (d4×JY×V):=if(t5 xs k).isSome then xs.map (λx=>if x.1=k then(x.1,x.2.1,v)else x)else xs++[(k,c,v)]
theorem wc(h:∀x y,XY x y->XY (f x) (g y)):∀{xs:List (d4×JY×V)} {ys:List (d4×JY×J0)},OS XY xs ys->OS XY (xs.map f) (ys.map g)
 |_,_,.nil=> .nil
 |_,_,.cons a t=> .cons (h _ _ a) (wc h t)
theorem yD(p:OS XY xs ys)(r:aI v u):OS XY (u_ xs k c v) (storedH ys k c u):=by
 have f:=nZ (k:=k) p;unfold u_;cases e:S9 ys k with
 |none=>
  rw[e]at f;cases q:t5 xs k with
  |some w=>rw[q]at f;exact f.elim
  |none=>
   rw[storedH_new e];exact nY ⟨rfl,rfl,r⟩ p
 |some w=>
  rw[e]at f;cases q:t5 xs k with
  |none=>rw[q]at f;exact f.elim
  |some a=>
   rw[storedH_old e];refine wc (λx y h=>?_) p;unfold putAt;rw[<-h.1];by_cases z:x.1=k
   .rw[J8 z,J8 z];exact⟨rfl,h.2.1,r⟩
   .rw[J6 z,J6 z];exact h
theorem DR(xs:List (d4×JY×V))(k:d4)(c:JY)(v:V):(u_ xs k c v).length<=xs.length+1:=by
 unfold u_;split
 .rw[JS];omega
 .simp
def CF(K:Kt):V->V->V->Hp->(Hp->Prop)->Prop:=λo i v H Q=>∃a b ep xs k c,o= .ref a/\i= .ref c/\H a=on (cD a b ep xs)/\(∀x∈xs,C_ K H b x.1 x.2.1)/\C_ K H b k c/\xs.length<Ki/\∀d,Q (upd H a (cD a b d (u_ xs k c v)))
theorem jh(r:X.A.units+2<OI):BH X (CF X.K):=by
 intro j s W H o i v Y Z u Q I t y B h;obtain⟨a,b,ep,xs,k,c,rfl,rfl,l,C,F,hl,q⟩:=h;cases t;cases y;obtain⟨ys,J,p,L,f⟩:=nF I l C;refine wpAny_setItem_heap (oD r) (m7 I F) J (λh' d' N=>?_) L;have p':=yD (k:=k) (c:=c) p B;obtain⟨o,es,g,m,O,R,T,g5,U⟩:=d';have d:=La PX (iP p');rw[JS,JS]at d;have:=DR xs k c v;exact⟨_,I.write (by rw[l];trivial) (.inl rfl) (λb u n e=>(N.2 b n).trans e) ⟨o,m⟩ (oO ⟨o,es,_,m,O,R,by rw[T];unfold entryOfKey;rw[oE],U,f,by omega,p'⟩),q g⟩
end
end L2.Hs
namespace L2.Pu
open PySem PySem.Spec PyProof.Rows L2.Hs
def zx(ks:List d4)(k:d4):List d4:=if k∈ks then ks else ks++[k]
def TR(ks:List d4)(vs:List D)(k:d4)(d:D):List D:=if k∈ks then(ks.zip vs).map (λp=>if p.1=k then d else p.2)else vs++[d]
section
variable{K:Kt}{F:Fx}{H:Hp}
theorem oy:∀{xs:List (d4×JY×V)},(t5 xs k).isSome=decide (k∈xs.map (·.1))
 |[]=>by simp[t5]
 |x::xs=>by
  have ih:=oy (k:=k) (xs:=xs);unfold t5 at ih⊢;rw[M9];by_cases q:x.1=k
  .rw[Km q];simp[q]
  .rw[K0 q]
   dsimp only
   rw[ih];exact decide_eq_decide.mpr (by rw[Kv,Kk];exact⟨.inr,λz=>z.resolve_left λy=>q y.symm⟩)
theorem yS{xs:List (d4×JY×V)}:(u_ xs k c v).map (·.1)=zx (xs.map (·.1)) k:=by
 unfold u_ zx;rw[oy];by_cases q:k∈xs.map (·.1)
 .rw[J8 (Km q),J8 q,Kb]
  refine K9 λx _=>?_;show(if x.1=k then(x.1,x.2.1,v)else x).1=x.1;split<;>rfl
 .rw[J6 (λz=>q (Mp z)),J6 q,KC];rfl
theorem DS{xs:List (d4×JY×V)}(hd:bt K F H d v)(h:aj K F H vs (xs.map (·.2.2))):aj K F H (TR (xs.map (·.1)) vs k d) ((u_ xs k c v).map (·.2.2)):=by
 unfold u_ TR;rw[oy];by_cases q:k∈xs.map (·.1)
 .rw[J8 (Km q),J8 q]
  clear q
  induction xs generalizing vs with
  |nil=>exact aj.nil
  |cons x xs ih=>
   cases vs with
   |nil=>cases h
   |cons w vs=>
    obtain⟨u,r,e,a,b⟩:=h;rw[Kv,MX]at e;obtain⟨rfl,rfl⟩:=e;refine aj.cons (xs:=((xs.map λx=>if x.1=k then(x.1,x.2.1,v)else x).map (·.2.2))) ?_ (ih b);show bt K F H (if x.1=k then d else w) (if x.1=k then(x.1,x.2.1,v)else x).2.2;by_cases z:x.1=k
    .rw[J8 z,J8 z];exact hd
    .rw[J6 z,J6 z];exact a
 .rw[J6 (λz=>q (Mp z)),J6 q,KC]
  exact aj.append h (aj.cons hd aj.nil)
theorem Gs{b:Bool}(d:∀x∈xs,ef K F H b x.1 x.2.1)(f:ef K F H b k c):∀x∈u_ xs k c v,ef K F H b x.1 x.2.1:=λx a=>by
 unfold u_ at a;split at a
 .obtain⟨y,e,rfl⟩:=J5.mp a
  split
  .exact d y e
  .exact d y e
 .rcases Ll.mp a with h|h
  .exact d x h
  .cases KN.mp h
   exact f
variable{X:Cx}{E:St->XK}{st:LM}
def HE(i:Nat)(b:Bool):G:=λδ β=>on (.nx (δ.set i (on (.odc b [] []))),β)
theorem CA{b:Bool}(h:PS X st (dH (Gm b) (c9 i))):PS X st (tG X.K X.H₀ (HE i b) E):=h.imp λD k H c=>by
 obtain⟨B,bg,δ,β,o,d,ok,e,q⟩:=c;cases e;intro p f;obtain⟨l,a,g⟩:=ok.newAt (i:=i) (sl:= .odc b [] []) (u:=cD p b 0 []) f (.inr ⟨_,af⟩) λe _=>⟨p,rfl,e,0,[],af,rfl,(λx j=>by cases j),aj.nil⟩;exact q _ _ _ g a
def nz(i:Nat)(a c:FD):G:=λδ β=>match c (fw δ) β with
 |some (.ok d,β1)=>match a (fw δ) β1 with
  |some (.ok kd,β2)=>match δ.getD i JT with
   |some (.odc b ks vs)=>match iM b kd with
    |some k=>if(noL d&&decide (ks.length<Ki))=JW then on (.nx (δ.set i (on (.odc b (zx ks k) (TR ks vs k d)))),β2)else JT
    |none=>JT
   |_=>JT
  |_=>JT
 |some (.error C,β1)=>on (.ex C δ,β1)
 |none=>JT
theorem qW(h:PS X st (dH (tV X.K fv E) (rX (eX i) (tV X.K fk E) (CF X.K)))):PS X st (tG X.K X.H₀ (nz i fk fv) E):=h.imp λD σ H R=>by
 obtain⟨B,bg,δ,β,o,T,ok,e,q⟩:=R;refine⟨ko B bg,fw δ,β,ok.frA,ok.viewA,?_⟩;unfold nz at e;split at e
 .rename_i d β1 p
  refine⟨.ok d,_,p,λv H1 t hd=>?_⟩;obtain⟨g,U⟩:=ok.to rfl t;split at e
  .rename_i kd β2 W
   split at e
   .rename_i b ks vs N
    split at e
    .rename_i k Y
     split at e
     .rename_i hn
      cases e;rw[Kz,KV]at hn;obtain⟨w,r,a,rfl,hB,h2⟩:=g.tell i _ (aW N);refine⟨_,r,ko B bg,fw δ,β1,g.frA,g.viewA,.ok kd,_,W,λkv H2 Z y=>?_⟩;obtain⟨j,n⟩:=g.to rfl Z;obtain⟨_,l,a',e',hB',ep,xs,hD,A,O,dl⟩:=j.tell i _ (aW N);rw[r]at l;cases l;cases e';obtain⟨hz,rfl⟩:=rP Y;have nk:noL (dK b k)=JW:=by
       cases b with
       |true=>show(JW&&(noLs (k.2.map Pu.D.int)&&JW))=JW;rw[gf];rfl
       |false=>exact gf k.2
      obtain⟨c,rfl,Q⟩:=vx hz (j.noB nk y);have I:=bt.tr n.tr _ _ (g.noB hn.1 hd);subst A;refine⟨a,b,ep,xs,k,c,rfl,rfl,hD,λx J=>(O x J).s,Q.s,by rw[<-JS (f:=(·.1))];exact hn.2,λm=>?_⟩;obtain⟨L,s3⟩:=j.writeAt (sl:= .odc b (zx (xs.map (·.1)) k) (TR (xs.map (·.1)) vs k d)) (u:=cD a b m (u_ xs k c v)) r hB (.inr ⟨_,af⟩) λt=>⟨a,rfl,hB,m,_,af,yS.symm,Gs (λx J=>(O x J).tr t) (Q.tr t),DS (bt.tr t _ _ I) (aj.tr t _ _ dl)⟩;exact q _ B _ ((U.trans n).trans s3) L
     .cases e
    .cases e
   .cases e
  .cases e
 .rename_i C β1 p
  cases e;refine⟨.error C,_,p,λH' t=>?_⟩;obtain⟨j,n⟩:=ok.to rfl t;exact q _ B H' n j
 .cases e
end
end L2.Pu
namespace L2.Hs
open PySem PySem.Spec PyProof.Rows
section
variable{prog:KF}{w:K1}{A:Lf}{E:J0->J4->Prop}{s:J4}{d it:JY}{od:KS}{es:Array Mo}{ep i:Nat}
theorem xX(hs:(d==OA)=JZ)(a:s.heap.get? d=on od)(c:od.cls= .type "dict")(hd:od.data= .dict es ep)
  (h:Q (.ref s.heap.objs.size) {s with heap:=s.heap.push {cls:= .type "dict_keyiterator",data:= .fields #[.ref d,.int 0 0,.int es.size 0,.int ep 0]}}):Ke (Ky prog w) A (P4 (.ref d)) Q E s:=by
 have b:s.TypeIs (.ref d) "dict":=⟨od,a,c⟩;refine Om b F.slot_dict_iter (KR F.slot_dict_iter b F.entry_dict_iter ?_ (F.args_dict_iter_1 _));unfold Builtin.«dict.__iter__» Builtin.Dict.dictSlotNone;refine JR (JR (wpAny_notOrdered_dict b ?_));show Ke _ _ (Mm (Ko d)) _ _ s;refine JU ?_;show Ke _ _ (NQ d>>=_) _ _ s;unfold NQ;rw[J6 (by rw[hs];exact J7)];refine JR (JU (JR (NH a hd (JR (N3 a hd (JR (KU (JU ⟨_,rfl,"dict_keyiterator",_,⟨_,Kf _ rfl,rfl⟩,Mw.lookup,?_⟩))))))));simpa[Nl]using h
theorem xW{e:Mo}(c:s.heap.IsKeyIter it d i es.size ep)(j:s.heap.get? d=on od)(hd:od.data= .dict es ep)(k:es[i]?=on e)
  (l:∀h',h'.IsKeyIter it d (i+1) es.size ep->KI it s.heap h'->Q (on e.key) {s with heap:=h'}):Ke (Ky prog w) A (Nx (.ref it)) Q E s:=by
 obtain⟨o,g,m,f⟩:=id c;have b:=c.typeIs;obtain⟨h,rfl⟩:=K4.mp k;unfold Nx;refine JR (Nu (wpAny_callSpecial?_slot (name:=LQ "__next__") b Mw (KR Mw b Q7 ?_ (QT _))));refine JR (JU (JR (JR ?_)))
 first|refine JR (Nh b (JU ?_))|refine JR (N0 b (JU ?_))
 refine JR (Ol g f ?_);simp only[show Me "dict_keyiterator"=JZ from by decide,Kn,Lb];show Ke _ _ (if(Ko d==KZ)=JW then _ else _) _ _ s;rw[J6 (show ¬((Ko d==KZ)=JW)from J7)];refine JR (JU (JR (NH j hd ?_)));rw[J6 (by simp)];refine JR (JU (JR (N3 j hd ?_)));rw[J6 (by simp)];refine JU ?_;simp only[show ¬((i:Int)<0)from by omega,Lb,Lm,Ny h];refine JR ?_
 first|refine JR (Nh b (JU ?_))|refine JR (N0 b (JU ?_))
 refine JR (wpAny_isOneOf_keyiter b ?_);show Ke _ _ (Qm (.ref it) 1 (Nl ((i:Int)+1))>>=_) _ _ s;refine JR (M6 g f (by simp) ?_);have a:(s.heap.update it (Ry (·.setIfInBounds 1 (Nl ((i:Int)+1))))).IsKeyIter it d (i+1) es.size ep:=⟨_,MF _ g (Ob (LL f _)),(Pc ..).trans m,by rw[LL f];simp[Nl]⟩;refine JR (Ln (JR (wpAny_isOneOf_keyiter (s:={s with heap:=s.heap.update it (Ry (·.setIfInBounds 1 (Nl ((i:Int)+1))))}) a.typeIs ?_)));show Ke _ _ (Mm es[i].key) _ _ _;exact JU (JU ⟨_,rfl,JU (l _ a (LA ..))⟩)
theorem zB(j:A.handled=JT)(e:s.heap.IsKeyIter it d i es.size ep)(f:s.heap.get? d=on od)(hd:od.data= .dict es ep)(k:es.size<=i)
  (l:∀h',PU it s.heap h'->Q JT {s with heap:=h'}):Ke (Ky prog w) A (Nx (.ref it)) Q E s:=by
 obtain⟨o,g,n,h⟩:=id e;have c:=e.typeIs;unfold Nx;refine JR (Nu (wpAny_callSpecial?_slot (name:=LQ "__next__") c Mw (KR Mw c Q7 ?_ (QT _))));refine JR (JU (JR (JR ?_)))
 first|refine JR (Nh c (JU ?_))|refine JR (N0 c (JU ?_))
 refine JR (Ol g h ?_);simp only[show Me "dict_keyiterator"=JZ from by decide,Kn,Lb];show Ke _ _ (if(Ko d==KZ)=JW then _ else _) _ _ s;rw[J6 (show ¬((Ko d==KZ)=JW)from J7)];refine JR (JU (JR (NH f hd ?_)));rw[J6 (by simp)];refine JR (JU (JR (N3 f hd ?_)));rw[J6 (by simp)];refine JU ?_;simp only[show ¬((i:Int)<0)from by omega,Lb,Lm,Mv k];refine JR ?_
 first|refine JR (Nh c (JU ?_))|refine JR (N0 c (JU ?_))
 show Ke _ _ (Qm (.ref it) 0 .none>>=_) _ _ s;refine JR (M6 g h (by simp) ?_);show Ke _ _ (Rh (.type "StopIteration") []>>=_) _ _ _;refine JR ?_;simp only[Rh,newTuple];refine JR (KU ?_ (by size_fits));refine JR (m:=M5 _ _) (Ng (a:=KZ) (by first|rfl|(simp only[M5];rfl)) ?_)
 refine KU ?_ (by size_fits);simp only[R6];refine JR (QA ?_);rw[show A.in1.handled=JT from j];refine JR (JU (Rr ?_));refine JR (L8 (T:="StopIteration") (b:=JW) ⟨_,Kf _ rfl,rfl⟩ Ql ?_);exact JU (l _ (((LA ..).extBut.push _).push _))
def W2(h:Lj)(I d:JY)(es:Array Mo)(ep i:Nat):Prop:=h.IsKeyIter I d i es.size ep/\∃od,h.get? d=on od/\od.data= .dict es ep
theorem wg(q:A.handled=JT)(j:I≠d):Walks prog w A I [I,d] [I] es.size (λi v=>∃e,es[i]?=on e/\v=e.key) (λi h=>W2 h I d es ep i) where
 sub:=λb a=>by simp at a;simp[a]
 frame:=λ_ _ _ st m=>by
  obtain⟨⟨o,r,t⟩,od,c,f⟩:=st;exact⟨⟨o,m I (by simp) o r,t⟩,od,m d (by simp) od c,f⟩
 item:=λi s Q E u st g=>by
  obtain⟨st,od,c,f⟩:=st;have n:es[i]?=on es[i]:=getElem?_pos es i u;exact xW st c f n λh' k p=>g _ h' s.toks ⟨_,n,rfl⟩ ⟨k,od,p.extBut d od (Ne.symm j) c,f⟩ λb o a e=>p.extBut b o (λz=>a (by simp[z])) e
 done:=λs Q E st g=>by
  obtain⟨st,od,c,f⟩:=st;exact zB q st c f (J3 _) λh' l=>g h' s.toks λb o a e=>l b o (λz=>a (by simp[z])) e
 self:=λ_ _ _ _ st g=>wpAny_pyIter_keyiter st.1 g
end
end L2.Hs
namespace L2.Hs
open PySem PySem.SetTable PyProof.Rows
section
variable{prog:KF}{w:K1}{A:Lf}{E:J0->J4->Prop}{s:J4}
theorem sE{o:KS}{es:Array Mo}(hh:A.handled=JT)(hs:(a==OA)=JZ)(O:s.heap.get? a=on o)(y:o.cls= .type "dict")(hd:o.data= .dict es ep)
  (hsz:es.size<=1000)
  (hQ:∀h' R vs,(∀b o,s.heap.get? b=on o->h'.get? b=on o)->s.heap.objs.size<=h'.objs.size->s.toks<=R->vs=es.toList.map (·.key)->Q vs {s with heap:=h',toks:=R}):Ke (Ky prog w) A (collect (.ref a)) Q E s:=by
 unfold collect;refine JR (R9 (OV SR ?_));rw[N9 SS _];show Ke _ A.in1 (newList []>>=λl=>Qy (.builtin "list.__iadd__" ⟨[l,.ref a],[]⟩)) _ _ s;refine JR (KU ?_);refine JU ⟨Qz Pj _,OV F.entry_list_iadd ?_⟩;rw[N9 Pj _];have ha:=Kr O;have h:(s.heap.push {cls:= .type "list",data:= .seq ([]:List J0).toArray}).get? a=on o:=JV _ O;have B:(s.heap.push {cls:= .type "list",data:= .seq ([]:List J0).toArray}).get? s.heap.objs.size=on {cls:= .type "list",data:= .seq ([]:List J0).toArray}:=Kf _ rfl;have r:s.heap.objs.size≠a:=Mz ha;have v:Nm (.ref s.heap.objs.size) (.ref a)=JZ:=by simp[Nm,r]
 have C:(⟨s.heap.push {cls:= .type "list",data:= .seq ([]:List J0).toArray},s.gens,s.drawn,s.toks,s.os⟩:J4).TypeIs (.ref a) "dict":=⟨o,h,y⟩;show Ke _ A.in1 (MW (.ref s.heap.objs.size) (.ref a) (.ref s.heap.objs.size)) _ _ _;unfold MW;refine JR (On C ?_);rw[J6 (by rw[v];decide)];refine JR (xX hs h y hd ?_);refine JR (Ln ?_);unfold P9;have n:(⟨(s.heap.push {cls:= .type "list",data:= .seq ([]:List J0).toArray}).push {cls:= .type "dict_keyiterator",data:= .fields #[.ref a,.int 0 0,.int es.size 0,.int ep 0]},s.gens,s.drawn,s.toks,s.os⟩:J4).TypeIs (.ref a) "dict":=⟨o,JV _ h,y⟩;refine JR (MR n F.slot_dict_len.lookup ?_)
 (generalize t:("dict.__len__":String)=id0;wp_delta;rw[show splitId id0=on ("dict","__len__")from by subst t;decide +kernel];subst t)
 refine JR (L8 (b:=JW) n (by rw[Oj];kernel_rfl) ?_);rw[J6 (by decide)];show Ke _ _ (if _ then _ else _) _ _ _;rw[J8 (by decide)];refine JR (On n ?_);refine JU ?_;rw[J8 (by decide)];refine JR (M0 ?_);have T:(s.heap.push {cls:= .type "list",data:= .seq ([]:List J0).toArray}).objs.size=s.heap.objs.size+1:=by rw[size_push']
 generalize j:(s.heap.push {cls:= .type "list",data:= .seq ([]:List J0).toArray}).push {cls:= .type "dict_keyiterator",data:= .fields #[.ref a,.int 0 0,.int es.size 0,.int ep 0]}=f;have U:f.get? s.heap.objs.size=on (Mt "list" #[] 0):=by rw[<-j];exact JV _ B
 have gI:f.get? (s.heap.objs.size+1)=on {cls:= .type "dict_keyiterator",data:= .fields #[.ref a,.int 0 0,.int es.size 0,.int ep 0]}:=by rw[<-j,<-T];exact Kf _ rfl
 have ga:f.get? a=on o:=by rw[<-j];exact JV _ h
 have p:∀b g,s.heap.get? b=on g->f.get? b=on g:=λb g e=>by rw[<-j];exact JV _ (JV _ e)
 unfold Qw;refine JR (JR (NZ U rfl ?_ (by show 0<=_;omega) (by show 1<=_;omega)));obtain⟨X,Y⟩:∃X,(f.update s.heap.objs.size (Lo λxs=>xs.push KZ)).get? s.heap.objs.size=on (Mt "list" #[KZ] X):=⟨_,get?_update_seq U λxs=>xs.push KZ⟩;refine NZ Y rfl ?_ (by show 1<=Ki;decide) (by show 0<=_;omega);obtain⟨H,Z⟩:∃H,((f.update s.heap.objs.size (Lo λxs=>xs.push KZ)).update s.heap.objs.size (Lo λxs=>xs.pop)).get? s.heap.objs.size=on (Mt "list" #[] H):=⟨_,get?_update_seq Y λxs=>xs.pop⟩;have c:∀b g,b≠s.heap.objs.size->f.get? b=on g->((f.update s.heap.objs.size (Lo λxs=>xs.push KZ)).update s.heap.objs.size (Lo λxs=>xs.pop)).get? b=on g:=λb g q e=>by
  rw[Mb _ _ _ _ q,Mb _ _ _ _ q];exact e
 generalize (f.update s.heap.objs.size (Lo λxs=>xs.push KZ)).update s.heap.objs.size (Lo λxs=>xs.pop)=h4 at Z c;have J:s.heap.objs.size+1≠a:=Mz (Nn ha);have st:W2 h4 (s.heap.objs.size+1) a es ep 0:=⟨⟨_,c _ _ (by omega) gI,rfl,rfl⟩,o,c a o (Ne.symm r) ga,hd⟩;have W:=wg (prog:=prog) (w:=w) (A:=A.in1) (I:=s.heap.objs.size+1) (d:=a) (es:=es) (ep:=ep) hh J;show Ke _ _ (Qy _) _ _ _;rw[T];refine JU ⟨Qz F.plain_extend_loop _,codeAny_extend_loopS W.toS (by rw[LZ];omega) s.heap.objs.size (by simp;omega) _ es.size 0 _ #[] H rfl (Lq _) st Z (ItemsOf.nil _) λs' k c' hm u m=>?_⟩;show Ke _ A (load s.heap.objs.size>>=_) _ _ s';refine JR (wpAny_load u ?_);refine JU ?_;have L:s'={s with heap:=s'.heap,toks:=s'.toks}:=by
  have v:=hm.gens;have f:=hm.drawn;have h3:=hm.os;obtain⟨a1,a2,a3,a4,a5⟩:=s';simp only at v f h3;subst v f h3;rfl
 rw[L];refine hQ _ _ _ (λb g e=>?_) (N4 (Kr u)) hm.toks ?_
 .have q:=Kr e
  exact hm.heap b g (by simp only[Kk,Ly,NS,Tw];exact⟨K7 q,K7 (Nn q)⟩) (c b g (K7 q) (p b g e))
 .refine NC (by rw[KG,JS,KG,m.1]) λi q1 q2=>?_
  have N:i<k.size:=by simpa using q1
  obtain⟨e,he,hv⟩:=m.2 i _ (getElem?_pos k i N);rw[MJ,hv,ND,MJ];obtain⟨z1,z2⟩:=K4.mp he;rw[z2]
theorem sK{o:KS}{es:Array Mo}{xs:List (List Int×JY)}(u:A.handled=JT)(hs:(a==OA)=JZ)(v:s.heap.get? a=on o)(y:o.cls= .type "dict")(hd:o.data= .dict es ep)(t:es.toList.map (·.key)=xs.map λk=>Ko k.2)(q:(xs.map (·.1)).Nodup)(S:∀{B:Lf},B.units<=A.units+3->Ue prog w B is)(C:∀x∈xs,is s.heap x.1 x.2)(F:xs.length<64)
  (h:∀(l:JY) (h':Lj) (g r:Nat) (i:List (List Int×JY)),i.Perm xs->Up (i.map (·.1))->h'.get? l=on (Mt "list" (i.map λk=>Ko k.2).toArray r)->s.heap.objs.size<=l->(∀b o,s.heap.get? b=on o->h'.get? b=on o)->s.toks<=g->Q (.ref l) {s with heap:=h',toks:=g}):
  Ke (Ky prog w) A (Qu (.builtin "sorted") [.ref a]) Q E s:=by
 have H:es.size=xs.length:=by rw[<-KG,<-JS (f:=λe:Mo=>e.key),t,JS]
 refine Q5 kind_sorted plain_sorted entry_sorted (args_sorted1 _) ?_;unfold Builtin.«sorted»;refine JR (m:=checkCount "sorted" 1 1 _) (JU ?_);refine JR (sE u hs v y hd (by omega) λj g vs keep n htk pv=>?_);rw[t]at pv;subst pv;refine JR (SN ?_ (by rw[JS,LZ];omega));have c:∀b d,s.heap.get? b=on d->(j.push (Mt "list" (xs.map λk=>Ko k.2).toArray 0)).get? b=on d:=λb d e=>JV _ (keep b d e);have p:(j.push (Mt "list" (xs.map λk=>Ko k.2).toArray 0)).get? j.objs.size=on (Mt "list" (xs.map λk=>Ko k.2).toArray 0):=Kf _ rfl;show Ke _ _ _ _ _ {s with heap:=j.push (Mt "list" (xs.map λk=>Ko k.2).toArray 0),toks:=g};refine JR (Ln (KR slot_list_sort ⟨_,p,rfl⟩ entry_list_sort (o8 (S ?_) p (λk I=>(S (MY A.units 3)).fr (C k I) λb o _=>c b o) q (by omega) λh' i r q1 q2 q3 q4=>⟨_,rfl,?_⟩) (args_list_sort _)))
 .first|(show A.units+1<=A.units+3;omega)|(show A.units+2<=A.units+3;omega)|(show A.units+3<=A.units+3;omega)|(show A.units<=A.units+3;omega)
 .refine JU ⟨_,rfl,h j.objs.size h' g r i q1 q2 q3 n (λb d e=>q4 b d (λz=>?_) (c b d e)) htk⟩
  have:=Kr e;exact Kx (z▸this) (Nat.not_lt.mpr n)
open PySem.W (kat_lt kat_cons kat_yes kat_no kat_nil kat_one)
theorem xQ:∀l m:List Int,HT.lexLt l m=bE l m
 |[],[]=>rfl
 |[],_::_=>rfl
 |_::_,[]=>rfl
 |a::l,b::m=>by rw[HT.lexLt_cons,xQ l m];rfl
theorem rT(h:PySem.ItemsAre (Ps prog w) ks vs):Oh vs ks:=by
 induction h with
 |nil=>exact .nil
 |cons a _ ih=>
  obtain⟨t,rfl⟩:=OZ a;exact .cons _ t ih
theorem Vc{x y:d4}(j:A.units+1<OI)(k:xr prog w s.heap x a)(l:xr prog w s.heap y b)(h:Q (bE (x.1::x.2) (y.1::y.2)) s):Ke (Ky prog w) A (keyLt' (Tz JW) (.ref a) (.ref b)) Q E s:=by
 obtain⟨o,n,t,c,m,_,hd,i⟩:=k;obtain⟨I,J,t',L,e,_,f,d⟩:=l;refine kat_lt m hd e f ?_;unfold bE at h;refine kat_cons (wpAny_eqBool_int ?_);by_cases z:x.1=y.1
 .rw[J8 z]at h
  rw[show(x.1==y.1)=JW by rw[Nj];exact z];refine kat_yes (kat_cons ((hO prog w).eqBool (Qs j) i d ?_));by_cases g:x.2=y.2
  .rw[Km g]
   rw[g,fU]at h;exact kat_yes (kat_nil h)
  .rw[K0 g]
   obtain⟨p,N,q,r,u,v,B⟩:=i;obtain⟨o2,O,C,f1,f2,F,H⟩:=d;exact kat_no (kat_one _ _ (HT.lt_tupInts ⟨p,r,u,q,v⟩ ⟨o2,f1,f2,C,F⟩ (rT B) (rT H) (by omega) (by rw[xQ];exact h)))
 .rw[J6 z]at h
  rw[show(x.1==y.1)=JZ by rw[PP];exact z];exact kat_no (oneLt_int h)
abbrev kl(b:Bool)(k:d4):List Int:=cond b (k.1::k.2) k.2
def Xk(prog:KF)(w:K1)(b:Bool)(h:Lj)(k:List Int)(x:JY):Prop:=∃y,k=kl b y/\(KB prog w b).is h y x/\1<=k.length
theorem IV(j:A.units+1<OI):∀b,Ue prog w A (Xk prog w b)
 |false=>⟨λ⟨y,e,⟨z,g⟩,l⟩ k=>⟨y,e,⟨z,((uU (A:=A)).fr (k:=y.2) ⟨g,by rw[e]at l;exact l⟩ k).1⟩,l⟩,λ⟨y,e,⟨z,g⟩,l⟩=>(uU (A:=A)).tup (k:=y.2) ⟨g,by rw[e]at l;exact l⟩,λ⟨y,e,⟨_,g⟩,_⟩ ⟨C,c,⟨_,g'⟩,_⟩ h=>xG g g' (by rw[e,c]at h;exact h)⟩
 |true=>⟨λ⟨y,e,⟨o,n,t,b,d,a,f,p,its,m,q,i,r,u⟩,l⟩ k=>⟨y,e,⟨o,n,t,b,k _ _ a d,a,f,p,its,m,k _ _ i q,i,r,u⟩,l⟩,λ⟨y,e,⟨o,n,t,b,d,a,f,_⟩,l⟩=>⟨o,_,n,y.1,t,d,a,f,rfl⟩,λ⟨y,e,v,_⟩ ⟨z,c,B,_⟩ h=>Vc j v B (by rw[e,c]at h;exact h)⟩
theorem Jp{b:Bool}{l:List d4}(nd:l.Nodup)(h:b=JZ->∀x∈l,x.1=0):(l.map (kl b)).Nodup:=MO.mpr (nd.imp_of_mem λ{x y} a c ne e=>ne (by
 cases b with
 |true=>exact Mu (Nv e).1 (Nv e).2
 |false=>exact Mu ((h rfl x a).trans (h rfl y c).symm) e))
end
section
variable{X:Cx}
abbrev kA(b:Bool)(y:d4×JY×V):List Int×JY:=(kl b y.1,y.2.1)
def lS(K:Kt):List V->Hp->VK->Prop:=λxs H Q=>∃a b ep ys,xs=[.ref a]/\H a=on (cD a b ep ys)/\(∀x∈ys,C_ K H b x.1 x.2.1/\1<=(kl b x.1).length)/\ys.length<64/\
 ∀(l:JY) (c:List (List Int×JY)),H l=JT->c.Perm (ys.map (kA b))->Up (c.map (·.1))->Q (.ref l) (upd H l (.lst (c.map λz=>V.ref z.2)))
theorem BL{b:Bool}:∀{xs:List (d4×JY×V)} {ys:List (d4×JY×J0)},OS XY xs ys->xs.map (kA b)=ys.map λy=>(kl b y.1,y.2.1)
 |_,_,.nil=>rfl
 |_,_,.cons h t=>by
  rw[Kv,Kv,BL t];unfold kA;rw[h.1,h.2.1]
theorem hX(n:X.calm=JW)(W:X.A.units+64<OI):cI X (.builtin "sorted") (lS X.K):=by
 intro j s Y H xs us Q I r h;obtain⟨a,b,ep,ys,rfl,ha,f,hn,q⟩:=h;obtain⟨u,rfl,t⟩:=ic r;cases t;obtain⟨Z,⟨o,es,v,B,C,F,J,h5,L⟩,p,hz,i⟩:=nF I ha λx h=>(f x h).1;have m:=BL (b:=b) p;have N:=iP p;refine sK (xs:=ys.map (kA b)) (I.ok.hd n) i B C.1 F ?_ ?_ (λhB=>IV (by omega) b) ?_ (by rw[JS];exact hn) λl h' O R c p' T U hs keep ht=>?_
 .rw[J,m,Kb,Kb];rfl
 .have:=Jp (b:=b) L λe x d=>by
   subst e;rw[<-N]at d;obtain⟨y,g,rfl⟩:=J5.mp d;exact(f y g).1.1
  rw[Kb]at this;rw[m,Kb];exact this
 .intro x d
  obtain⟨y,g,rfl⟩:=J5.mp d;exact⟨y.1,rfl,m7 I (f y g).1,(f y g).2⟩
 .refine⟨.ref l,_,I.laid (t':=O) (o:= .lst (c.map λz=>V.ref z.2)) keep hs ⟨?_,c.map λk=>Ko k.2,R,?_,U⟩,rfl,q l c (I.hok.fresh hs) p' T⟩
  .rw[JS,p'.length_eq,JS,LZ];omega
  .exact jL c
end
end L2.Hs
namespace L2.Pu
open PySem PySem.Spec PyProof.Rows L2.Hs
def qJ:List D->Option D
 |[.dct JZ ks _]=>if ks.length<64 then eY (ks.map λk=>hL k.2)else JT
 |_=>JT
theorem xT{K:Kt}:da K (lS K) qJ:=λF H β Q ds d vs fr h e k=>by
 unfold qJ at e;split at e
 .rename_i ks A
  obtain⟨v,rfl,i⟩:=aj.one h;unfold bt at i;obtain⟨a,ep,xs,rfl,n,rfl,j,B⟩:=i;split at e
  .rename_i hn
   rw[JS]at hn;obtain⟨m,s,rfl⟩:=ii e;have hm:∀x∈xs,x.1.2∈m:=λx b=>by
    obtain⟨l,c,e⟩:=s.2.2.2 (hL x.1.2) (J5.mpr ⟨x.1,J5.mpr ⟨x,b,rfl⟩,rfl⟩);rw[dP e];exact c
   refine⟨a,JZ,ep,xs,rfl,n.2,λx b=>⟨(j x b).s,(s.2.2.1 _ (hm x b)).1⟩,hn,λl o c f p=>?_⟩;have r:m=o.map (·.1):=kN s.1 p λy=>by
    refine⟨λg=>?_,λg=>?_⟩
    .obtain⟨q,t,e⟩:=J5.mp (s.2.2.1 y g).2
     obtain⟨x,b,rfl⟩:=J5.mp t;refine(f.map (·.1)).mem_iff.mpr ?_;rw[Kb];exact J5.mpr ⟨x,b,dP e⟩
    .have:=(f.map (·.1)).mem_iff.mp g
     rw[Kb]at this;obtain⟨x,b,rfl⟩:=J5.mp this;exact hm x b
   rw[r]at k;refine k _ _ (fr.upd _ c) (bt.newL fr c (kt λz u=>?_));obtain⟨x,b,rfl⟩:=J5.mp (f.mem_iff.mp u);exact u9 (j x b)
  .cases e
 .cases e
end L2.Pu
namespace L2.Pu
open PySem PySem.Spec PyProof.Rows
section
variable{X:Cx}
variable{P:KF}{w:K1}{K:Kt}{mg:K2->Option J0}{base:Lj}
variable{E:St->XK}{o e c:Expr}{es:List Expr}{pos apos:OH}{m:K2}{k n:Nat}{f C:JY}{fd:KJ}{ps:List K2}{a sts:List LM}{t:Dn->M Bool}{g h:FL}
def Hx(i j:Nat):Ds->M (List D):=λδ=>match δ.getD i JT,δ.getD j JT with
 |some (.own ds),on (.sh d)=>M.ofO ((qv (.lst ds) d).bind c5)
 |_,_=>M.fail
theorem GF{g:G}(l:jH X.K tgg tg)(h:PS X (.For tgt iter body [] pos) (uQ (Hw X.K (KX (oj X.K) (eX i) (eX j))) tgg (tG X.K X.H₀ g E))):PS X (.For tgt iter body [] pos) (tG X.K X.H₀ (la (Hx i j) tg g) E):=wW (λ{B bg H δ β N R} ok r=>by
 unfold Hx at r;split at r
 .rename_i ds d b p
  obtain⟨es,e,k⟩:=run.ofO r;obtain⟨v,u,a,ys,rfl,_,y,A⟩:=ok.tell i _ (aW b);obtain⟨w,F,I⟩:=ok.tell j _ (aW p);cases d<;>first|cases e|skip
  rename_i n;cases(show bt X.K (d5 B bg) H (.int n) w from I).int;cases q:lp ds n with
  |none=>rw[show qv (.lst ds) (.int n)=lp ds n from rfl,q]at e;cases e
  |some c=>
   rw[show qv (.lst ds) (.int n)=lp ds n from rfl,q]at e;obtain⟨v,J,hd⟩:=nU A q;refine⟨_,u,_,F,a,ys,n,v,rfl,rfl,e_.of y,J,?_⟩;cases c<;>first
    |(cases e;obtain⟨a,xs,rfl,sq,L⟩:=bt.sqL hd;exact .inl ⟨a,rfl,⟨xs,sq⟩,k _ H (To.refl ok.fr) (rS hd)⟩)
    |(cases e;obtain⟨a,xs,rfl,sq,L⟩:=bt.sqT hd;exact .inr ⟨a,rfl,⟨xs,sq⟩,k _ H (To.refl ok.fr) (tY hd)⟩)
    |cases e
 .obtain⟨_,_,e,_⟩:=r
  cases e) l h
variable{st:LM}
def th(i:Nat)(δ:Ds):Ds:=match δ.getD i JT with
 |some (.grd ba)=>δ.set i (on (.own (ba.map D.lst)))
 |_=>δ
def WJ(i:Nat)(g:G):G:=λδ β=>g (th i δ) β
theorem en.thaw(i:Nat)(ok:en K H₀ B bg H δ β σ):∃b,en K H₀ b bg H (th i δ) β σ/\g_ B H b H:=by
 unfold th;split
 .rename_i ba j
  obtain⟨v,l,a,rs,p,q,u,nd,d⟩:=ok.tell i _ (aW j);exact ok.letGo (·∈rs) (λc z=>(d.all c z).1) l λy A tr=>⟨a,rs.map V.ref,p,(A a (KM.mp nd).1).trans q,u,aG.den tr d λr F _ z=>z (y r F)⟩
 .exact⟨B,ok,g_.refl B H⟩
theorem Gz{g:G}(i:Nat)(h:PSs X sts (tG X.K X.H₀ g E)):PSs X sts (tG X.K X.H₀ (WJ i g) E):=h.imp λD p H j=>by
 obtain⟨B,bg,δ,β,o,b,ok,e,q⟩:=j;obtain⟨l,d,s⟩:=ok.thaw i;exact⟨l,bg,th i δ,β,o,b,d,e,f9.pre s q⟩
def qk(i:Nat)(f:FL):G:=λδ β=>match δ.getD i JT with
 |some (.own cs)=>match f (vw δ) β with
  |some (.ok [.int k],β1)=>match ix cs.length k with
   |some j=>if cs.length<=Ki then on (.nx (δ.set i (on (.own (cs.eraseIdx j)))),β1)else JT
   |none=>JT
  |_=>JT
 |_=>JT
theorem GD{f:FL}(h:PS X st (mD (Ur X.K "list" xb (eX i) (hW X.K f E)))):PS X st (tG X.K X.H₀ (qk i f) E):=h.imp λD σ H J=>by
 obtain⟨B,bg,δ,β,o,L,ok,e,q⟩:=J;unfold qk at e;split at e
 case h_2=>cases e
 rename_i cs I;split at e
 case h_2=>cases e
 rename_i k β1 N;split at e
 case h_2=>cases e
 rename_i j O;split at e
 case isFalse=>cases e
 rename_i hs;cases e;obtain⟨v,y,a,ys,rfl,Q,R,e4⟩:=ok.tell i _ (aW I);refine⟨_,y,.inl ⟨rfl,ys,e_.of R⟩,d5 B bg,vw δ,β,ok.fr,ok.view,?_⟩;refine⟨.ok [.int k],_,N,λvs H' t hd=>?_⟩;obtain⟨d,T⟩:=ok.to rfl t;obtain⟨u,rfl,U⟩:=aj.one hd;cases U;obtain⟨v',l,a',p,A,W,r,b⟩:=d.tell i _ (aW I);rw[y]at l;cases l;cases A;obtain⟨Y,Z,z3,z4⟩:=oF O;obtain⟨w,hw,dw⟩:=b.get (JX Z);have hn:=i5;have hz:=b.length;refine⟨a,p,k,j,w,rfl,rfl,r,by omega,by omega,by rw[<-hz];exact Y,hw,?_⟩;obtain⟨F,s3⟩:=d.writeOwn (ds:=cs.eraseIdx j) (xs:=p.eraseIdx j) y Q r (aj.erase j b);exact q _ _ _ (T.trans s3) F
def qo(i j:Nat):G:=λδ β=>match δ.getD i JT,δ.getD j JT with
 |some (.own cs),on (.sh (.int k))=>match lp cs k with
  |some d=>if cs.length<Ki then on (.nx (δ.set i (on (.own (cs++[d])))),β)else JT
  |none=>JT
 |_,_=>JT
theorem GG(h:PS X st (mD (Ur X.K "list" oq (eX i) (uR (KX (oj X.K) (eX i) (eX j)) yO)))):PS X st (tG X.K X.H₀ (qo i j) E):=h.imp λD U H y=>by
 obtain⟨B,bg,δ,β,o,A,ok,e,q⟩:=y;unfold qo at e;split at e
 case h_2=>cases e
 rename_i cs k F I;split at e
 case h_2=>cases e
 rename_i d J;split at e
 case isFalse=>cases e
 rename_i L;cases e;obtain⟨v,l,a,ys,rfl,N,b,p⟩:=ok.tell i _ (aW F);obtain⟨u,O,du⟩:=ok.tell j _ (aW I);cases(show bt X.K (d5 B bg) H (.int k) u from du).int;obtain⟨w,Q,R⟩:=nU p J;refine⟨_,l,.inl ⟨rfl,ys,e_.of b⟩,_,l,_,O,a,ys,k,w,rfl,rfl,e_.of b,Q,a,ys,w,rfl,rfl,b,by rw[<-p.length];exact L,?_⟩;obtain⟨r,T⟩:=ok.writeOwn (ds:=cs++[d]) (xs:=ys++[w]) l N b (aj.append p (aj.cons R aj.nil));exact q _ _ _ T r
end
end L2.Pu
namespace L2.Pu
open PySem PySem.Spec PyProof.Rows L2.Hs
def TH(ks os:List d4):Prop:=Up (ks.map (kl JW))/\os.length<64/\∀k,k∈ks↔k∈os
theorem rO:∀{ks a:List d4},ks.map (kl JW)=a.map (kl JW)->ks=a
 |[],[],_=>rfl
 |[],_::_,h=>by cases h
 |_::_,[],h=>by cases h
 |x::ks,y::a,h=>by
  obtain⟨b,c⟩:=Nv h;rw[rO c,show x=y from Mu (Nv b).1 (Nv b).2]
theorem rN{ks:List d4}:kl JW k∈ks.map (kl JW)↔k∈ks:=⟨λh=>by
 obtain⟨y,a,e⟩:=J5.mp h;rw[show k=y from Mu (Nv e).1.symm (Nv e).2.symm];exact a,λh=>J5.mpr ⟨k,h,rfl⟩⟩
theorem TH.eq{ks d os:List d4}(a:TH ks os)(b:TH d os):ks=d:=rO (kN a.1 b.1 λx=>⟨λh=>by
 obtain⟨y,c,rfl⟩:=J5.mp h;exact rN.mpr ((b.2.2 y).mpr ((a.2.2 y).mp c)),λh=>by
 obtain⟨y,c,rfl⟩:=J5.mp h;exact rN.mpr ((a.2.2 y).mpr ((b.2.2 y).mp c))⟩)
open Classical in
def mG:List D->Option D
 |[.dct JW ks _]=>if h:∃a,TH a ks then on (.lst (h.choose.map (dK JW)))else JT
 |_=>JT
theorem yT{ks a:List d4}(h:TH a ks):mG [.dct JW ks vs]=on (.lst (a.map (dK JW))):=by
 have q:∃a,TH a ks:=⟨a,h⟩;unfold mG;simp only[dif_pos q];rw[q.choose_spec.eq h]
theorem pG{K:Kt}{F:Fx}{H:Hp}{α:Type}{f:α->D}{g:α->JY}:∀{a:List α},(∀z∈a,bt K F H (f z) (.ref (g z)))->aj K F H (a.map f) (a.map λz=>V.ref (g z))
 |[],_=>aj.nil
 |z::a,h=>aj.cons (h z J2) (pG λx b=>h x (J1 z b))
theorem xS{K:Kt}:da K (lS K) mG:=λF H β Q ds d vs fr h e k=>by
 unfold mG at e;split at e
 .rename_i ks B
  split at e
  .rename_i q
   cases e;have s:=q.choose_spec;generalize q.choose=ls at s k;obtain⟨v,rfl,j⟩:=aj.one h;unfold bt at j;obtain⟨a,ep,xs,rfl,r,rfl,m,C⟩:=j;refine⟨a,JW,ep,xs,rfl,r.2,λx b=>⟨(m x b).s,QD (Lq _)⟩,by have:=s.2.1;rw[JS]at this;exact this,λl n o p t=>?_⟩;have f:∀z∈n,∃x∈xs,z=kA JW x:=λz c=>by
    obtain⟨x,b,e⟩:=J5.mp (p.mem_iff.mp c);exact⟨x,b,e.symm⟩
   have u:ls=n.map λz=>(z.1.headD 0,z.1.tail):=rO (by
    rw[Kb];refine(kN s.1 t λy=>?_).trans (K9 λz c=>?_)
    .constructor
     .intro g
      obtain⟨A,i,rfl⟩:=J5.mp g;obtain⟨x,b,rfl⟩:=J5.mp ((s.2.2 A).mp i);exact J5.mpr ⟨kA JW x,p.mem_iff.mpr (J5.mpr ⟨x,b,rfl⟩),rfl⟩
     .intro g
      obtain⟨z,c,rfl⟩:=J5.mp g;obtain⟨x,b,rfl⟩:=f z c;exact rN.mpr ((s.2.2 x.1).mpr (J5.mpr ⟨x,b,rfl⟩))
    .obtain⟨x,b,rfl⟩:=f z c
     rfl)
   rw[u,Kb]at k;refine k _ _ (fr.upd _ o) (bt.newL fr o (pG λz c=>?_));obtain⟨x,b,rfl⟩:=f z c;exact u9 (m x b)
  .cases e
 .cases e
end L2.Pu
namespace HT
open PySem PyProof.Rows
open PySem.SeqAt
open PySem.AutoSeq1 (wpAny_loadPart')
open PySem.MeetsSeq PySem.MeetsSeq2 PySem.MeetsSeq3
section
variable{prog:KF}{w:K1}{A:Lf}{E:J0->J4->Prop}{s:J4}
theorem getItem_tuple_all{a:Array J0}{lo c:Option Int}(b:SU s.heap t a)(hs:s.heap.IsSliceOf sl vl vu .none)(i:Qh vl lo)(j:Qh vu c)
  (g:sIx a.size 0 lo=0/\sIx a.size a.size c=a.size) (h:Q (.ref t) s):Ke (Ky prog w) A (QY (.ref t) (.ref sl)) Q E s:=by
 obtain⟨os,d,e,k⟩:=id hs;have f:s.TypeIs (.ref sl) "slice":=⟨os,d,e⟩;unfold QY
 try with_reducible refine Ln ?_
 first|refine JR (JU ?_)|skip
 refine JR (wpAny_sequenceKey b.typeIs (by decide) ?_);refine JR (wpAny_callSpecial?_slot (name:=LQ "__getitem__") b.typeIs LH
  (KR LH b.typeIs entry_tuple_getitem ?_ (args_tuple_getitem _ _)))
 show Ke _ _ (N7 (.ref t)>>=_) _ _ s;refine JR (tupleItemsOf_ b ?_);refine JR (On f ?_);rw[J8 (by decide)];refine JR (gM hs i j ?_);show Ke _ _ (if(((sIx a.size 0 lo:Nat):Int)==0&&(1:Int)==1&&(sIx a.size a.size c-sIx a.size 0 lo)==a.size)=JW then _ else _) _ _ s;rw[J8 (by rw[g.1,g.2];simp)];refine JR ?_;unfold Builtin.Tuple.tupleIsExact;refine JR (On b.typeIs (JU ?_));rw[J8 (by decide)];exact JR (M0 (JU ⟨_,rfl,JU h⟩))
end
end HT
namespace L2
open PySem PySem.Spec PyProof.Rows
section
variable{X:Cx}
def U2(K:Kt):V->Option Int->Option Int->Hp->VK->Prop:=λx lo b H Q=>∃a xs,x= .ref a/\hH K H a xs/\
 (HT.sIx xs.length 0 lo=0/\HT.sIx xs.length xs.length b=xs.length->Q (.ref a) H)/\(¬(HT.sIx xs.length 0 lo=0/\HT.sIx xs.length xs.length b=xs.length)->∀p,H p=JT->Q (.ref p) (upd H p (.tup (hV xs lo b))))
theorem DV:UD X (U2 X.K):=by
 intro b s l H x v m n lo e sl Q I f hs g i h;obtain⟨a,xs,rfl,j,q1,q2⟩:=h;by_cases d:HT.sIx xs.length 0 lo=0/\HT.sIx xs.length xs.length e=xs.length
 .cases f
  obtain⟨its,r,k,o⟩:=I.tuple j;have c:its.toArray.size=xs.length:=by rw[Kh];exact r.length.symm
  exact⟨"tuple",_,LH.lookup,k.typeIs,HT.getItem_tuple_all k hs g i (by rw[c];exact d) ⟨.ref a,H,I,rfl,q1 d⟩⟩
 .exact Gv b s l H _ v m n lo e sl Q I f hs g i ⟨a,xs,rfl,j,d,q2 d⟩
end
end L2
namespace L2.Pu
open PySem PySem.Spec PyProof.Rows
def uX:D->Option Int->Option Int->Option D
 | .tup xs,lo,hi=>on (.tup (dA xs lo hi))
 |_,_,_=>JT
def sj(f:FD)(lo a:Option (FD)):FD:=λδ=>M.bind (f δ) λd=>M.bind (gE lo δ) λl=>M.bind (gE a δ) λh=>M.ofO (uX d l h)
theorem FT{xs:List D}{lo a:Option Int}(h:HT.sIx xs.length 0 lo=0/\HT.sIx xs.length xs.length a=xs.length):dA xs lo a=xs:=by
 unfold dA;rw[h.1,h.2,List.drop_zero,PD,Lz]
theorem qB{X:Cx}{E:St->XK}{lo u:Option Expr}(C:PE X e (tV X.K f E))(I:oY X lo fl E)(J:oY X u fh E):PE X (.Subscript e (.Slice lo u JT p2) pos) (tV X.K (sj f fl fh) E):=
 (lV DV C I J).imp λU H Q m=>j1 m λF δ β fr n r=>⟨F,δ,β,fr,n,(run.bind (R:=bt X.K F) r).mono λv H1 ⟨d,β1,t,hd,L⟩=>
  ⟨F,δ,β1,t.fr,n.tr (t.tr fr),(run.bind (R:=λ_ (a b:Option Int)=>b=a) L).mono λl W ⟨Y,β2,i,o,N⟩=>
   ⟨F,δ,β2,i.fr,n.tr ((t.tr fr).trans (i.tr t.fr)),(run.bind (R:=λ_ (a b:Option Int)=>b=a) N).mono λh Z m=>by
    obtain⟨h',O,j,q,T⟩:=m;subst o q;obtain⟨c,e,k⟩:=run.ofO T;have g:=bt.tr ((i.tr t.fr).trans (j.tr i.fr)) _ _ hd;unfold uX at e;split at e
    .cases e
     obtain⟨a,xs,rfl,sq,y⟩:=bt.sqT g;refine⟨a,xs,rfl,sq,λA=>k _ _ (To.refl j.fr) ?_,λ_ p B=>k _ _ (j.fr.upd _ B) (bt.newT j.fr B (y.cut l h))⟩;rw[<-y.length]at A;rw[FT A];exact g
    .cases e⟩⟩⟩
end L2.Pu
namespace L2.Pu
open PySem PySem.Spec PyProof.Rows L2.Hs
section
variable{X:Cx}{E:St->XK}{K:Kt}{tg:Expr}
def JC(a:TA):TI:=λb H R=>a b H λvs H1=>∃j:Int,vs=[.int j,.int (-1),.int (-1)]/\-1<=j/\j<2^62/\R (UL (j+1).toNat) H1
theorem xo(m:Gl X "range")(hm:X.mg "range"=JT)(ha:PA X [a,b,c] ta)(hs:Kj [a,b,c] X.env=[(JZ,LC a X.env),(JZ,LC b X.env),(JZ,LC c X.env)]:=by rfl)(f:Kj [b,c] X.env=[(JZ,LC b X.env),(JZ,LC c X.env)]:=by rfl):
  PI X tg (.Call (.Name "range" p) [a,b,c] [] pos) (JC ta):=by
 intro d s l H R I h;refine Call_ (eE I m hm RV (Lw (d_ (ha pos d s l H _ I h) λus i n=>?_) (by rw[hs,f]) (by rw[f];rfl)));obtain⟨vs,H1,u,v,j,rfl,q1,q2,q⟩:=n;cases v with
 |cons r g=>cases g with
  |cons y g=>cases g with
   |cons A g=>
    cases g;obtain⟨t,rfl⟩:=r;obtain⟨t',rfl⟩:=y;obtain⟨B,rfl⟩:=A;refine call_range_3 (by decide) (wpAny_pyIter_range (Rv ..) (PySem.W.small_down (by omega) q2 (by decide) (by decide)) ?_);have k:cp X d l H1 {i with heap:=i.heap.push {cls:= .type "range",data:= .fields #[.int j t,.int (-1) t',.int (-1) B]}}:=u.kept (t':=i.toks) λb o e=>JV _ e;refine⟨_,[_],_,_,H1,rfl,k.kept (t':=i.toks) λb o e=>JV _ e,lr _ (j+1).toNat,?_,λb C=>?_,q⟩
    .show Qi _ _ ((((j+1).toNat:Nat):Int)-1+((0:Nat):Int)*-1) ((((j+1).toNat:Nat):Int)-((0:Nat):Int)) (-1)
     have F:(((j+1).toNat:Nat):Int)-1+((0:Nat):Int)*-1=j:=by omega
     have J:(((j+1).toNat:Nat):Int)-((0:Nat):Int)=Ot j (-1) (-1):=by
      rw[PySem.W.rangeSize_downNat];omega
     rw[F,J];exact Kf _ rfl
    .cases KN.mp C
     exact k.fpOk (J3 _) (k.hok.fresh (J3 _))
def GJ:List D->Option (List D)
 |[.int j,.int (-1),.int (-1)]=>if(decide (-1<=j)&&decide (j<2^62))=JW then on (c7 (j+1).toNat)else JT
 |_=>JT
theorem zH(j:Gl X "range")(hm:X.mg "range"=JT)(ha:PA X [a,b,c] (hW X.K g E))(hs:Kj [a,b,c] X.env=[(JZ,LC a X.env),(JZ,LC b X.env),(JZ,LC c X.env)]:=by rfl)(d:Kj [b,c] X.env=[(JZ,LC b X.env),(JZ,LC c X.env)]:=by rfl):PI X tg (.Call (.Name "range" p) [a,b,c] [] pos) (iV X.K (dF GJ g) E):=
 (xo j hm ha hs d).imp λA H R f=>j1 f λF δ β fr m h=>⟨F,δ,β,fr,m,(run.bind (R:=aj X.K F) h).mono λvs H1 f=>by
  obtain⟨ds,β1,t,hd,n⟩:=f;obtain⟨l,e,k⟩:=run.ofO n;unfold GJ at e;split at e
  .split at e
   .rename_i i
    cases e;simp only[Kz,KV]at i;obtain⟨v,r,rfl,o,q⟩:=hd;obtain⟨B,C,rfl,u,y⟩:=aj.two q;cases o.int;cases u.int;cases y.int;exact⟨_,rfl,i.1,i.2,k _ H1 (To.refl t.fr) m9⟩
   .cases e
  .cases e⟩
end
end L2.Pu
namespace L2.Pu
open PySem L2.Hs
def jy(k:List Int):LI->LI
 |[]=>[k]
 |x::l=>if bE k x=JW then k::x::l else if k=x then x::l else x::jy k l
theorem lK:∀{l:LI},y∈jy k l↔y=k\/y∈l
 |[]=>by simp[jy]
 |x::l=>by
  unfold jy;split
  .simp
  .split
   .rename_i h
    subst h;simp
   .rw[Kk,lK,Kk]
    exact or_left_comm
theorem t8:∀{l:LI},Up l->Up (jy k l)
 |[],_=>by unfold jy;exact MV _ _
 |x::l,h=>by
  obtain⟨a,b⟩:=NU.mp h;unfold jy;split
  .rename_i q
   refine NU.mpr ⟨λy hy=>?_,h⟩;rcases Kk.mp hy with rfl|hy
   .exact q
   .exact m6 q (a y hy)
  .split
   .exact h
   .rename_i q1 q2
    refine NU.mpr ⟨λy hy=>?_,t8 b⟩;rcases lK.mp hy with rfl|hy
    .cases q:bE x y with
     |true=>rfl
     |false=>exact Kx (k6 (by simpa using q1) q) q2
    .exact a y hy
def jS(ks:LI):LI:=ks.foldr jy []
theorem iS:∀ks,Up (jS ks)
 |[]=> .nil
 |k::ks=>t8 (iS ks)
theorem dI:∀{ks:LI},y∈jS ks↔y∈ks
 |[]=>by simp[jS]
 |k::ks=>by
  show y∈jy k (jS ks)↔_;rw[lK,dI,Kk]
theorem BV{l:LI}(h:Up l):l.Nodup:=h.imp λ{a b} q e=>by
 subst e;rw[fU]at q;cases q
theorem Gu{ks:LI}(b:∀k∈ks,1<=k.length){m:LI}(hm:m.length<63)(c:∀k∈ks,k∈m):eY (ks.map hL)=on (.lst ((jS ks).map hL)):=by
 refine qK ⟨iS ks,LF (nd_len (BV (iS ks)) λx e=>c x (dI.mp e)) hm,λk a=>⟨b k (dI.mp a),J5.mpr ⟨k,dI.mp a,rfl⟩⟩,λd hd=>?_⟩;obtain⟨k,a,rfl⟩:=J5.mp hd;exact⟨k,dI.mpr a,rfl⟩
end L2.Pu
namespace L2.Nt
noncomputable def sm{α:Type}(l:List α)(f:α->Nat):Nat:=(l.map f).sum
section
variable{α β:Type}
theorem wL{f:α->Nat}:sm [] f=0:=rfl
theorem cc{a:α}{l:List α}{f:α->Nat}:sm (a::l) f=f a+sm l f:=by unfold sm;rw[Kv,KY]
theorem qM{l m:List α}{f:α->Nat}:sm (l++m) f=sm l f+sm m f:=by unfold sm;rw[KC,List.sum_append]
theorem cZ:∀{l:List α},(∀a∈l,f a=g a)->sm l f=sm l g
 |[],_=>rfl
 |a::l,h=>by rw[cc,cc,h a J2,cZ λb c=>h b (J1 a c)]
theorem mI{g:β->α}{f:α->Nat}{l:List β}:sm (l.map g) f=sm l λb=>f (g b):=by unfold sm;rw[Kb];rfl
theorem kS{g:β->List α}{f:α->Nat}:∀{l:List β},sm (l.flatMap g) f=sm l λb=>sm (g b) f
 |[]=>rfl
 |b::l=>by rw[Lh,qM,cc,kS]
theorem sX:∀{l:List α},(sm l λ_=>0)=0
 |[]=>rfl
 |a::l=>by rw[cc,sX]
theorem wM:∀{l:List α},(sm l λa=>f a+g a)=sm l f+sm l g
 |[]=>rfl
 |a::l=>by rw[cc,cc,cc,wM];omega
theorem mH:∀{l:List α},(sm l λa=>c*f a)=c*sm l f
 |[]=>rfl
 |a::l=>by rw[cc,cc,mH,Nat.mul_add]
theorem BY:∀{n:Nat},m<=n->sm (Ka (m+1)) f=sm (Ka (n+1)) λa=>if a<=m then f a else 0
 |0,h=>by
  obtain rfl:m=0:=by omega
  exact cZ λa ha=>by
   have:=Kw.mp ha;rw[J8 (by omega)]
 |n+1,h=>by
  rcases Qt m (n+1)with q|q
  .rw[Nb (n:=n+1),qM,<-BY (by omega:m<=n),cc,wL,J6 (by omega)]
   omega
  .obtain rfl:m=n+1:=by omega
   exact cZ λa ha=>by
    have:=Kw.mp ha;rw[J8 (by omega)]
noncomputable def cm:List Nat->Nat->List (List Nat)
 |[],0=>[[]]
 |[],_+1=>[]
 |x::r,c=>(Ka (Np x c+1)).flatMap λa=>(cm r (c-a)).map (a::·)
noncomputable def less(r v:List Nat):List Nat:=OD (·-·) r v
theorem wq:sm (cm (x::r) c) f=sm (Ka (Np x c+1)) λa=>sm (cm r (c-a)) λv=>f (a::v):=by
 show sm ((Ka (Np x c+1)).flatMap λa=>(cm r (c-a)).map (a::·)) f=_;rw[kS];exact cZ λa _=>mI
end
end L2.Nt
namespace L2.Nt
open L2.Pu
noncomputable def ch:Nat->Nat->Nat
 |_,0=>1
 |0,_+1=>0
 |n+1,k+1=>ch n k+ch n (k+1)
theorem nM:∀{n k:Nat},n<k->ch n k=0
 |0,k+1,_=>by simp[ch]
 |n+1,k+1,h=>by
  show ch n k+ch n (k+1)=0;rw[nM (by omega),nM (by omega)]
theorem oS(n:Nat):ch n 0=1:=by cases n<;>rfl
theorem uv:∀n,ch n n=1
 |0=>rfl
 |n+1=>by
  show ch n n+ch n (n+1)=1;rw[uv n,nM (by omega)]
theorem vO(n:Nat):dk (n+1)=(n+1)*dk n:=My (dk n) (n+1)
theorem kz:∀n a b:Nat,a+b=n->ch (a+b) a*(dk a*dk b)=dk (a+b)
 |n,0,b,_=>by rw[oS];simp[dk]
 |n,a+1,0,_=>by rw[Nat.add_zero,uv];simp[dk]
 |0,a+1,b+1,h=>by omega
 |n+1,a+1,b+1,h=>by
  have c:=kz n a (b+1) (by omega);have d:=kz n (a+1) b (by omega);have e:a+1+(b+1)=(a+b+1)+1:=by omega
  have f:a+(b+1)=a+b+1:=by omega
  have g:a+1+b=a+b+1:=by omega
  rw[f]at c;rw[g]at d;rw[e];show(ch (a+b+1) a+ch (a+b+1) (a+1))*(dk (a+1)*dk (b+1))=dk (a+b+1+1);rw[vO (a+b+1),Sz];have i:ch (a+b+1) a*(dk (a+1)*dk (b+1))=(a+1)*dk (a+b+1):=by
   rw[<-c,vO a];simp only[Oo,N5,My]
  have j:ch (a+b+1) (a+1)*(dk (a+1)*dk (b+1))=(b+1)*dk (a+b+1):=by
   rw[<-d,vO b];simp only[Oo,N5,My]
  rw[i,j,<-Sz,show a+1+(b+1)=a+b+1+1 by omega]
theorem kR:sm (Ka (n+1)) f=f 0+sm (Ka n) λa=>f (a+1):=by
 rw[RI,cc,mI]
theorem yG:∀(x y c:Nat),(sm (Ka (c+1)) λa=>ch x a*ch y (c-a))=ch (x+y) c
 |0,y,c=>by
  rw[kR,oS,SA,PD,MA];have:(sm (Ka c) λa=>ch 0 (a+1)*ch y (c-(a+1)))=0:=(cZ λa _=>by rw[nM (by omega),RO]).trans sX;rw[this];rfl
 |x+1,y,0=>by rw[kR];simp[oS,wL]
 |x+1,y,c+1=>by
  have b:=yG x y (c+1);have d:=yG x y c;rw[kR]at b;rw[kR];have e:(sm (Ka (c+1)) λa=>ch (x+1) (a+1)*ch y (c+1-(a+1)))=(sm (Ka (c+1)) λa=>ch x a*ch y (c-a))+sm (Ka (c+1)) λa=>ch x (a+1)*ch y (c+1-(a+1)):=by
   rw[<-wM];refine cZ λa _=>?_;show(ch x a+ch x (a+1))*_=_;rw[Sz,Nat.add_sub_add_right]
  rw[e,d];have f:x+1+y=x+y+1:=by omega
  rw[f];show _=ch (x+y) c+ch (x+y) (c+1);rw[<-b,oS,oS];omega
theorem W3(x y c:Nat):(sm (Ka (Np x c+1)) λa=>ch x a*ch y (c-a))=ch (x+y) c:=by
 rw[BY (Nat.min_le_right x c),<-yG];refine cZ λa ha=>?_;have:=Kw.mp ha;by_cases q:a<=x
 .rw[J8 (by omega)]
 .rw[J6 (by omega),nM (by omega),RO]
def pc:List Nat->List Nat->Nat
 |x::r,a::v=>ch x a*pc r v
 |_,_=>1
theorem xt:∀(r:List Nat) (c:Nat),sm (cm r c) (pc r)=ch r.sum c
 |[],0=>rfl
 |[],c+1=>rfl
 |x::r,c=>by
  rw[wq,KY,<-W3];exact cZ λa _=>by rw[<-xt r (c-a),<-mH];rfl
theorem gL:∀{r:List Nat} {c:Nat} {v:List Nat},v∈cm r c->v.sum=c/\(less r v).sum+c=r.sum/\v.length=r.length/\pr (r.map dk)=pc r v*(pr (v.map dk)*pr ((less r v).map dk))
 |[],0,v,h=>by cases KN.mp h;exact⟨rfl,rfl,rfl,rfl⟩
 |[],c+1,v,h=>by cases h
 |x::r,c,v,h=>by
  have h':v∈(Ka (Np x c+1)).flatMap λa=>(cm r (c-a)).map (a::·):=h;obtain⟨a,ha,d⟩:=Lx.mp h';obtain⟨u,e,rfl⟩:=J5.mp d;have f:=Kw.mp ha;obtain⟨g,i,j,k⟩:=gL e;refine⟨by rw[KY,g];omega,?_,by rw[Kq,j,Kq],?_⟩
  .show((x-a)::less r u).sum+c=_
   rw[KY,KY,<-i];omega
  .show dk x*pr (r.map dk)=(ch x a*pc r u)*((dk a*pr (u.map dk))*(dk (x-a)*pr ((less r u).map dk)))
   have b:=kz x a (x-a) (by omega);rw[show a+(x-a)=x by omega]at b;rw[k,<-b];simp only[Oo,N5,My]
def mu:List Nat->Nat
 |[]=>1
 |x::r=>ch (x+r.sum) x*mu r
theorem gY:∀r:List Nat,mu r*pr (r.map dk)=dk r.sum
 |[]=>rfl
 |x::r=>by
  show(ch (x+r.sum) x*mu r)*(dk x*pr (r.map dk))=dk (x::r).sum;rw[KY,<-kz _ x r.sum rfl,<-gY r];simp only[Oo,N5,My]
theorem ou(r:List Nat):0<pr (r.map dk):=q9 λx a=>by
 obtain⟨n,_,rfl⟩:=J5.mp a;exact i7 n
theorem Hf(r:List Nat):dk r.sum/pr (r.map dk)=mu r:=by rw[<-gY,Nat.mul_div_cancel _ (ou r)]
def Q_:List Nat->List Nat->Nat
 |_,[]=>1
 |r,c::cs=>sm (cm r c) λv=>mu v*Q_ (less r v) cs
theorem BK:∀{r:List Nat},r.sum=0->mu r=1
 |[],_=>rfl
 |x::r,h=>by
  rw[KY]at h;obtain rfl:x=0:=by omega
  show ch _ 0*mu r=1;rw[oS,BK (by omega)]
theorem i9:∀(cs r:List Nat),r.sum=cs.sum->Q_ r cs=mu r
 |[],r,h=>(BK h).symm
 |c::cs,r,h=>by
  rw[KY]at h;refine Nat.eq_of_mul_eq_mul_right (ou r) ?_;rw[gY];show sm (cm r c) (λv=>mu v*Q_ (less r v) cs)*_=_;rw[My,<-mH];have e:(sm (cm r c) λv=>pr (r.map dk)*(mu v*Q_ (less r v) cs))=sm (cm r c) λv=>(dk c*dk (r.sum-c))*pc r v:=by
   refine cZ λv a=>?_;obtain⟨b,f,g,d⟩:=gL a;rw[i9 cs (less r v) (by omega),d];have m1:=gY v;have m2:=gY (less r v);rw[b]at m1;rw[show(less r v).sum=r.sum-c by omega]at m2;rw[<-m1,<-m2];simp only[Oo,N5,My]
  rw[e,mH,xt,My];have:=kz r.sum c (r.sum-c) (by omega);rw[show c+(r.sum-c)=r.sum by omega]at this;exact this
def j2:List Nat->List Nat->Prop
 |[],[]=>True
 |a::v,x::r=>a<=x/\j2 v r
 |_,_=>False
theorem j2.refl:∀r,j2 r r
 |[]=>trivial
 |_::r=>⟨J3 _,j2.refl r⟩
theorem j2.tr:∀{u v r:List Nat},j2 u v->j2 v r->j2 u r
 |[],[],[],_,_=>trivial
 |_::_,_::_,_::_,h,q=>⟨Kl h.1 q.1,h.2.tr q.2⟩
 |[],_::_,_,h,_=>h.elim
 |_::_,[],_,h,_=>h.elim
 |[],[],_::_,_,q=>q.elim
 |_::_,_::_,[],_,q=>q.elim
theorem j2.len:∀{v r:List Nat},j2 v r->v.length=r.length
 |[],[],_=>rfl
 |_::_,_::_,h=>La (·+1) h.2.len
 |[],_::_,h=>h.elim
 |_::_,[],h=>h.elim
theorem j2.less:∀{v r:List Nat},j2 v r->j2 (less r v) r
 |[],[],_=>trivial
 |a::v,x::r,h=>⟨Nat.sub_le x a,h.2.less⟩
 |[],_::_,h=>h.elim
 |_::_,[],h=>h.elim
theorem j2.pr:∀{v r:List Nat},j2 v r->L2.Pu.pr (v.map (·+1))<=L2.Pu.pr (r.map (·+1))
 |[],[],_=>J3 _
 |_::_,_::_,h=>Nat.mul_le_mul (QD h.1) h.2.pr
 |[],_::_,h=>h.elim
 |_::_,[],h=>h.elim
theorem j2.sum:∀{v r:List Nat},j2 v r->v.sum<=r.sum
 |[],[],_=>J3 _
 |_::_,_::_,h=>by rw[KY,KY];exact Rc h.1 h.2.sum
 |[],_::_,h=>h.elim
 |_::_,[],h=>h.elim
theorem cR:∀{r:List Nat} {c:Nat} {v:List Nat},v∈cm r c->j2 v r
 |[],0,v,h=>by cases KN.mp h;exact trivial
 |[],c+1,v,h=>by cases h
 |x::r,c,v,h=>by
  have h':v∈(Ka (Np x c+1)).flatMap λa=>(cm r (c-a)).map (a::·):=h;obtain⟨a,ha,b⟩:=Lx.mp h';obtain⟨u,d,rfl⟩:=J5.mp b;have e:=Kw.mp ha;exact⟨by omega,cR d⟩
theorem lY:∀{r v:List Nat},j2 v r->v∈cm r v.sum
 |[],[],_=>KN.mpr rfl
 |x::r,a::v,h=>by
  refine Lx.mpr ⟨a,Kw.mpr (by rw[KY];have:=h.1;omega),J5.mpr ⟨v,?_,rfl⟩⟩;rw[KY,RJ];exact lY h.2
 |[],_::_,h=>h.elim
 |_::_,[],h=>h.elim
theorem dX{α a:Type}{f:α->List a}{n:Nat}:∀{l:List α},(∀x∈l,(f x).length<=n)->(l.flatMap f).length<=l.length*n
 |[],_=>by simp
 |x::l,h=>by
  rw[Lh,Kg,Kq,Nat.succ_mul,Qr];exact Rc (dX λy b=>h y (J1 _ b)) (h x J2)
theorem lH:∀(r:List Nat) (c:Nat),(cm r c).length<=pr (r.dropLast.map (·+1))
 |[],0=>J3 _
 |[],_+1=>Lq _
 |[x],c=>by
  have h:cm [x] c=(Ka (Np x c+1)).flatMap λa=>(cm [] (c-a)).map (a::·):=rfl;rw[h,Nb,LU,Kg];have e:((Ka (Np x c)).flatMap λa=>(cm [] (c-a)).map (a::·))=[]:=by
   refine NX.mpr λa ha=>?_;have:=Kw.mp ha;obtain⟨n,hn⟩:∃n,c-a=n+1:=⟨c-a-1,by omega⟩;rw[hn];rfl
  rw[e];cases q:c-Np x c<;>simp[cm,q,pr]
 |x::y::r,c=>by
  have h:=dX (l:=Ka (Np x c+1)) (f:=λa=>(cm (y::r) (c-a)).map (a::·)) (n:=pr ((y::r).dropLast.map (·+1))) λa _=>by rw[JS];exact lH (y::r) (c-a)
  rw[KD]at h;refine Kl h ?_;show _<=(x+1)*pr ((y::r).dropLast.map (·+1));exact Op _ (by omega)
theorem nA{α β a:Type}{f:α->List β}{g:β->List a}(l:List α):(l.flatMap f).flatMap g=l.flatMap λx=>(f x).flatMap g:=List.flatMap_assoc
theorem u4(r:List Nat)(k:Nat):pr ((r.take k).map (·+1))<=pr (r.map (·+1)):=by
 conv=>rhs;rw[<-MG k r,KC,xi]
 exact Pp _ (q9 λx a=>by
  obtain⟨n,_,rfl⟩:=J5.mp a;omega)
theorem qc(l:List Nat):(nI l).map Int.toNat=l:=by
 rw[Kb];exact(K9 λx _=>rfl).trans (QC l)
theorem j9(h:nI l=nI m):l=m:=by rw[<-qc l,h,qc]
theorem xB{α a:Type}{f:α->a}{l:List α}(h:(l.map f).Nodup):l.Nodup:=(MO.mp h).imp λq e=>q (La f e)
theorem xD{α c:Type}{f:α->c}(inj:∀a b,f a=f b->a=b){l:List α}(h:l.Nodup):(l.map f).Nodup:=MO.mpr (h.imp λq e=>q (inj _ _ e))
theorem iD{cs:List Nat}(h:k<cs.length):cs.drop k=cs.getD k 0::cs.drop (k+1):=by
 rw[Ls h,Kd,JX h];rfl
noncomputable def F_:List (Nat×Nat)->List Nat->Bool
 |p::ps,a::v=>decide (p.1<=a)&&decide (a<=p.2)&&F_ ps v
 |_,_=>JW
def vB(ps:List (Nat×Nat))(r:List Nat)(c:Nat):List (List Nat):=(cm r c).filter (F_ ps)
theorem Gf(h:v∈vB ps r c):v∈cm r c:=(Pz.mp h).1
theorem n9{p:Nat×Nat}:vB (p::ps) (x::r) c=(Ka (Np x c+1)).flatMap λa=>if p.1<=a/\a<=p.2 then(vB ps r (c-a)).map (a::·)else[]:=by
 show((Ka (Np x c+1)).flatMap λa=>(cm r (c-a)).map (a::·)).filter (F_ (p::ps))=_;rw[Sw];refine La (RG · _) (funext λa=>?_);rw[QN];by_cases q:p.1<=a/\a<=p.2
 .rw[J8 q]
  refine La (MU (a::·)) (Tl λv _=>?_);show(decide (p.1<=a)&&decide (a<=p.2)&&F_ ps v)=F_ ps v;rw[Km q.1,Km q.2];rfl
 .rw[J6 q,RF.mpr,NF]
  intro v _ h;have h:(decide (p.1<=a)&&decide (a<=p.2)&&F_ ps v)=JW:=h;simp only[Kz,KV]at h;exact q h.1
noncomputable def lk:List (Nat×Nat)->List Nat->List Nat
 |p::ps,x::r=>Np x p.2::lk ps r
 |_,_=>[]
noncomputable def lb(ps:List (Nat×Nat)):List Nat:=ps.map (·.1)
theorem BU:∀{ps:List (Nat×Nat)} {r:List Nat} {c:Nat} {v:List Nat},ps.length=r.length->v∈vB ps r c->(lb ps).sum<=c/\c<=(lk ps r).sum
 |[],[],c,v,_,h=>by
  have:=gL (Gf h);simp at this;simp[lb,lk];omega
 |p::ps,x::r,c,v,e,h=>by
  rw[n9]at h;obtain⟨a,ha,h⟩:=Lx.mp h;by_cases q:p.1<=a/\a<=p.2
  .rw[J8 q]at h
   obtain⟨u,b,rfl⟩:=J5.mp h;have i:=BU (by simpa using e) b;have:=Kw.mp ha;simp only[lb,lk,Kv,KY]at i⊢;omega
  .rw[J6 q]at h;cases h
noncomputable def T5(x:Nat)(p:Nat×Nat)(few a:Nat)(b:List Nat×Nat):List (List Nat×Nat):=(Ka (Np (Np x p.2+few) b.2+1-few-max p.1 (b.2-a))).map λi=>(b.1++[max p.1 (b.2-a)+i],b.2-(max p.1 (b.2-a)+i))
def nt(ps:List (Nat×Nat))(r:List Nat)(c:Nat):Nat->List (List Nat×Nat)
 |0=>[([],c)]
 |k+1=>(nt ps r c k).flatMap (T5 (r.getD k 0) (ps.getD k (0,0)) ((lb ps).drop (k+1)).sum ((lk ps r).drop (k+1)).sum)
theorem kn{b:Type}{f:Nat->List b}{lo n N:Nat}(h:∀a<N,f a≠[]->lo<=a/\a<n)(hn:n<=N):(Ka N).flatMap f=(Ka (n-lo)).flatMap λi=>f (lo+i):=by
 have e:∀{a},a<N->¬(lo<=a/\a<n)->f a=[]:=λ{a} ha q=>LK λz=>q (h a ha z);obtain⟨d,rfl⟩:∃d,N=n+d:=⟨N-n,by omega⟩;have z:(Ka d).flatMap (λa=>f (n+a))=[]:=NX.mpr λa ha=>e (by have:=Kw.mp ha;omega) (by omega);rw[List.range_add,LU,Pk,z,KW];rcases Nat.le_total lo n with q|q
 .obtain⟨m,rfl⟩:∃m,n=lo+m:=⟨n-lo,by omega⟩
  rw[List.range_add,LU,NX.mpr λa ha=>e (by have:=Kw.mp ha;omega) (by have:=Kw.mp ha;omega),MK,Pk,RJ]
 .rw[show n-lo=0 by omega,NX.mpr λa ha=>e (by have:=Kw.mp ha;omega) (by have:=Kw.mp ha;omega)];rfl
theorem qD:∀{ps:List (Nat×Nat)} {r:List Nat} (k:Nat),lk (ps.drop k) (r.drop k)=(lk ps r).drop k
 |_,_,0=>rfl
 |[],r,k+1=>by simp[lk]
 |p::ps,[],k+1=>by cases h:(ps.drop k)<;>simp[lk,h]
 |p::ps,x::r,k+1=>qD k
theorem fJ{α:Type}{l:List α}{k:Nat}{d:α}(h:k<l.length):l.getD k d=l[k]:=by rw[Kd,JX h];rfl
theorem dY{α a:Type}{f g:α->List a}:∀{l:List α},(∀x∈l,f x=g x)->l.flatMap f=l.flatMap g
 |[],_=>rfl
 |x::l,h=>by rw[Lh,Lh,h x J2,dY λy b=>h y (J1 _ b)]
theorem sW{ps:List (Nat×Nat)}{r:List Nat}(e:ps.length=r.length)(c:Nat):∀k,k<=r.length->((nt ps r c k).flatMap λb=>(vB (ps.drop k) (r.drop k) b.2).map (b.1++·))=vB ps r c
 |0,_=>by simp[nt]
 |k+1,h=>by
  rw[<-sW e c k (by omega)];show((nt ps r c k).flatMap _).flatMap _=_;rw[nA];refine La (RG · (nt ps r c k)) (funext λb=>?_);have g:k<r.length:=by omega
  have j:k<ps.length:=by omega
  rw[Ls g,Ls j,fJ g,fJ j,n9,LN];rw[kn (f:=λa=>(if ps[k].1<=a/\a<=ps[k].2 then(vB (ps.drop (k+1)) (r.drop (k+1)) (b.2-a)).map (a::·)else[]).map (b.1++·)) (N:=Np r[k] b.2+1) (lo:=max ps[k].1 (b.2-((lk ps r).drop (k+1)).sum)) (n:=Np (Np r[k] b.2+1) (Np (Np r[k] ps[k].2+((lb ps).drop (k+1)).sum) b.2+1-((lb ps).drop (k+1)).sum)) (λa o ha=>?_) (Nat.min_le_left _ _)]
  .unfold T5
   rw[Pk,show Np (Np r[k] b.2+1) (Np (Np r[k] ps[k].2+((lb ps).drop (k+1)).sum) b.2+1-((lb ps).drop (k+1)).sum)=Np (Np r[k] ps[k].2+((lb ps).drop (k+1)).sum) b.2+1-((lb ps).drop (k+1)).sum by omega];refine dY λi l=>?_;have:=Kw.mp l;rw[J8 (by omega),Kb];exact K9 λv _=>by simp
  .by_cases q:ps[k].1<=a/\a<=ps[k].2
   .rw[J8 q]at ha
    obtain⟨w,d⟩:=List.exists_mem_of_ne_nil _ ha;obtain⟨w,d,_⟩:=J5.mp d;obtain⟨v,m,_⟩:=J5.mp d;have:=BU (by simp[e]) m;rw[qD]at this;unfold lb at this⊢;rw[Nd]at this;omega
   .rw[J6 q]at ha;exact Kx rfl ha
theorem Ge(c:Nat):vB [] [] c=if(c:Int)=0 then[[]]else[]:=by
 cases c with
 |zero=>rfl
 |succ n=>rw[J6 (by omega)];rfl
theorem DT{ps:List (Nat×Nat)}{r:List Nat}(a:ps.length=r.length)(c:Nat):((nt ps r c r.length).filter λb=>decide ((b.2:Int)=0)).map (·.1)=vB ps r c:=by
 rw[<-sW a c r.length (J3 _),NA,<-a,NA,a];generalize nt ps r c r.length=l
 induction l with
 |nil=>rfl
 |cons b l ih=>
  rw[Lh,List.filter_cons,<-ih,Ge];by_cases q:(b.2:Int)=0
  .rw[J8 q,J8 (Km q)];simp
  .rw[J6 q,J6 (by simp;omega)];rfl
theorem sV{r:List Nat}(c:Nat):∀k,k<=r.length->(nt ps r c k).length<=pr ((r.take k).map (·+1))
 |0,_=>J3 _
 |k+1,h=>by
  have e:r[k]?=on r[k]:=JX (by omega);rw[iY e];refine Kl (dX (n:=r[k]+1) λb _=>?_) (Op _ (sV c k (by omega)));unfold T5;rw[JS,KD,fJ (show k<r.length by omega)];omega
theorem wJ(ps:List (Nat×Nat))(r:List Nat)(c:Nat):∀k,∀b∈nt ps r c k,b.2<=c/\b.1.length=k
 |0,b,h=>by cases KN.mp h;exact⟨J3 _,rfl⟩
 |k+1,b,h=>by
  obtain⟨d,hd,a⟩:=Lx.mp (show b∈(nt ps r c k).flatMap _ from h);obtain⟨i,_,rfl⟩:=J5.mp a;obtain⟨q1,q2⟩:=wJ ps r c k d hd;exact⟨by show d.2-_<=c;omega,by rw[Kg,q2];rfl⟩
theorem wy:∀{ps:List (Nat×Nat)} {r:List Nat},(lk ps r).sum<=r.sum
 |[],r=>Lq _
 |_::_,[]=>J3 _
 |p::ps,x::r=>by
  have:=wy (ps:=ps) (r:=r);simp only[lk,KY];omega
abbrev Wy:=Nat->List Nat->List (List Nat)
def y1(cs:List Nat)(W:Wy):Prop:=∀k r,(W k r).Sublist (cm r (cs.getD k 0))
def PC(W:Wy)(L:List (List Nat))(k:Nat):LI:=L.flatMap λr=>(W k r).map λv=>nI (less r v)
def O_(W:Wy)(L:List (List Nat))(k:Nat):List (List Nat):=(jS (PC W L k)).map λk=>k.map Int.toNat
section
variable{W:Wy}{cs rs:List Nat}
theorem fS:y∈PC W L k↔∃r∈L,∃v∈W k r,y=nI (less r v):=by
 unfold PC;constructor
 .intro h
  obtain⟨r,a,h⟩:=Lx.mp h;obtain⟨v,b,rfl⟩:=J5.mp h;exact⟨r,a,v,b,rfl⟩
 .rintro⟨r,a,v,b,rfl⟩
  exact Lx.mpr ⟨r,a,J5.mpr ⟨v,b,rfl⟩⟩
theorem qb(L:List (List Nat))(k:Nat):(O_ W L k).map nI=jS (PC W L k):=by
 unfold O_;rw[Kb];refine(K9 λy a=>?_).trans (QC _);obtain⟨r,_,v,_,rfl⟩:=fS.mp (dI.mp a);show nI ((nI _).map Int.toNat)=_;rw[qc];rfl
theorem fR:u∈O_ W L k↔∃r∈L,∃v∈W k r,u=less r v:=by
 constructor
 .intro h
  have:nI u∈jS (PC W L k):=by rw[<-qb];exact J5.mpr ⟨u,h,rfl⟩
  obtain⟨r,a,v,b,e⟩:=fS.mp (dI.mp this);exact⟨r,a,v,b,j9 e⟩
 .rintro⟨r,a,v,b,rfl⟩
  exact J5.mpr ⟨nI (less r v),dI.mpr (fS.mpr ⟨r,a,v,b,rfl⟩),qc _⟩
def ff(W:Wy)(rs:List Nat):Nat->List (List Nat)
 |0=>[rs]
 |k+1=>O_ W (ff W rs k) k
theorem kg:∀k,(ff W rs k).Nodup
 |0=>MV _ _
 |k+1=>xB (f:=nI) (by show(MU nI (O_ _ _ _)).Nodup;rw[qb];exact BV (iS _))
theorem fE(b:y1 cs W)(hs:rs.sum=cs.sum):∀k,k<=cs.length->∀r∈ff W rs k,j2 r rs/\r.sum=(cs.drop k).sum
 |0,_,r,h=>by cases KN.mp h;exact⟨j2.refl _,hs⟩
 |k+1,hk,u,h=>by
  obtain⟨r,c,v,a,rfl⟩:=fR.mp (show u∈O_ W (ff W rs k) k from h);have a:=(b k r).subset a;obtain⟨q1,q2⟩:=fE b hs k (by omega) r c;have q3:=(gL a).2.1;rw[q2,iD (by omega),KY]at q3;exact⟨(cR a).less.tr q1,by omega⟩
theorem tT(a:y1 cs W)(hs:rs.sum=cs.sum)(b:k<=cs.length):(ff W rs k).length<=pr (rs.dropLast.map (·+1)):=
 Kl (nd_len (kg k) (m:=cm rs (cs.drop k).sum) λr c=>by
  obtain⟨d,e⟩:=fE a hs k b r c;rw[<-e];exact lY d) (lH _ _)
theorem tP(a:y1 cs W)(hs:rs.sum=cs.sum)(e:1<=rs.length)(f:pr (rs.dropLast.map (·+1))<63)(g:k<cs.length):eY ((PC W (ff W rs k) k).map hL)=on (.lst ((ff W rs (k+1)).map λr=>hL (nI r))):=by
 refine(Gu (m:=(cm rs (cs.drop (k+1)).sum).map nI) ?_ (by rw[JS];exact LF (lH _ _) f) ?_).trans ?_
 .intro x b
  obtain⟨r,c,v,d,rfl⟩:=fS.mp b;rw[JS,((cR ((a k r).subset d)).less.tr (fE a hs k (by omega) r c).1).len];exact e
 .intro x b
  obtain⟨r,c,v,d,rfl⟩:=fS.mp b;obtain⟨q1,q2⟩:=fE a hs (k+1) g (less r v) (fR.mpr ⟨r,c,v,d,rfl⟩);exact J5.mpr ⟨less r v,by rw[<-q2];exact lY q1,rfl⟩
 .rw[<-qb,Kb];rfl
def K_(W:Wy)(rs:List Nat)(n:Nat):List (Int×List Int):=(Ka n).flatMap λk=>(ff W rs k).map λr=>((k:Int),nI r)
theorem xV:∀n,(K_ W rs n).Nodup
 |0=>List.nodup_nil
 |n+1=>by
  unfold K_;rw[Nb,LU,Lh,Oa,KW];refine O3.mpr ⟨xV n,xD (λr s e=>j9 (N2.mp e).2) (kg n),λx a y b e=>?_⟩;subst e;obtain⟨k,c,h⟩:=Lx.mp a;obtain⟨r,_,rfl⟩:=J5.mp h;obtain⟨s,_,e⟩:=J5.mp b;have:=(N2.mp e).1;have d:=Kw.mp c;simp only at this;omega
def o1(W:Wy):Nat->Nat->List Nat->Nat
 |0,_,_=>1
 |j+1,k,r=>sm (W k r) λv=>o1 W j (k+1) (less r v)
def ri(W:Wy):Nat->Nat->List Nat->Nat
 |0,_,_=>1
 |j+1,k,r=>sm (W k r) λv=>mu v*ri W j (k+1) (less r v)
theorem jT{α:Type}{f g:α->Nat}{l m:List α}(h:l.Sublist m)(q:∀a∈m,f a<=g a):sm l f<=sm m g:=by
 induction h with
 |slnil=>exact J3 _
 |cons a _ ih=>rw[cc];exact Kl (ih λx b=>q x (J1 _ b)) (Nat.le_add_left _ _)
 |cons_cons a _ ih=>rw[cc,cc];exact Rc (q a J2) (ih λx b=>q x (J1 _ b))
theorem nE(a:y1 cs W):∀(j k:Nat) (r:List Nat),k+j=cs.length->ri W j k r<=Q_ r (cs.drop k)
 |0,k,r,h=>by rw[show k=cs.length by omega,NA];exact J3 _
 |j+1,k,r,h=>by
  rw[iD (by omega)];exact jT (a k r) λv _=>Nat.mul_le_mul_left _ (nE a j (k+1) (less r v) (by omega))
noncomputable def A_:List (Nat×Nat)->List Nat->List (List Nat)
 |p::ps,x::r=>(Ka (Np p.2 x+1-p.1)).flatMap λi=>(A_ ps r).map ((p.1+i)::·)
 |_,_=>[[]]
theorem yu:∀{ps:List (Nat×Nat)} {r:List Nat} {c:Nat},ps.length=r.length->(A_ ps r).filter (λv=>decide (v.sum=c))=vB ps r c
 |[],[],c,_=>by cases c<;>rfl
 |p::ps,x::r,c,h=>by
  have h':ps.length=r.length:=by simpa using h
  rw[n9,kn (lo:=p.1) (n:=Np (Np x c+1) (Np p.2 x+1)) (N:=Np x c+1) (λa d ha=>?_) (Nat.min_le_left _ _)]
  .show((Ka (Np p.2 x+1-p.1)).flatMap λi=>(A_ ps r).map ((p.1+i)::·)).filter _=_
   rw[Sw];have e:∀i,List.filter (λv=>decide (v.sum=c)) ((A_ ps r).map ((p.1+i)::·))=if p.1+i<=c then(vB ps r (c-(p.1+i))).map ((p.1+i)::·)else[]:=λi=>by
    rw[QN];by_cases q:p.1+i<=c
    .rw[J8 q,<-yu h']
     refine La (MU _) (Tl λv _=>?_);show decide (((p.1+i)::v).sum=c)=_;rw[KY];exact decide_eq_decide.mpr (by omega)
    .rw[J6 q,RF.mpr,NF]
     intro v _ z;have z:decide (((p.1+i)::v).sum=c)=JW:=z;rw[KY,KV]at z;omega
   rw[dY λi _=>e i];rw[kn (f:=λi=>if p.1+i<=c then(vB ps r (c-(p.1+i))).map ((p.1+i)::·)else[]) (lo:=0) (n:=Np (Np x c+1) (Np p.2 x+1)-p.1) (N:=Np p.2 x+1-p.1) (λa ha q=>⟨Lq _,?_⟩) (by omega),PD]
   .refine dY λi b=>?_
    have:=Kw.mp b;rw[MA,J8 (by omega),J8 (by omega)]
   .by_cases z:p.1+a<=c
    .omega
    .rw[J6 z]at q;exact Kx rfl q
  .by_cases q:p.1<=a/\a<=p.2
   .omega
   .rw[J6 q]at ha;exact Kx rfl ha
noncomputable def lQ(ps:List (Nat×Nat))(r:List Nat):Nat->List (List Nat)
 |0=>[[]]
 |k+1=>(lQ ps r k).flatMap λu=>(Ka (Np (ps.getD k (0,0)).2 (r.getD k 0)+1-(ps.getD k (0,0)).1)).map λi=>u++[(ps.getD k (0,0)).1+i]
theorem ud{ps:List (Nat×Nat)}{r:List Nat}(c:ps.length=r.length):∀k,k<=r.length->((lQ ps r k).flatMap λu=>(A_ (ps.drop k) (r.drop k)).map (u++·))=A_ ps r
 |0,_=>by simp[lQ]
 |k+1,h=>by
  rw[<-ud c k (by omega)];show((lQ ps r k).flatMap _).flatMap _=_;rw[nA];refine dY λu _=>?_;have a:k<r.length:=by omega
  have b:k<ps.length:=by omega
  rw[Ls a,Ls b,fJ a,fJ b];show _=((Ka (Np ps[k].2 r[k]+1-ps[k].1)).flatMap λi=>(A_ (ps.drop (k+1)) (r.drop (k+1))).map ((ps[k].1+i)::·)).map (u++·);rw[LN,Pk];refine dY λi _=>?_;rw[Kb];exact K9 λv _=>by simp
theorem uc{ps:List (Nat×Nat)}{r:List Nat}(a:ps.length=r.length):lQ ps r r.length=A_ ps r:=by
 rw[<-ud a r.length (J3 _),NA,<-a,NA];show _=(lQ ps r ps.length).flatMap λu=>[u++[]];generalize lQ ps r ps.length=l
 induction l with
 |nil=>rfl
 |cons x l ih=>rw[Lh,<-ih,KW];rfl
theorem ub{r:List Nat}:∀k,k<=r.length->(lQ ps r k).length<=pr ((r.take k).map (·+1))
 |0,_=>J3 _
 |k+1,h=>by
  have e:r[k]?=on r[k]:=JX (by omega);rw[iY e];refine Kl (dX (n:=r[k]+1) λb _=>?_) (Op _ (ub k (by omega)));rw[JS,KD,fJ (show k<r.length by omega)];omega
theorem ya:∀k,∀u∈lQ ps r k,u.length=k
 |0,b,h=>by cases KN.mp h;rfl
 |k+1,b,h=>by
  obtain⟨d,hd,a⟩:=Lx.mp (show b∈(lQ ps r k).flatMap _ from h);obtain⟨i,_,rfl⟩:=J5.mp a;rw[Kg,ya k d hd];rfl
def lst(W:Wy)(rs:List Nat):Nat->List (List (List Nat)×List Nat)
 |0=>[([],rs)]
 |k+1=>(lst W rs k).flatMap λq=>(W k q.2).map λv=>(q.1++[v],less q.2 v)
theorem xH(m:Nat):∀k,k<=m->(sm (lst W rs k) λq=>o1 W (m-k) k q.2)=o1 W m 0 rs
 |0,_=>by show o1 W (m-0) 0 rs+0=_;rfl
 |k+1,h=>by
  rw[<-xH m k (by omega)];show sm ((lst W rs k).flatMap _) _=_;rw[kS];refine cZ λq _=>?_;rw[mI,show m-k=m-(k+1)+1 by omega];rfl
theorem qL{α:Type}:∀l:List α,(sm l λ_=>1)=l.length
 |[]=>rfl
 |x::l=>by rw[cc,qL l,Kq,Qr]
theorem EY(m:Nat):(lst W rs m).length=o1 W m 0 rs:=by
 rw[<-xH m m (J3 _),N6];exact(qL _).symm
theorem rB(r:List Nat):0<mu r:=Nat.pos_of_ne_zero λz=>by
 have:=gY r;rw[z,RO]at this;have:=i7 r.sum;omega
theorem rG(b:y1 cs W)(hs:rs.sum=cs.sum):∀k,k<=cs.length->∀q∈lst W rs k,j2 q.2 rs/\q.2.sum=(cs.drop k).sum/\q.1.length=k
 |0,_,q,h=>by cases KN.mp h;exact⟨j2.refl _,hs,rfl⟩
 |k+1,hk,u,h=>by
  obtain⟨q,c,d⟩:=Lx.mp (show u∈(lst W rs k).flatMap _ from h);obtain⟨v,a,rfl⟩:=J5.mp d;have a:=(b k q.2).subset a;obtain⟨q1,q2,q3⟩:=rG b hs k (by omega) q c;have q4:=(gL a).2.1;rw[q2,iD (by omega),KY]at q4;exact⟨(cR a).less.tr q1,by show(less q.2 v).sum=_;omega,by rw[Kg,q3];rfl⟩
theorem xI(a:y1 cs W):∀k,k<=cs.length->(sm (lst W rs k) λq=>Q_ q.2 (cs.drop k))<=Q_ rs cs
 |0,_=>J3 _
 |k+1,h=>by
  refine Kl ?_ (xI a k (by omega));show sm ((lst W rs k).flatMap _) _<=_;rw[kS];refine jT (PM _) λq _=>?_;rw[mI,iD (k:=k) (by omega)];exact jT (a k q.2) λv _=>RN _ (rB v)
theorem EX(a:y1 cs W)(hs:rs.sum=cs.sum)(b:k<=cs.length):(lst W rs k).length<=mu rs:=by
 rw[<-i9 cs rs hs,<-qL];refine Kl (jT (PM _) λq c=>?_) (xI a k b);rw[i9 _ _ (rG a hs k b q c).2.1];exact rB _
theorem kO:∀{l:List Nat} {i x y:Nat},l[i]?=on x->(l.set i y).sum+x=l.sum+y
 |a::l,0,x,y,h=>by
  cases h;show(y::l).sum+a=(a::l).sum+y;rw[KY,KY];omega
 |a::l,i+1,x,y,h=>by
  have:=kO (l:=l) (i:=i) (x:=x) (y:=y) h;show(a::l.set i y).sum+x=(a::l).sum+y;rw[KY,KY];omega
end
end L2.Nt
namespace L2.Pu
theorem wK{os a:List D}(h:eY os=on d)(q:∀d,d∈os↔d∈a):eY a=on d:=by
 obtain⟨ks,s,rfl⟩:=ii h;exact qK ⟨s.1,s.2.1,λk b=>⟨(s.2.2.1 k b).1,(q _).mp (s.2.2.1 k b).2⟩,λd hd=>s.2.2.2 d ((q d).mpr hd)⟩
end L2.Pu
namespace Law
open PySem L2 L2.Pu
open L2.Hs (re m8 jq lW jh hX)
noncomputable def c_(i:Nat):LM:=PySem.Challenge.pw_edgetally_k21_papers_of_no_table.main.body.getD i (.Pass ⟨0,0,0,0⟩)
abbrev wV:LM:=c_ 11
abbrev jY:LM:=c_ 12
abbrev jZ:LM:=c_ 13
abbrev gN:LM:=c_ 14
abbrev lD:LM:=c_ 16
abbrev wS:LM:=c_ 17
abbrev mR:LM:=c_ 18
abbrev jX:LM:=c_ 21
abbrev gA:LM:=c_ 22
abbrev gB:LM:=c_ 23
abbrev iU:LM:=c_ 24
abbrev gO:LM:=c_ 25
abbrev jI:LM:=c_ 26
abbrev il:LM:=c_ 27
abbrev jW:LM:=c_ 28
abbrev lz:LM:=c_ 29
abbrev tj:LM:=c_ 31
abbrev qQ:LM:=c_ 32
abbrev qP:LM:=c_ 33
abbrev qS:LM:=c_ 34
abbrev mQ:LM:=c_ 35
abbrev s0:LM:=c_ 36
abbrev qR:LM:=c_ 37
abbrev lB:LM:=c_ 38
abbrev jJ:LM:=c_ 39
abbrev qO:LM:=c_ 40
abbrev lA:LM:=c_ 41
abbrev pf:LM:=c_ 42
abbrev ph:LM:=c_ 43
abbrev lC:LM:=c_ 44
abbrev qT:LM:=c_ 45
abbrev kT:LM:=c_ 46
abbrev qI:LM:=de (c_ 1) 0
set_option genSizeOf false in
set_option genInjectivity false in
structure Ad where
 Aa:JY
 Ab:JY
 Ac:KJ
 Ae:JY
 Af:KJ
 Ag:JY
 Ah:KJ
 Ai:JY
 Aj:KJ
 Ak:JY
 Al:KJ
 Am:JY
 An:KJ
 Ao:JY
 Aq:KJ
 Ar:JY
 As:KJ
 At:JY
 Au:KJ
 Av:JY
 Aw:KJ
 Ax:JY
 Ay:KJ
 Az:JY
 A0:KJ
 A1:JY
 A2:KJ
 A3:JY
 A4:KJ
 A5:JY
 A6:KJ
 A7:JY
 A8:KJ
 A9:JY
 Ba:KJ
 Bb:JY
 Bc:KJ
 Bd:JY
 Be:KJ
 Bf:JY
 Bh:KJ
 Bi:JY
 Bj:KJ
 Bk:JY
 Bl:KJ
 Bm:JY
 Bn:KJ
 Bo:JY
 Bp:KJ
 Bq:JY
 Br:KJ
 Bs:JY
 Bt:KJ
 Bu:JY
 Bv:KJ
 Bw:JY
 Bx:KJ
 By:JY
 Bz:KJ
 B0:JY
 B4:KJ
 B5:JY
 B7:KJ
 B8:JY
 Ca:KJ
 Cb:JY
 Cc:KJ
structure y_ (K:Kt) (mg:K2->Option J0) (a:Ad):Prop where
 Cd:mg "ValueError"=JT
 Cf:mg "abs"=JT
 Cg:mg "any"=JT
 Ch:mg "bool"=JT
 Ci:mg "enumerate"=JT
 Cj:mg "int"=JT
 Ck:mg "isinstance"=JT
 Cl:mg "len"=JT
 Cm:mg "list"=JT
 Cn:mg "max"=JT
 Co:mg "min"=JT
 Cp:mg "range"=JT
 Cq:mg "reversed"=JT
 Cr:mg "sorted"=JT
 Cs:mg "str"=JT
 Ct:mg "sum"=JT
 Cu:mg "tuple"=JT
 Cv:mg "zip"=JT
 Cw:ll K mg "MOST" (.int 40)
 Cy:ll K mg "MOST_COLUMNS" (.int 6)
 Cz:ll K mg "MOST_ROWS" (.int 4)
 C0:ll K mg "WIDE" (.int 500)
 C2:dv K "free" "free" wV a.Ae a.Af
 C3:mg "free"=on (.ref a.Ae)
 C4:v6 K a.Af ["rows","columns","pair"] [.tup [.int 0,.int 40]]
 C5:dv K "check_sums" "check_sums" jY a.Ag a.Ah
 C6:mg "check_sums"=on (.ref a.Ag)
 C7:aS K a.Ah ["rowsums","columnsums"] []
 C8:dv K "check_pair" "check_pair" jZ a.Ai a.Aj
 C9:mg "check_pair"=on (.ref a.Ai)
 Da:aS K a.Aj ["pair"] []
 Db:dv K "settled_bounds" "settled_bounds" gN a.Ak a.Al
 Dc:mg "settled_bounds"=on (.ref a.Ak)
 Dd:aS K a.Al ["bounds","rows","columns"] []
 Df:dv K "factorial" "factorial" lD a.Am a.An
 Dg:mg "factorial"=on (.ref a.Am)
 Dh:aS K a.An ["number"] []
 Di:dv K "ways" "ways" wS a.Ao a.Aq
 Dj:mg "ways"=on (.ref a.Ao)
 Dl:aS K a.Aq ["parts"] []
 Dm:dv K "fillings" "fillings" mR a.Ar a.As
 Do:mg "fillings"=on (.ref a.Ar)
 Dp:aS K a.As ["rests","many","pairs"] []
 Dq:dv K "check_wide" "check_wide" jX a.At a.Au
 Dr:mg "check_wide"=on (.ref a.At)
 Dt:aS K a.Au ["rowsums"] []
 Du:dv K "settled_for_net" "settled_for_net" gA a.Av a.Aw
 Dv:mg "settled_for_net"=on (.ref a.Av)
 Dw:aS K a.Aw ["rowsums","columnsums","bounds"] []
 Dx:dv K "column_fillings" "column_fillings" gB a.Ax a.Ay
 Dy:mg "column_fillings"=on (.ref a.Ax)
 Dz:aS K a.Ay ["rests","columnsums","bounds","column"] []
 D0:dv K "rests_behind" "rests_behind" iU a.Az a.A0
 D3:mg "rests_behind"=on (.ref a.Az)
 D4:aS K a.A0 ["rests","counts"] []
 D5:dv K "nodes_by_level" "nodes_by_level" gO a.A1 a.A2
 D6:mg "nodes_by_level"=on (.ref a.A1)
 D7:aS K a.A2 ["rowsums","columnsums","bounds"] []
 D8:dv K "node_counts" "node_counts" jI a.A3 a.A4
 D9:mg "node_counts"=on (.ref a.A3)
 Ea:aS K a.A4 ["rests","filled","behind"] []
 Eb:dv K "counted_nodes" "counted_nodes" il a.A5 a.A6
 Ec:mg "counted_nodes"=on (.ref a.A5)
 Ed:aS K a.A6 ["rowsums","columnsums","bounds"] []
 Ee:dv K "paper_rows" "paper_rows" jW a.A7 a.A8
 Ef:mg "paper_rows"=on (.ref a.A7)
 Eg:aS K a.A8 ["counted"] []
 Eh:dv K "net_holds" "net_holds" lz a.A9 a.Ba
 Ei:mg "net_holds"=on (.ref a.A9)
 Ej:y4 K a.Ba ["rowsums","columnsums","paper","bounds"] ["bounds"] 3 [.kw 0]
 Ek:dv K "_law_bag" "_law_bag" tj a.Bb a.Bc
 El:mg "_law_bag"=on (.ref a.Bb)
 Em:aS K a.Bc ["_law_script"] []
 En:dv K "_law_pull" "_law_pull" qQ a.Bd a.Be
 Eo:mg "_law_pull"=on (.ref a.Bd)
 Ep:aS K a.Be ["_law_bag_here","_law_lot"] []
 Er:dv K "_law_same" "_law_same" qP a.Bf a.Bh
 Es:mg "_law_same"=on (.ref a.Bf)
 Et:aS K a.Bh ["_law_found","_law_due"] []
 Eu:dv K "_law_free" "_law_free" qS a.Bi a.Bj
 Ev:mg "_law_free"=on (.ref a.Bi)
 Ew:aS K a.Bj ["_law_block","_law_columns"] []
 Ex:dv K "_law_copied" "_law_copied" mQ a.Bk a.Bl
 Ey:mg "_law_copied"=on (.ref a.Bk)
 Ez:aS K a.Bl ["_law_block"] []
 E2:dv K "_law_fit" "_law_fit" s0 a.Bm a.Bn
 E3:mg "_law_fit"=on (.ref a.Bm)
 E4:aS K a.Bn ["_law_rests","_law_lot","_law_pairs"] []
 E5:dv K "_law_less" "_law_less" qR a.Bo a.Bp
 E6:mg "_law_less"=on (.ref a.Bo)
 E7:aS K a.Bp ["_law_rests","_law_column"] []
 E8:dv K "_law_listing" "_law_listing" lB a.Bq a.Br
 E9:mg "_law_listing"=on (.ref a.Bq)
 Fa:aS K a.Br ["_law_rowsums","_law_columnsums","_law_limits"] []
 Fb:dv K "_law_factorial" "_law_factorial" jJ a.Bs a.Bt
 Fc:mg "_law_factorial"=on (.ref a.Bs)
 Fd:aS K a.Bt ["_law_lot"] []
 Fe:dv K "_law_ways" "_law_ways" qO a.Bu a.Bv
 Ff:mg "_law_ways"=on (.ref a.Bu)
 Fg:aS K a.Bv ["_law_parts"] []
 Fh:dv K "_law_scatter" "_law_scatter" lA a.Bw a.Bx
 Fi:mg "_law_scatter"=on (.ref a.Bw)
 Fj:aS K a.Bx ["_law_bag_here","_law_places","_law_things"] []
 Fk:dv K "_law_tight" "_law_tight" pf a.By a.Bz
 Fl:mg "_law_tight"=on (.ref a.By)
 Fm:aS K a.Bz ["_law_bag_here","_law_block","_law_columns"] []
 Fn:dv K "_law_nodes" "_law_nodes" ph a.B0 a.B4
 Fo:mg "_law_nodes"=on (.ref a.B0)
 Fp:aS K a.B4 ["_law_rowsums","_law_columnsums","_law_limits"] []
 Fq:dv K "_law_counted" "_law_counted" lC a.B5 a.B7
 Fs:mg "_law_counted"=on (.ref a.B5)
 Ft:aS K a.B7 ["_law_rowsums","_law_columnsums","_law_limits"] []
 Fu:dv K "_law_bent" "_law_bent" qT a.B8 a.Ca
 Fv:mg "_law_bent"=on (.ref a.B8)
 Fw:aS K a.Ca ["_law_bag_here","_law_block","_law_where"] []
 Fy:dv K "__init__" "EdgeError.__init__" qI a.Ab a.Ac
 Fz:aS K a.Ac ["self","word","why"] []
 F4:mg "EdgeError"=on (.ref a.Aa)
 F5:Uh K a.Aa "__init__" a.Ab
section
variable(P:KF)(w:K1){K:Kt}{mg:K2->Option J0}(base:Lj){a:Ad}
theorem ik:cx ["_law_bag_here","_law_lot","_law_cells","_law_at","_law_cell"] ["_law_bag_here","_law_lot"] (ah qQ):=i_
theorem xv(N:y_ K mg a):f0 P w K mg base (iv P w) 2 a.Bd a.Be ["_law_bag_here","_law_lot"] (F0 K 2 iz):=by
 refine N.En.ok (k:=1) ik (λvs H Q E h=>h.1) (λY A outer s H vs Q E hr h=>?_);obtain⟨_,F,ds,β,fr,hd,r,Z,e,k⟩:=h;obtain⟨lot,rfl,ok,I,h1,rfl,rfl⟩:=xF e;obtain⟨v,w',rfl,d1,d2⟩:=aj.two hd;unfold bt at d1;obtain⟨b,l,d,rfl⟩:=d1;cases d2.int;obtain⟨t,J⟩:=fr.bag b l d;obtain⟨ab,al,m⟩:=fr.bgA b l d;obtain⟨W,L,hc0,X⟩:=ok.at;obtain⟨_,_,hcp,_⟩:=tw ok I;have len:((β.cells.map V.int).length:Int)=(β.cells.length:Int):=by rw[JS]
 have O:lp (β.cells.map V.int) (β.pos:Int)=on (.int β.cell):=F6 (by rw[J9,L];rfl);refine⟨_,dm (mY (i:=2) ik.nd rfl (Mn rfl) (cN bD (pv 0) bL (λ_ _=>rfl)))
  (dm (mY (i:=3) ik.nd rfl (Mn rfl) (c8 j7 (cN bD (pv 0) bL (λ_ _=>rfl)) (jo kC (by rfl) N.Cl PySem.boot_len (dC (pv 2) ge))))
  (dm (mY (i:=4) ik.nd rfl (Mn rfl) (cN bD (pv 2) (pv 3) (λ_ _=>rfl)))
  (dm (CI (tz Jf (pv 4) (c8 G6 bL bL) (rn _))
   (dm (bR (c8 tL (pv 4) (pv 1)) (cq (pv 2) (pv 3) bP)) (kU (aK (c8 j7 (pv 4) (pv 1))))) tB)
  (dm (bR (c8 m3 (cN bD (pv 0) bL (λ_ _=>rfl)) bL) (cq (pv 0) bL bP))
  (dm (bR (c8 j7 (c8 G8 (c8 m3 (c8 m3 (cN bD (pv 0) bL (λ_ _=>rfl)) (c8 j7 (pv 4) bL)) bL) bL) bL) (cq (pv 0) bL bP))
  (kU (aK (c8 j7 (c8 tL (cN bD (pv 0) bL (λ_ _=>rfl)) bL) (pv 1))))))))),?_⟩
 refine⟨_,rfl,b,_,_,_,rfl,rfl,e_.of t,rfl,?_⟩;refine⟨_,rfl,b,_,_,_,rfl,rfl,e_.of t,rfl,_,rfl,l,_,rfl,.inl (e_.of J),_,_,rfl,rfl,?_,?_⟩
 .have:=W
  rw[len];omega
 refine⟨_,rfl,_,rfl,l,_,_,_,rfl,rfl,e_.of J,by rw[len,X];exact O,?_⟩;refine⟨_,rfl,_,_,rfl,rfl,⟨by decide,by decide,by decide⟩,_,_,rfl,rfl,_,rfl,?_⟩;have occ:∀{R:Hp} {p:JY} {o:HO},(∀c,F.A c->R c≠JT)->∀c,F.A c->upd R p o c≠JT:=λ{R p o} f c u z=>by
  by_cases q:c=p
  .subst q;rw[af]at z;cases z
  .rw[a_ q]at z;exact f c u z
 refine Vm (λg=>?_) (λg=>?_)
 .have R_:(10:Int)^18<=β.cell:=Mp g
  refine⟨_,rfl,_,rfl,_,_,rfl,rfl,⟨I,h1⟩,_,rfl,_,rfl,l,_,_,β.pos,rfl,rfl,J,?_,?_⟩
  .rw[len,X,JS]
   exact FI W
  refine⟨_,rfl,_,rfl,_,_,rfl,rfl,I,?_⟩;have T:ir β lot=β.cell % lot:=J8 R_;have U:jl β lot=⟨β.cells.set β.pos (β.cell/lot),β.i,β.j⟩:=J8 R_;rw[T,U]at k;refine k _ _ ⟨λc o u n=>by rw[a_ (n b l d).2];exact u,occ fr.occ,fr.bgA,λb' l' y=>?_⟩ rfl;rw[d]at y;cases y;exact⟨by rw[a_ m];exact t,by rw[af,N1]⟩
 .have R_:¬(10:Int)^18<=β.cell:=λq=>g (Km q)
  refine⟨_,rfl,b,_,_,_,rfl,rfl,e_.of t,rfl,_,_,rfl,rfl,_,rfl,b,_,_,1,rfl,rfl,t,rfl,?_⟩;have B:(upd H b (.lst [.ref l,.int (β.i+1),.int β.j])) b=on (.lst [.ref l,.int (β.i+1),.int β.j]):=af;refine⟨_,rfl,b,_,_,_,rfl,rfl,e_.of B,rfl,_,rfl,_,_,rfl,rfl,(by show(0:Int)<2147483629;decide),_,_,rfl,rfl,_,_,rfl,rfl,_,_,rfl,rfl,.inr ⟨by decide,by decide⟩,_,_,rfl,rfl,(by show(0:Int)<2147483629;decide),_,rfl,b,_,_,2,rfl,rfl,B,rfl,?_⟩;have C:(upd (upd H b (.lst [.ref l,.int (β.i+1),.int β.j])) b (.lst [.ref l,.int (β.i+1),.int β.nxt])) b=on (.lst [.ref l,.int (β.i+1),.int β.nxt]):=af;refine⟨_,rfl,b,_,_,_,rfl,rfl,e_.of C,rfl,_,_,rfl,rfl,⟨by decide,by decide⟩,_,rfl,_,_,rfl,rfl,I,?_⟩;have T:ir β lot=β.nxt/64 % lot:=J6 R_;have U:jl β lot=⟨β.cells,β.i+1,β.nxt⟩:=J6 R_;rw[T,U]at k;refine k _ _ ⟨λc o u n=>by rw[a_ (n b l d).1,a_ (n b l d).1];exact u,occ (occ fr.occ),fr.bgA,λb' l' y=>?_⟩ rfl;rw[d]at y;cases y;exact⟨C,by rw[a_ m.symm,a_ m.symm];exact J⟩
theorem yV:cx ["_law_script"] ["_law_script"] (ah tj):=i_
theorem nd1:(["_law_cell"]:List K2).Nodup:=by decide +kernel
theorem ze(N:y_ K mg a):f0 P w K mg base (iv P w) 1 a.Bb a.Bc ["_law_script"] (IW K):=by
 refine N.Ek.ok yV (λvs H Q E h=>?_) (λX A outer s H vs Q E hr h=>?_)
 .obtain⟨a,ns,rfl,_⟩:=h
  rfl
 .obtain⟨a,ns,rfl,Y,k⟩:=h
  refine⟨_,kU (aK (fq (dC (c8 Ha (kW rfl (cy:=["_law_cell"]) (c4.plain rfl (by decide +kernel) (by decide +kernel)) (EJ (lV sY (pv 0) tH (tF bL)))
   (λcl C fp s H=>⟨tJ (i:=0) nd1 rfl (Mn rfl),rc,λD=>aP rfl (jo zS (by rfl) N.Cf PyProof.Rows.Boot.«abs» (dC (pv 0) ge)) rfl⟩)) (fq (dC bL ge))) (dC bL (dC bL ge))))),?_⟩
  obtain⟨q,I,Z⟩:=JM ns;refine⟨_,rfl,63,rfl,a,_,rfl,Y,λp hp=>?_⟩;rw[I];have L:bH H (upd H p (.lst (q.map V.int))):=bH.upd hp;refine⟨p,rfl,⟨_,e_.of af⟩,λD B=>?_⟩;have r:D≠p:=λz=>by subst z;rw[af]at B;cases B
  refine vV (xs:=q.map V.int) (λi F g=>∃cs:List Int,(∃v,F=[v])/\cs.length=i/\(∀c∈cs,0<=c)/\g D=on (.lst (cs.map V.int))/\g p=on (.lst (q.map V.int))/\bH H g) ⟨[],⟨_,rfl⟩,rfl,(λ_ h=>nomatch h),af,by rw[a_ r.symm,af],L.trans (bH.upd B)⟩
   (λi F g _ ⟨_,_,_,_,_,e,_⟩=>e_.of e) ?_ ?_
  .rintro i x F g n ⟨cs,⟨v,rfl⟩,l,m,d,t,u⟩
   have hil:i<q.length:=by have:=(Kc.mp n).1;rwa[JS]at this
   obtain⟨z,rfl⟩:∃z,x=V.int z:=by
    rw[J9]at n;cases e:q[i]? with
    |none=>rw[e]at n;cases n
    |some z=>rw[e]at n;exact⟨z,(KE n).symm⟩
   unfold c9 Gk;refine Vl ?_;refine⟨_,rfl,_,rfl,cs.map V.int,d,by rw[JS];exact o9 (by omega),cs++[if z<0 then -z else z],⟨_,rfl⟩,by rw[Kg,l];rfl,λc hc=>?_,by rw[af,KC];rfl,by rw[a_ r.symm];exact t,λb o e=>?_⟩
   .rcases Ll.mp hc with hc|hc
    .exact m c hc
    .obtain rfl:c=_:=by simpa using hc
     split<;>omega
   .rw[a_ (aC e (L.free B))]
    exact u b o e
  .rintro F g ⟨cs,⟨v,rfl⟩,l,m,d,t,u⟩
   rw[JS]at l;refine⟨by decide,λO j=>⟨D,O,_,_,rfl,rfl,by rw[a_ (aC d j)];exact d,af,by rw[JS];exact N4 (o9 (by simp;omega)),λR y=>⟨(by show 3<=Ki;decide),λT f=>?_⟩⟩⟩;have U:bH g (upd g O (.lst [V.int 1])):=bH.upd j;have W:=U.trans (bH.upd (o:= .lst (cs.map V.int++[V.int 1])) y);have J:R≠T:=λz=>by subst z;rw[af]at f;cases f
   refine k T R _ ((u.trans W).free f) ((u.trans U).free y) ⟨cs++[1],0,0,af,by rw[a_ J,af,KC];rfl,by simp,by rw[Kg];simp;omega,λc hc=>?_,by decide⟩ ((u.trans W).trans (bH.upd f));rcases Ll.mp hc with hc|hc
   .exact m c hc
   .obtain rfl:c=1:=by simpa using hc
    decide
theorem iB(N:y_ K mg a):FB P w K mg base 2 "_law_pull" a.Bd a.Be ["_law_bag_here","_law_lot"] 2 iz:=⟨xv P w base N,N.Eo,N.En.kp,N.Ep⟩
abbrev QF(K:Kt)(a:Ad)(k:Nat)(x:K2)(f:JY)(d:KJ)(ps:List K2)(n:Nat):={m:List D->M D//∀(P:KF) (w:K1) {mg:K2->Option J0} (base:Lj) (N:y_ K mg a),FB P w K mg base k x f d ps n m}
abbrev QM(K:Kt)(a:Ad)(k:Nat)(f:JY)(d:KJ)(ps:List K2)(n:Nat):={m:List D->M D//∀(P:KF) (w:K1) {mg:K2->Option J0} (base:Lj) (N:y_ K mg a),f0 P w K mg base (iv P w) k f d ps (F0 K n m)}
theorem DY:cx ["rows","columns","pair"] ["rows","columns","pair"] (ah wV):=i_
def GQ(K:Kt)(a:Ad):QM K a 2 a.Ae a.Af ["rows","columns","pair"] 3:=⟨_,λP w mg base N=>by
 exact bW (k:=1) 3 3 _ N.C2 DY rfl rfl λb A outer s H E d=>ag (aX (aK (bA rfl (jm ["row","pair","columns"] ["row"] [2,1]) (dy (by rfl) N.Cp (dr (vv 0))) (λcl C c s H=>⟨(dt 0 gs),aR,λD=>aP rfl (bA rfl (jm ["column","pair"] ["column"] [1]) (dy (by rfl) N.Cp (dr (vv 2))) (λcl C c s H=>⟨(dt 0 gs),aR,λD=>aP rfl (vv 1) rfl⟩) ao au (λD=>aY)) rfl⟩) ao au (λD=>aY))))⟩
theorem pT:cx ["rowsums","columnsums"] ["rowsums","columnsums"] (ah jY):=i_
def gU(K:Kt)(a:Ad):QF K a 2 "check_sums" a.Ag a.Ah ["rowsums","columnsums"] 2:=⟨_,λP w mg base N=>⟨by
 exact bW (k:=1) 2 2 _ N.C5 pT rfl rfl λb A outer s H E c=>aa (bM (uO (sT ju ju l7 l7 (ac) (dG N.Cl (dr (vv 0))) (jM N.Cz))) (ag (dT)) (bq))
   (aa (bM (uO (sT ju ju l7 l7 (ac) (dG N.Cl (dr (vv 1))) (jM N.Cy))) (ag (dT)) (bq))
   (aa (bM (iR (uF (pW (bZ (kD rfl) vt (by rfl) N.Cg PyProof.Rows.Boot.«any» (dr (bA rfl (jm ["many"] ["many"] []) (aU (vv 0)) (λcl C d s H=>⟨(dt 0 gs),aR,λD=>aP rfl (ie p9 vn (vv 0) (ac)) rfl⟩) ao au (λD=>aY))))) (pV (pW (bZ (kD rfl) vt (by rfl) N.Cg PyProof.Rows.Boot.«any» (dr (bA rfl (jm ["many"] ["many"] []) (aU (vv 1)) (λcl C d s H=>⟨(dt 0 gs),aR,λD=>aP rfl (ie p9 vn (vv 0) (ac)) rfl⟩) ao au (λD=>aY)))))))) (ag (dT)) (bq))
   (aa (bM (bh (ft c) gD (lI N.Ct (dr (vv 0))) (lI N.Ct (dr (vv 1)))) (ag (dT)) (bq))
   (ag (bM (bh qa vp (lI N.Ct (dr (vv 0))) (jM N.Cw)) (ag (dT)) (bq)))))),N.C6,N.C5.kp,N.C7⟩⟩
theorem gr:cx ["pair","low","high"] ["pair"] (ah jZ):=i_
def gW(K:Kt)(a:Ad):QF K a 2 "check_pair" a.Ai a.Aj ["pair"] 1:=⟨_,λP w mg base N=>⟨by
 exact bW (k:=1) 1 3 _ N.C8 gr rfl rfl λb A outer s H E c=>aa (CB (iZ (cB aD (cB aD gF)) (cA (cA fQ))) (bR (vv 0) (bK rfl (aw (dt 1 gr.nd) (aw (dt 2 gr.nd) bu)))))
   (ag (bM (uO (yM ju ju ju l7 l7 l7 (ac) (vv 1) (vv 2) (jM N.Cw))) (ag (dT)) (bq))),N.C9,N.C8.kp,N.Da⟩⟩
theorem d8:cx ["bounds","rows","columns","pairs","pair"] ["bounds","rows","columns"] (ah gN):=i_
def eK(K:Kt)(a:Ad):QF K a 3 "settled_bounds" a.Ak a.Al ["bounds","rows","columns"] 3:=⟨_,λP w mg base N=>⟨by
 have c:=(GQ K a).2 P w base N;have b:=(gW K a).2 P w base N
 exact bW (k:=2) 3 5 _ N.Db d8 rfl rfl λf A outer s H E d=>aa (bM (bh rh vo (vv 0) (uK)) (ag (aX (aK (DL c (d.mono (by decide)) (by rfl) N.C3 N.C2.kp N.C4 mZ (eg (vv 1) (vv 2)) (λδ β r e h=>by rw[(bx (bx L3)) δ β r e h];rfl))))) (bq))
   (aa (bM (iR (uF (bh (ft d) gD (dG N.Cl (dr (vv 0))) (vv 1)) (pV (pW (bZ (kD rfl) vt (by rfl) N.Cg PyProof.Rows.Boot.«any» (dr (bA rfl (jm ["pairs","columns"] ["pairs"] [2]) (aU (vv 0)) (λcl C g s H=>⟨(dt 0 gs),aR,λD=>aP rfl (ie (ft d) gD (dG N.Cl (dr (vv 0))) (vv 1)) rfl⟩) ao au (λD=>aY)))))))) (ag (dT)) (bq))
   (aa (bz aD (aZ bV rfl (aU (vv 0)) (dt 3 d8.nd) (ag (bz aD (aZ bV rfl (aU (vv 3)) (dt 4 d8.nd) (ag (qV (dB (vc b d (dr (vv 4)))))))))))
   (ag (aX (aK (bA rfl (jm ["pairs"] ["pairs"] []) (aU (vv 0)) (λcl C g s H=>⟨(dt 0 gs),aR,λD=>aP rfl (bG bF fG (by rfl) N.Cm PyProof.Rows.Boot.«list» (dr (vv 0))) rfl⟩) ao au (λD=>aY))))))),N.Dc,N.Db.kp,N.Dd⟩⟩
theorem fi:cx ["number","product","factor"] ["number"] (ah lD):=i_
def iJ(K:Kt)(a:Ad):QF K a 2 "factorial" a.Am a.An ["number"] 1:=⟨_,λP w mg base N=>⟨by
 exact bW (k:=1) 1 3 _ N.Df fi rfl rfl λb A outer s H E c=>aa (aO (fx 1 fi.nd (ac)))
   (aa (bz aD (aZ bV rfl (jz (by rfl) N.Cp (eg (ac) (aE aA bp (vv 0) (ac)))) (dt 2 fi.nd) (ag (mS tW (j5 (i:=1) fi.nd rfl (by first|exact Mn rfl|exact NG rfl) (vv 2) tZ)))))
   (ag (aX (aK (vv 1))))),N.Dg,N.Df.kp,N.Dh⟩⟩
theorem iT:cx ["parts","part","told"] ["parts"] (ah wS):=i_
def q8(K:Kt)(a:Ad):QF K a 3 "ways" a.Ao a.Aq ["parts"] 1:=⟨_,λP w mg base N=>⟨by
 have b:=(iJ K a).2 P w base N
 exact bW (k:=2) 1 3 _ N.Di iT rfl rfl λd A outer s H E c=>aa (bz aD (aZ bV rfl (aU (vv 0)) (dt 1 iT.nd) (ag (bM (bh p9 vn (vv 1) (ac)) (ag (dT)) (bq)))))
   (aa (aO (fx 2 iT.nd (vc b c (dr (bZ (yn rfl) Hl (by rfl) N.Ct PyProof.Rows.Boot.«sum» (dr (vv 0)))))))
   (aa (bz aD (aZ bV rfl (aU (vv 0)) (dt 1 iT.nd) (ag (mS zA (j5 (i:=2) iT.nd rfl (by first|exact Mn rfl|exact NG rfl) (vc b c (dr (vv 1))) FK)))))
   (ag (aX (aK (vv 2)))))),N.Dj,N.Di.kp,N.Dl⟩⟩
theorem cJ:cx ["rests","many","pairs","lows","tops","begun","row","fewest_behind","most_behind"] ["rests","many","pairs"] (ah mR):=i_
def jk(K:Kt)(a:Ad):QF K a 2 "fillings" a.Ar a.As ["rests","many","pairs"] 3:=⟨_,λP w mg base N=>⟨by
 exact bW (k:=1) 3 9 _ N.Dm cJ rfl rfl λc A outer s H E d=>aa (aO (fx 3 cJ.nd (bA rfl (jm ["low","high"] ["low","high"] []) (aU (vv 2)) (λcl C b s H=>⟨(bK rfl (aw (dt 0 gs) (aw (dt 1 gs) bu))),aR,λD=>aP rfl (vv 0) rfl⟩) (cX (aN ao (aN ao cw)) (aL (aL bN))) (cW (aM au (aM au cu))) (λD=>aY))))
   (aa (aO (fx 4 cJ.nd (bA rfl (jm ["rest","low","high"] ["rest","low","high"] []) (np (by rfl) N.Cv (eg (vv 0) (vv 2))) (λcl C b s H=>⟨(bK rfl (aw (dt 0 gs) (aw (bK rfl (aw (dt 1 gs) (aw (dt 2 gs) bu))) bu))),aR,λD=>aP rfl (bZ (kB rfl) vm (by rfl) N.Co PyProof.Rows.Boot.«min» (eg (vv 0) (vv 2))) rfl⟩) (cX (aN ao (aN (cX (aN ao (aN ao cw)) (aL (aL bN))) cw)) (aL (aL bN))) (cW (aM au (aM (cW (aM au (aM au cu))) cu))) (λD=>aY))))
   (aa (aO (fx 5 cJ.nd (eW (dr (ck (eg (ck (iQ)) (vv 1)))))))
   (aa (bz aD (aZ bV rfl (dy (by rfl) N.Cp (dr (dG N.Cl (dr (vv 0))))) (dt 6 cJ.nd) (aa (aO (fx 7 cJ.nd (lI N.Ct (dr (eP (vv 3) (eC (aE aA bp (vv 6) (ac))) (eD))))))
   (aa (aO (fx 8 cJ.nd (lI N.Ct (dr (eP (vv 4) (eC (aE aA bp (vv 6) (ac))) (eD))))))
   (ag (GB (i:=5) cJ.nd rfl (by first|exact Mn rfl|exact NG rfl) rfl (jm ["counts","left","count","lows","row","most_behind","tops","fewest_behind"] ["counts","left","count"] [3,6,8,4,7]) (aU (vv 5)) (λcl C b s H=>⟨(bK rfl (aw (dt 0 gs) (aw (dt 1 gs) bu))),aR,λD=>ow rfl rfl rfl (jz (by rfl) N.Cp (eg (bZ (yp rfl) Jv (by rfl) N.Cn PyProof.Rows.Boot.«max» (eg (bc az bi (vv 3) (vv 4)) (aE dL fF (vv 1) (vv 5)))) (aE aA bp (bZ (kB rfl) vm (by rfl) N.Co PyProof.Rows.Boot.«min» (eg (bc az bi (vv 6) (vv 4)) (aE dL fF (vv 1) (vv 7)))) (ac)))) (dt 2 gs) (aR) (aP rfl (ck (eg (aE aA bp (vv 0) (ck (dr (vv 2)))) (aE dL fF (vv 1) (vv 2)))) rfl)⟩) (cX (aN ao (aN ao cw)) (aL (aL bN))) (cW (aM au (aM au cu))) (λD=>FF ao au (aY))))))))
   (ag (aX (aK (bA rfl (jm ["counts","left"] ["counts","left"] []) (aU (vv 5)) (λcl C b s H=>⟨(bK rfl (aw (dt 0 gs) (aw (dt 1 gs) bu))),CV (bh (cr d) cY (vv 1) (ac)),λD=>aP rfl (vv 0) rfl⟩) (cX (aN ao (aN ao cw)) (aL (aL bN))) (cW (aM au (aM au cu))) (λD=>aY)))))))),N.Do,N.Dm.kp,N.Dp⟩⟩
theorem eJ:cx ["rowsums","wide","many"] ["rowsums"] (ah jX):=i_
def gT(K:Kt)(a:Ad):QF K a 2 "check_wide" a.At a.Au ["rowsums"] 1:=⟨_,λP w mg base N=>⟨by
 exact bW (k:=1) 1 3 _ N.Dq eJ rfl rfl λb A outer s H E c=>aa (aO (fx 1 eJ.nd (ac)))
   (aa (bz aD (aZ bV rfl (aU (vv 0)) (dt 2 eJ.nd) (ag (mS tW (j5 (i:=1) eJ.nd rfl (by first|exact Mn rfl|exact NG rfl) (aE aA bp (vv 2) (ac)) tZ)))))
   (ag (bM (bh qa vp (vv 1) (jM N.C0)) (ag (dT)) (bq)))),N.Dr,N.Dq.kp,N.Dt⟩⟩
theorem gc:cx ["rowsums","columnsums","bounds","settled"] ["rowsums","columnsums","bounds"] (ah gA):=i_
def d9(K:Kt)(a:Ad):QF K a 4 "settled_for_net" a.Av a.Aw ["rowsums","columnsums","bounds"] 3:=⟨_,λP w mg base N=>⟨by
 have c:=(gU K a).2 P w base N;have b:=(eK K a).2 P w base N;have d:=(gT K a).2 P w base N
 exact bW (k:=3) 3 4 _ N.Du gc rfl rfl λf A outer s H E e=>aa (qV (dB (vc c e (eg (vv 0) (vv 1)))))
   (aa (aO (fx 3 gc.nd (vc b e (ot (vv 2) (dG N.Cl (dr (vv 0))) (dG N.Cl (dr (vv 1)))))))
   (aa (qV (dB (vc d e (dr (vv 0)))))
   (ag (aX (aK (vv 3)))))),N.Dv,N.Du.kp,N.Dw⟩⟩
theorem jV:cx ["rests","columnsums","bounds","column"] ["rests","columnsums","bounds","column"] (ah gB):=i_
def cE(K:Kt)(a:Ad):QF K a 3 "column_fillings" a.Ax a.Ay ["rests","columnsums","bounds","column"] 4:=⟨_,λP w mg base N=>⟨by
 have b:=(jk K a).2 P w base N;exact bW (k:=2) 4 4 _ N.Dx jV rfl rfl λc A outer s H E d=>ag (aX (aK (vc b d (ot (vv 0) (bc az bi (vv 1) (vv 3)) (bA rfl (jm ["pairs","column"] ["pairs"] [3]) (aU (vv 2)) (λcl C e s H=>⟨(dt 0 gs),aR,λD=>aP rfl (bc az bi (vv 0) (vv 1)) rfl⟩) ao au (λD=>aY)))))),N.Dy,N.Dx.kp,N.Dz⟩⟩
theorem mM:cx ["rests","counts"] ["rests","counts"] (ah iU):=i_
def dU(K:Kt)(a:Ad):QF K a 2 "rests_behind" a.Az a.A0 ["rests","counts"] 2:=⟨_,λP w mg base N=>⟨by
 exact bW (k:=1) 2 2 _ N.D0 mM rfl rfl λb A outer s H E c=>ag (aX (aK (bG cV gG (by rfl) N.Cu PyProof.Rows.Boot.«tuple» (dr (bA rfl (jm ["rest","count"] ["rest","count"] []) (np (by rfl) N.Cv (eg (vv 0) (vv 1))) (λcl C d s H=>⟨(bK rfl (aw (dt 0 gs) (aw (dt 1 gs) bu))),aR,λD=>aP rfl (aE dL fF (vv 0) (vv 1)) rfl⟩) (cX (aN ao (aN ao cw)) (aL (aL bN))) (cW (aM au (aM au cu))) (λD=>aY)))))),N.D3,N.D0.kp,N.D4⟩⟩
theorem bT:cx ["rowsums","columnsums","bounds","here","told","column","behind"] ["rowsums","columnsums","bounds"] (ah gO):=i_
def eL(K:Kt)(a:Ad):QF K a 4 "nodes_by_level" a.A1 a.A2 ["rowsums","columnsums","bounds"] 3:=⟨_,λP w mg base N=>⟨by
 have c:=(dU K a).2 P w base N;have b:=(cE K a).2 P w base N
 exact bW (k:=3) 3 7 _ N.D5 bT rfl rfl λe A outer s H E d=>aa (aO (fx 3 bT.nd (eW (dr (bG cV gG (by rfl) N.Cu PyProof.Rows.Boot.«tuple» (dr (vv 0)))))))
   (aa (mP (fx 4 bT.nd (fq (dr (vv 3)))))
   (aa (bz aD (aZ bV rfl (dy (by rfl) N.Cp (dr (dG N.Cl (dr (vv 1))))) (dt 5 bT.nd) (aa (aO (fx 6 bT.nd (yH (by rfl) N.Cr rfl (jm ["rests","counts","columnsums","bounds","column"] ["rests","counts"] [1,2,5]) (aU (vv 3)) (λcl C f s H=>⟨(dt 0 gs),aR,λD=>ow rfl rfl rfl (aU (vc b d (UN (vv 0) (vv 2) (vv 3) (vv 4)))) (dt 1 gs) (aR) (re (qf d) rfl (vc c d (eg (vv 0) (vv 1))) rfl)⟩) ao au (λD=>l5 ao au (zw)))))
   (aa (mT (dB (jp L6 Mh Mi eU (pv 4) (dr (vv 6)))))
   (ag (aO (fx 3 bT.nd (vv 6))))))))
   (ag (aX (aK (vv 4)))))),N.D6,N.D5.kp,N.D7⟩⟩
theorem bJ:cx ["rests","filled","behind","tables","dealings","counts","tables_behind","dealings_behind"] ["rests","filled","behind"] (ah jI):=i_
def gv(K:Kt)(a:Ad):QF K a 4 "node_counts" a.A3 a.A4 ["rests","filled","behind"] 3:=⟨_,λP w mg base N=>⟨by
 have b:=(dU K a).2 P w base N;have c:=(q8 K a).2 P w base N
 exact bW (k:=3) 3 8 _ N.D8 bJ rfl rfl λe A outer s H E d=>aa (aO (fx 3 bJ.nd (ac)))
   (aa (aO (fx 4 bJ.nd (ac)))
   (aa (bz aD (aZ bV rfl (aU (vv 1)) (dt 5 bJ.nd) (aa (CB (iZ (cB aD (cB aD gF)) (cA (cA fQ))) (bR (bc (m8 (TU d)) vq (vv 2) (vc b d (eg (vv 0) (vv 5)))) (bK rfl (aw (dt 6 bJ.nd) (aw (dt 7 bJ.nd) bu)))))
   (aa (mS tX (j5 (i:=3) bJ.nd rfl (by first|exact Mn rfl|exact NG rfl) (vv 6) x5))
   (ag (mS tX (j5 (i:=4) bJ.nd rfl (by first|exact Mn rfl|exact NG rfl) (aE eS iA (vc c d (dr (vv 5))) (vv 7)) x5)))))))
   (ag (aX (aK (ck (eg (vv 3) (vv 4)))))))),N.D9,N.D8.kp,N.Ea⟩⟩
theorem bw:cx ["rowsums","columnsums","bounds","levels","last","here","told","level","behind"] ["rowsums","columnsums","bounds"] (ah il):=i_
def fm(K:Kt)(a:Ad):QF K a 5 "counted_nodes" a.A5 a.A6 ["rowsums","columnsums","bounds"] 3:=⟨_,λP w mg base N=>⟨by
 have d:=(eL K a).2 P w base N;have c:=(cE K a).2 P w base N;have e:=(gv K a).2 P w base N
 exact bW (k:=4) 3 9 _ N.Eb bw rfl rfl λh A outer s H E f=>aa (aO (fx 3 bw.nd (vc d f (ot (vv 0) (vv 1) (vv 2)))))
   (aa (aO (fx 4 bw.nd (dG N.Cl (dr (vv 1)))))
   (aa (wU (kb:=JZ) (i:=5) bw.nd rfl (by first|exact Mn rfl|exact NG rfl) rfl (jm ["rests"] ["rests"] []) (aU (bc az bi (vv 3) (vv 4))) (λcl C g s H=>⟨(dt 0 gs),aR,λD=>jq (b:=JZ) (qf f) rfl (vv 0) (ck (eg (ac) (ac))) rfl⟩) ao au (λD=>l6))
   (aa (mP (fx 6 bw.nd (fq (dr (vv 5)))))
   (aa (bz aD (aZ bV rfl (zG (by rfl) N.Cq (by rfl) N.Cp (dr (vv 4))) (dt 7 bw.nd) (aa (aO (fx 8 bw.nd (vv 5)))
   (aa (wU (kb:=JZ) (i:=5) bw.nd rfl (by first|exact Mn rfl|exact NG rfl) rfl (jm ["rests","columnsums","bounds","level","behind"] ["rests"] [1,2,7,8]) (aU (bc az bi (vv 3) (vv 7))) (λcl C g s H=>⟨(dt 0 gs),aR,λD=>jq (b:=JZ) (qf f) rfl (vv 0) (vc e f (ot (vv 0) (vc c f (UN (vv 0) (vv 1) (vv 2) (vv 3))) (vv 4))) rfl⟩) ao au (λD=>l6))
   (ag (mT (dB (jp L6 Mh Mi eU (pv 6) (dr (vv 5))))))))))
   (ag (aX (aK (DK (kb:=JW) rfl (jm ["level","nodes","rests","counts"] ["level","nodes","rests","counts"] []) (rW (by rfl) N.Ci (dr (IM (vv 6) (uJ mz qd (ac))))) (λcl C g s H=>⟨(bK rfl (aw (dt 0 gs) (aw (dt 1 gs) bu))),aR,λD=>ow rfl rfl rfl (ua (vv 1)) (bK rfl (aw (dt 2 gs) (aw (dt 3 gs) bu))) (aR) (jq (b:=JW) (qf f) rfl (ck (eg (vv 0) (vv 2))) (vv 3) rfl)⟩) (cX (aN ao (aN ao cw)) (aL (aL bN))) (cW (aM au (aM au cu))) (λD=>l5 (cX (aN ao (aN ao cw)) (aL (aL bN))) (cW (aM au (aM au cu))) (l6)))))))))),N.Ec,N.Eb.kp,N.Ed⟩⟩
theorem pS:cx ["counted"] ["counted"] (ah jW):=i_
def gQ(K:Kt)(a:Ad):QF K a 2 "paper_rows" a.A7 a.A8 ["counted"] 1:=⟨_,λP w mg base N=>⟨by
 exact bW (k:=1) 1 1 _ N.Ee pS rfl rfl λb A outer s H E c=>ag (aX (aK (bA rfl (jm ["level","rests","tables","dealings"] ["level","rests","tables","dealings"] []) (ua (vv 0)) (λcl C d s H=>⟨(bK rfl (aw (bK rfl (aw (dt 0 gs) (aw (dt 1 gs) bu))) (aw (bK rfl (aw (dt 2 gs) (aw (dt 3 gs) bu))) bu))),aR,λD=>aP rfl (ck (UN (vv 0) (vv 1) (vv 2) (vv 3))) rfl⟩) (cX (aN (cX (aN ao (aN ao cw)) (aL (aL bN))) (aN (cX (aN ao (aN ao cw)) (aL (aL bN))) cw)) (aL (aL bN))) (cW (aM (cW (aM au (aM au cu))) (aM (cW (aM au (aM au cu))) cu))) (λD=>aY)))),N.Ef,N.Ee.kp,N.Eg⟩⟩
theorem jU:cx ["rowsums","columnsums","paper","bounds","settled"] ["rowsums","columnsums","paper","bounds"] (ah lz):=i_
def iG(K:Kt)(a:Ad):QM K a 6 a.A9 a.Ba ["rowsums","columnsums","paper","bounds"] 4:=⟨_,λP w mg base N=>by
 have b:=(d9 K a).2 P w base N;have c:=(fm K a).2 P w base N;have d:=(gQ K a).2 P w base N
 exact bW (k:=5) 4 5 _ N.Eh jU rfl rfl λf A outer s H E e=>aa (aO (fx 4 jU.nd (vc b e (ot (vv 0) (vv 1) (vv 3)))))
   (ag (aX (aK (ie (cr e) cY (vv 2) (vc d e (dr (vc c e (ot (vv 0) (vv 1) (vv 4)))))))))⟩
theorem wP:cx ["_law_found","_law_due"] ["_law_found","_law_due"] (ah qP):=i_
def jB(K:Kt)(a:Ad)(b:List D->M D):G:=
  aF (t_ (sf (bf qe (ar (aB 1) (ar (bf dW (ar (fC (.ty "list")) (ar (fC (.ty "tuple")) (aT)))) (aT))))) (aF (t_ (oK (fB (f2 (iK) (bf g9 (ar (aB 1) (ar (fC (.ty "list")) (aT)))) (bf g9 (ar (aB 0) (ar (fC (.ty "list")) (aT)))))) (fB (f2 (iK) (bf g9 (ar (aB 1) (ar (fC (.ty "tuple")) (aT)))) (bf g9 (ar (aB 0) (ar (fC (.ty "tuple")) (aT))))))) (iN (fC (.bl JZ))) (gNil))
  (aF (t_ (fB (f2 (iK) (bf jx (ar (aB 0) (aT))) (bf jx (ar (aB 1) (aT))))) (iN (fC (.bl JZ))) (gNil))
  (iN (f2 (Vn JW) (fC (.bl JZ)) (d6 2 [] (vb (ar (aB 0) (ar (aB 1) (aT)))) (N_ (fP (jn 0) (fP (jn 1) jP))) (λ_=>M.ret JW) (nS (lf b (ar (aB 0) (ar (aB 1) (aT)))))))))) (gNil))
  (aF (t_ (fB (f2 (vG) (aB 1) (fC .non))) (iN (f2 (vG) (aB 0) (fC .non))) (gNil))
  (aF (t_ (oK (fB (f2 (iK) (bf g9 (ar (aB 1) (ar (fC (.ty "str")) (aT)))) (bf g9 (ar (aB 0) (ar (fC (.ty "str")) (aT)))))) (fB (f2 (iK) (bf g9 (ar (aB 1) (ar (fC (.ty "bool")) (aT)))) (bf g9 (ar (aB 0) (ar (fC (.ty "bool")) (aT))))))) (iN (fC (.bl JZ))) (gNil))
  (iN (vQ (bf qe (ar (aB 0) (ar (bf dW (ar (fC (.ty "int")) (ar (fC (.ty "str")) (aT)))) (aT)))) (f2 (gz) (aB 0) (aB 1))))))
def eM(K:Kt)(a:Ad):Nat->List D->M D
 |0=>λ_=>M.fail
 |n+1=>f8 2 (jB K a (eM K a n))
theorem m4(N:y_ K mg a):∀n,f0 P w K mg base (iv P w) (n+1) a.Bf a.Bh ["_law_found","_law_due"] (F0 K 2 (eM K a n))
 |0=>⟨λvs H Q E h=>h.1,λA outer s H args us vs Q E b g i r h=>by
  obtain⟨_,F,ds,β,_,_,j,β1,e,_⟩:=h;cases e⟩
 |n+1=>by
  have c:=m4 N n;unfold eM;exact bW (k:=n+1) 2 2 (jB K a (eM K a n)) N.Er wP rfl rfl λf A outer s H E b=>aa (bM (pW (bZ nN xU (by rfl) N.Ck PyProof.Rows.Boot.«isinstance» (eg (vv 1) (ck (eg (q0 (d:= .ty "list") (cS (v:= .ty "list") (by rfl) N.Cm PyProof.Rows.Boot.«list» rfl) (λ_ _=>rfl)) (q0 (d:= .ty "tuple") (cS (v:= .ty "tuple") (by rfl) N.Cu PyProof.Rows.Boot.«tuple» rfl) (λ_ _=>rfl))))))) (aa (bM (iR (uF (bh (ft b) gD (jO N.Ck (eg (vv 1) (q0 (d:= .ty "list") (cS (v:= .ty "list") (by rfl) N.Cm PyProof.Rows.Boot.«list» rfl) (λ_ _=>rfl)))) (jO N.Ck (eg (vv 0) (q0 (d:= .ty "list") (cS (v:= .ty "list") (by rfl) N.Cm PyProof.Rows.Boot.«list» rfl) (λ_ _=>rfl))))) (pV (bh (ft b) gD (jO N.Ck (eg (vv 1) (q0 (d:= .ty "tuple") (cS (v:= .ty "tuple") (by rfl) N.Cu PyProof.Rows.Boot.«tuple» rfl) (λ_ _=>rfl)))) (jO N.Ck (eg (vv 0) (q0 (d:= .ty "tuple") (cS (v:= .ty "tuple") (by rfl) N.Cu PyProof.Rows.Boot.«tuple» rfl) (λ_ _=>rfl)))))))) (ag (aX (aK (jN)))) (bq))
   (aa (bM (bh (ft b) gD (dG N.Cl (dr (vv 0))) (dG N.Cl (dr (vv 1)))) (ag (aX (aK (jN)))) (bq))
   (ag (aX (aK (ie rf (Ve (neg:=JW)) (jN) (bA rfl (jm ["_law_one","_law_other"] ["_law_one","_law_other"] []) (np (by rfl) N.Cv (eg (vv 0) (vv 1))) (λcl C l s H=>⟨(bK rfl (aw (dt 0 gs) (aw (dt 1 gs) bu))),aR,λD=>aP rfl (wr c (b.mono (J3 _)) (by rfl) N.Es N.Er.kp N.Et u6 (eg (vv 0) (vv 1)) (bx (bx L3))) rfl⟩) (cX (aN ao (aN ao cw)) (aL (aL bN))) (cW (aM au (aM au cu))) (λD=>aY)))))))) (bq))
   (aa (bM (bh rh vo (vv 1) (uK)) (ag (aX (aK (ie rh vo (vv 0) (uK))))) (bq))
   (aa (bM (iR (uF (bh (ft b) gD (jO N.Ck (eg (vv 1) (q0 (d:= .ty "str") (cS (v:= .ty "str") (by rfl) N.Cs PyProof.Rows.Boot.«str» rfl) (λ_ _=>rfl)))) (jO N.Ck (eg (vv 0) (q0 (d:= .ty "str") (cS (v:= .ty "str") (by rfl) N.Cs PyProof.Rows.Boot.«str» rfl) (λ_ _=>rfl))))) (pV (bh (ft b) gD (jO N.Ck (eg (vv 1) (q0 (d:= .ty "bool") (cS (v:= .ty "bool") (by rfl) N.Ch PyProof.Rows.Boot.«bool» rfl) (λ_ _=>rfl)))) (jO N.Ck (eg (vv 0) (q0 (d:= .ty "bool") (cS (v:= .ty "bool") (by rfl) N.Ch PyProof.Rows.Boot.«bool» rfl) (λ_ _=>rfl)))))))) (ag (aX (aK (jN)))) (bq))
   (ag (aX (aK (IO (bZ nN xU (by rfl) N.Ck PyProof.Rows.Boot.«isinstance» (eg (vv 0) (ck (eg (q0 (d:= .ty "int") (cS (v:= .ty "int") (by rfl) N.Cj PyProof.Rows.Boot.«int» rfl) (λ_ _=>rfl)) (q0 (d:= .ty "str") (cS (v:= .ty "str") (by rfl) N.Cs PyProof.Rows.Boot.«str» rfl) (λ_ _=>rfl)))))) (IN (ie (cr b) cY (vv 0) (vv 1)))))))))
theorem xu(N:y_ K mg a):FB P w K mg base 7 "_law_same" a.Bf a.Bh ["_law_found","_law_due"] 2 (eM K a 5):=⟨(m4 P w base N 5).mono (by decide),N.Es,N.Er.kp,N.Et⟩
theorem wR:cx ["_law_block","_law_columns"] ["_law_block","_law_columns"] (ah qS):=i_
def pC(K:Kt)(a:Ad):G:=
  kj (gl 1 [1] (dF ji (ar (aB 0) (aT))) (jn 0) (λ_=>M.ret JW) (oU (gj 1 [] (dF ji (ar (aB 1) (aT))) (jn 0) (λ_=>M.ret JW) (nS (bf dW (ar (fC (.int 0)) (ar (fC (.int 40)) (aT))))))))
def kf(K:Kt)(a:Ad):List D->M (List (List D)):=li 2 (pC K a)
theorem u8(N:y_ K mg a):f0 P w K mg base (iv P w) 2 a.Bi a.Bj ["_law_block","_law_columns"] (UW K 2 (kf K a)):=by
 unfold kf;exact FQ (k:=1) 2 2 (pC K a) N.Eu wR rfl rfl λb A outer s H E d=>ag (DZ (aK (HB rfl (jm ["_law_at","_law_columns"] ["_law_at"] [1]) (dy (by rfl) N.Cp (dr (vv 0))) (λcl C c s H=>⟨(dt 0 gs),aR,λD=>aP rfl (Hd rfl (jm ["_law_to"] ["_law_to"] []) (dy (by rfl) N.Cp (dr (vv 1))) (λcl C c s H=>⟨(dt 0 gs),aR,λD=>aP rfl (ck (eg (ac) (ac))) rfl⟩) ao au (λD=>aY)) rfl⟩) ao au (λD=>k4))))
theorem sL:cx ["_law_block"] ["_law_block"] (ah mQ):=i_
def mW(K:Kt)(a:Ad):QF K a 2 "_law_copied" a.Bk a.Bl ["_law_block"] 1:=⟨_,λP w mg base N=>⟨by
 exact bW (k:=1) 1 1 _ N.Ex sL rfl rfl λb A outer s H E c=>ag (aX (aK (bA rfl (jm ["_law_row"] ["_law_row"] []) (aU (vv 0)) (λcl C d s H=>⟨(dt 0 gs),aR,λD=>aP rfl (bG bF fG (by rfl) N.Cm PyProof.Rows.Boot.«list» (dr (vv 0))) rfl⟩) ao au (λD=>aY)))),N.Ey,N.Ex.kp,N.Ez⟩⟩
theorem dJ:cx ["_law_rests","_law_lot","_law_pairs","_law_found","_law_rest","_law_duo","_law_longer","_law_one","_law_count"] ["_law_rests","_law_lot","_law_pairs"] (ah s0):=i_
def iX(K:Kt)(a:Ad):QF K a 2 "_law_fit" a.Bm a.Bn ["_law_rests","_law_lot","_law_pairs"] 3:=⟨_,λP w mg base N=>⟨by
 exact bW (k:=1) 3 9 _ N.E2 dJ rfl rfl λb A outer s H E c=>aa (aO (fx 3 dJ.nd (eW (dr (eW (iQ))))))
   (aa (bz (iZ (cB aD (cB aD gF)) (cA (cA fQ))) (aZ bV rfl (np (by rfl) N.Cv (eg (vv 0) (vv 2))) (bK rfl (aw (dt 4 dJ.nd) (aw (dt 5 dJ.nd) bu))) (aa (mP (fx 6 dJ.nd (fq (iQ))))
   (aa (bz aD (aZ bV rfl (aU (vv 3)) (dt 7 dJ.nd) (ag (bz aD (aZ bV rfl (jz (by rfl) N.Cp (eg (bc az bi (vv 5) (ac)) (aE aA bp (bZ (kB rfl) vm (by rfl) N.Co PyProof.Rows.Boot.«min» (eg (bc az bi (vv 5) (ac)) (vv 4))) (ac)))) (dt 8 dJ.nd) (ag (mT (dB (jp L6 Mh Mi eU (pv 6) (dr (aE aA bp (vv 7) (eW (dr (vv 8))))))))))))))
   (oi 6 (ag (aO (fx 3 dJ.nd (vv 6)))))))))
   (ag (aX (aK (bA rfl (jm ["_law_one","_law_lot"] ["_law_one"] [1]) (aU (vv 3)) (λcl C d s H=>⟨(dt 0 gs),CV (bh (cr c) cY (lI N.Ct (dr (vv 0))) (vv 1)),λD=>aP rfl (vv 0) rfl⟩) ao au (λD=>aY)))))),N.E3,N.E2.kp,N.E4⟩⟩
theorem wQ:cx ["_law_rests","_law_column"] ["_law_rests","_law_column"] (ah qR):=i_
def gR(K:Kt)(a:Ad):QF K a 2 "_law_less" a.Bo a.Bp ["_law_rests","_law_column"] 2:=⟨_,λP w mg base N=>⟨by
 exact bW (k:=1) 2 2 _ N.E5 wQ rfl rfl λb A outer s H E c=>ag (aX (aK (bA rfl (jm ["_law_rest","_law_count"] ["_law_rest","_law_count"] []) (np (by rfl) N.Cv (eg (vv 0) (vv 1))) (λcl C d s H=>⟨(bK rfl (aw (dt 0 gs) (aw (dt 1 gs) bu))),aR,λD=>aP rfl (aE dL fF (vv 0) (vv 1)) rfl⟩) (cX (aN ao (aN ao cw)) (aL (aL bN))) (cW (aM au (aM au cu))) (λD=>aY)))),N.E6,N.E5.kp,N.E7⟩⟩
theorem bQ:cx ["_law_rowsums","_law_columnsums","_law_limits","_law_found","_law_to","_law_lot","_law_longer","_law_told","_law_rests","_law_column"] ["_law_rowsums","_law_columnsums","_law_limits"] (ah lB):=i_
def iH(K:Kt)(a:Ad):QF K a 3 "_law_listing" a.Bq a.Br ["_law_rowsums","_law_columnsums","_law_limits"] 3:=⟨_,λP w mg base N=>⟨by
 have c:=(iX K a).2 P w base N;have b:=(gR K a).2 P w base N
 exact bW (k:=2) 3 10 _ N.E8 bQ rfl rfl λe A outer s H E d=>aa (aO (fx 3 bQ.nd (eW (dr (ck (eg (eW (iQ)) (bG bF fG (by rfl) N.Cm PyProof.Rows.Boot.«list» (dr (vv 0)))))))))
   (aa (bz (iZ (cB aD (cB aD gF)) (cA (cA fQ))) (aZ bV rfl (rW (by rfl) N.Ci (dr (vv 1))) (bK rfl (aw (dt 4 bQ.nd) (aw (dt 5 bQ.nd) bu))) (aa (mP (fx 6 bQ.nd (fq (iQ))))
   (aa (bz (iZ (cB aD (cB aD gF)) (cA (cA fQ))) (aZ bV rfl (aU (vv 3)) (bK rfl (aw (dt 7 bQ.nd) (aw (dt 8 bQ.nd) bu))) (ag (bz aD (aZ bV rfl (aU (vc c d (ot (vv 8) (vv 5) (bA rfl (jm ["_law_row","_law_to"] ["_law_row"] [4]) (aU (vv 2)) (λcl C f s H=>⟨(dt 0 gs),aR,λD=>aP rfl (bc az bi (vv 0) (vv 1)) rfl⟩) ao au (λD=>aY))))) (dt 9 bQ.nd) (ag (mT (dB (jp L6 Mh Mi eU (pv 6) (dr (ck (eg (aE aA bp (vv 7) (eW (dr (vv 9)))) (vc b d (eg (vv 8) (vv 9)))))))))))))))
   (oi 6 (ag (aO (fx 3 bQ.nd (vv 6)))))))))
   (ag (aX (aK (bA rfl (jm ["_law_told","_law_rests"] ["_law_told","_law_rests"] []) (aU (vv 3)) (λcl C f s H=>⟨(bK rfl (aw (dt 0 gs) (aw (dt 1 gs) bu))),aR,λD=>aP rfl (vv 0) rfl⟩) (cX (aN ao (aN ao cw)) (aL (aL bN))) (cW (aM au (aM au cu))) (λD=>aY)))))),N.E9,N.E8.kp,N.Fa⟩⟩
theorem dS:cx ["_law_lot","_law_found","_law_k"] ["_law_lot"] (ah jJ):=i_
def gx(K:Kt)(a:Ad):QF K a 2 "_law_factorial" a.Bs a.Bt ["_law_lot"] 1:=⟨_,λP w mg base N=>⟨by
 exact bW (k:=1) 1 3 _ N.Fb dS rfl rfl λb A outer s H E c=>aa (aO (fx 1 dS.nd (ac)))
   (aa (bz aD (aZ bV rfl (jz (by rfl) N.Cp (eg (ac) (aE aA bp (vv 0) (ac)))) (dt 2 dS.nd) (ag (aO (fx 1 dS.nd (aE eS iA (vv 1) (vv 2)))))))
   (ag (aX (aK (vv 1))))),N.Fc,N.Fb.kp,N.Fd⟩⟩
theorem ij:cx ["_law_parts","_law_under","_law_part"] ["_law_parts"] (ah qO):=i_
def lT(K:Kt)(a:Ad):QF K a 3 "_law_ways" a.Bu a.Bv ["_law_parts"] 1:=⟨_,λP w mg base N=>⟨by
 have b:=(gx K a).2 P w base N
 exact bW (k:=2) 1 3 _ N.Fe ij rfl rfl λd A outer s H E c=>aa (aO (fx 1 ij.nd (ac)))
   (aa (bz aD (aZ bV rfl (aU (vv 0)) (dt 2 ij.nd) (ag (aO (fx 1 ij.nd (aE eS iA (vv 1) (vc b c (dr (vv 2)))))))))
   (ag (aX (aK (aE zd Ho (vc b c (dr (lI N.Ct (dr (vv 0))))) (vv 1)))))),N.Ff,N.Fe.kp,N.Fg⟩⟩
theorem fc:cx ["_law_bag_here","_law_places","_law_things","_law_told","_law_thing","_law_at"] ["_law_bag_here","_law_places","_law_things"] (ah lA):=i_
def f6(K:Kt)(a:Ad):QF K a 3 "_law_scatter" a.Bw a.Bx ["_law_bag_here","_law_places","_law_things"] 3:=⟨_,λP w mg base N=>⟨by
 have b:=iB P w base N
 exact bW (k:=2) 3 6 _ N.Fh fc rfl rfl λc A outer s H E d=>aa (GE (fx 3 fc.nd (CK (dr (ac)) (vv 1))))
   (aa (bz aD (aZ bV rfl (dy (by rfl) N.Cp (dr (vv 2))) (dt 4 fc.nd) (aa (aO (fx 5 fc.nd (vc b d (eg (vv 0) (vv 1)))))
   (ag (EA (bR (aE aA bp (bc az bi (vv 3) (vv 5)) (ac)) (cq (pv 3) (vv 5) bP)))))))
   (ag (aX (aK (vv 3))))),N.Fi,N.Fh.kp,N.Fj⟩⟩
theorem dR:cx ["_law_bag_here","_law_block","_law_columns","_law_told","_law_way","_law_at","_law_to","_law_base"] ["_law_bag_here","_law_block","_law_columns"] (ah pf):=i_
def iq(K:Kt)(a:Ad):QF K a 3 "_law_tight" a.By a.Bz ["_law_bag_here","_law_block","_law_columns"] 3:=⟨_,λP w mg base N=>⟨by
 have c:=u8 P w base N;have b:=iB P w base N
 exact bW (k:=2) 3 8 _ N.Fk dR rfl rfl λe A outer s H E d=>aa (BZ (fx 3 dR.nd (HC c (d.mono (by decide)) (by rfl) N.Ev N.Eu.kp N.Ew mZ (eg (vv 1) (vv 2)) (bx (bx L3)))))
   (aa (aO (fx 4 dR.nd (vc b d (eg (vv 0) (ac)))))
   (aa (bz aD (aZ bV rfl (dy (by rfl) N.Cp (dr (vv 1))) (dt 5 dR.nd) (ag (bz aD (aZ bV rfl (dy (by rfl) N.Cp (dr (vv 2))) (dt 6 dR.nd) (ag (bM (iR (BT (bh qa vp (vv 4) (ac)) (wn (bh (cr d) cY (vc b d (eg (vv 0) (ac))) (ac))))) (aa (aO (fx 7 dR.nd (aE eS iA (vc b d (eg (vv 0) (ac))) (vc b d (eg (vv 0) (ac))))))
   (ag (fj (bR (ck (eg (vv 7) (aE aA bp (vv 7) (vc b d (eg (vv 0) (ac)))))) (cq (cN bD (pv 3) (vv 5) (λ_ _=>rfl)) (vv 6) bP))))) (ag (bM (iR (BT (bh qa vp (vv 4) (ac)) (wn (bh (cr d) cY (vc b d (eg (vv 0) (ac))) (ac))))) (ag (fj (bR (ck (eg (ac) (ac))) (cq (cN bD (pv 3) (vv 5) (λ_ _=>rfl)) (vv 6) bP)))) (bq))))))))))
   (aa (bM (bh (cr d) cY (vc b d (eg (vv 0) (ac))) (ac)) (ag (GC (bR (CK (dr (ck (eg (ac) (aE aA bp (ac) (vc b d (eg (vv 0) (ac))))))) (vv 2)) (cq (pv 3) (vc b d (eg (vv 0) (vv 1))) bP)))) (bq))
   (ag (aX (aK (vv 3))))))),N.Fl,N.Fk.kp,N.Fm⟩⟩
theorem dj:cx ["_law_rowsums","_law_columnsums","_law_limits","_law_levels","_law_to","_law_lot","_law_seen","_law_rests","_law_column"] ["_law_rowsums","_law_columnsums","_law_limits"] (ah ph):=i_
def j4(K:Kt)(a:Ad):QF K a 3 "_law_nodes" a.B0 a.B4 ["_law_rowsums","_law_columnsums","_law_limits"] 3:=⟨_,λP w mg base N=>⟨by
 have d:=(iX K a).2 P w base N;have c:=(gR K a).2 P w base N
 exact bW (k:=2) 3 9 _ N.Fn dj rfl rfl λf A outer s H E e=>aa (mP (fx 3 dj.nd (fq (dr (eW (dr (bG cV gG (by rfl) N.Cu PyProof.Rows.Boot.«tuple» (dr (vv 0)))))))))
   (aa (bz (iZ (cB aD (cB aD gF)) (cA (cA fQ))) (aZ bV rfl (rW (by rfl) N.Ci (dr (vv 1))) (bK rfl (aw (dt 4 dj.nd) (aw (dt 5 dj.nd) bu))) (aa (CA (fx 6 dj.nd (lW (b:=JZ))))
   (aa (GF aD (aZ bV rfl (xl (cN bD (pv 3) (pv 4) (λ_ _=>rfl))) (dt 7 dj.nd) (ag (bz aD (aZ bV rfl (aU (vc d e (ot (vv 7) (vv 5) (bA rfl (jm ["_law_row","_law_to"] ["_law_row"] [4]) (aU (vv 2)) (λcl C g s H=>⟨(dt 0 gs),aR,λD=>aP rfl (bc az bi (vv 0) (vv 1)) rfl⟩) ao au (λD=>aY))))) (dt 8 dj.nd) (ag (qW (bR (jN) (cq (pv 6) (bG cV gG (by rfl) N.Cu PyProof.Rows.Boot.«tuple» (dr (vc c e (eg (vv 7) (vv 8))))) (jh (TU e)))))))))))
   (oi 6 (ag (mT (dB (jp L6 Mh Mi eU (pv 3) (dr (bZ (hX rfl e.units) xT (by rfl) N.Cr PyProof.Rows.Boot.«sorted» (dr (vv 6)))))))))))))
   (ag (aX (aK (vv 3))))),N.Fo,N.Fn.kp,N.Fp⟩⟩
theorem bj:cx ["_law_rowsums","_law_columnsums","_law_limits","_law_levels","_law_told","_law_rests","_law_stage","_law_tables","_law_dealings","_law_column","_law_more"] ["_law_rowsums","_law_columnsums","_law_limits"] (ah lC):=i_
def iI(K:Kt)(a:Ad):QF K a 4 "_law_counted" a.B5 a.B7 ["_law_rowsums","_law_columnsums","_law_limits"] 3:=⟨_,λP w mg base N=>⟨by
 have c:=(j4 K a).2 P w base N;have f:=(iX K a).2 P w base N;have d:=(gR K a).2 P w base N;have e:=(lT K a).2 P w base N
 exact bW (k:=3) 3 11 _ N.Fq bj rfl rfl λh A outer s H E g=>aa (aO (fx 3 bj.nd (vc c g (ot (vv 0) (vv 1) (vv 2)))))
   (aa (CA (fx 4 bj.nd (lW (b:=JW))))
   (aa (bz aD (aZ bV rfl (aU (bc az bi (vv 3) (uJ mz qd (ac)))) (dt 5 bj.nd) (ag (qW (bR (ck (eg (ac) (ac))) (cq (pv 4) (ck (eg (dG N.Cl (dr (vv 1))) (vv 5))) (jh (TU g))))))))
   (aa (bz aD (aZ bV rfl (zH (by rfl) N.Cp (ot (aE dL fF (dG N.Cl (dr (vv 1))) (ac)) (aE dL fF (ac) (ac)) (aE dL fF (ac) (ac)))) (dt 6 bj.nd) (ag (bz aD (aZ bV rfl (aU (bc az bi (vv 3) (vv 6))) (dt 5 bj.nd) (aa (aO (fx 7 bj.nd (ac)))
   (aa (aO (fx 8 bj.nd (ac)))
   (aa (bz aD (aZ bV rfl (aU (vc f g (ot (vv 5) (bc az bi (vv 1) (vv 6)) (bA rfl (jm ["_law_row","_law_stage"] ["_law_row"] [6]) (aU (vv 2)) (λcl C i s H=>⟨(dt 0 gs),aR,λD=>aP rfl (bc az bi (vv 0) (vv 1)) rfl⟩) ao au (λD=>aY))))) (dt 9 bj.nd) (aa (wT (fx 10 bj.nd (bc (m8 (TU g)) vq (vv 4) (ck (eg (aE aA bp (vv 6) (ac)) (bG cV gG (by rfl) N.Cu PyProof.Rows.Boot.«tuple» (dr (vc d g (eg (vv 5) (vv 9))))))))))
   (aa (aO (fx 7 bj.nd (aE aA bp (vv 7) (bc az bi (vv 10) (ac)))))
   (ag (aO (fx 8 bj.nd (aE aA bp (vv 8) (aE eS iA (bc az bi (vv 10) (ac)) (vc e g (dr (vv 9))))))))))))
   (ag (qW (bR (ck (eg (vv 7) (vv 8))) (cq (pv 4) (ck (eg (vv 6) (vv 5))) (jh (TU g))))))))))))))
   (ag (aX (aK (bA rfl (jm ["_law_key","_law_told"] ["_law_key"] [4]) (aU (bZ (hX rfl g.units) xS (by rfl) N.Cr PyProof.Rows.Boot.«sorted» (dr (vv 4)))) (λcl C i s H=>⟨(dt 0 gs),aR,λD=>aP rfl (aE aA bp (vv 0) (bc (m8 (TU g)) vq (vv 1) (vv 0))) rfl⟩) ao au (λD=>aY)))))))),N.Fs,N.Fq.kp,N.Ft⟩⟩
theorem di:cx ["_law_bag_here","_law_block","_law_where","_law_told","_law_at","_law_way","_law_kept"] ["_law_bag_here","_law_block","_law_where"] (ah qT):=i_
def jj(K:Kt)(a:Ad):QF K a 3 "_law_bent" a.B8 a.Ca ["_law_bag_here","_law_block","_law_where"] 3:=⟨_,λP w mg base N=>⟨by
 have b:=iB P w base N
 exact bW (k:=2) 3 7 _ N.Fu di rfl rfl λe A outer s H E c=>aa (qU (i:=3) di.nd rfl (by first|exact Mn rfl|exact NG rfl) rfl (jm ["_law_row"] ["_law_row"] []) (aU (vv 1)) (λcl C d s H=>⟨(dt 0 gs),aR,λD=>aP rfl (zf bF FA (by rfl) N.Cm PyProof.Rows.Boot.«list» (dr (vv 0))) rfl⟩) ao au (λD=>k4))
   (aa (GA (fx 4 di.nd (vc b c (eg (vv 0) (dG N.Cl (dr (vv 3)))))))
   (aa (aO (fx 5 di.nd (vc b c (eg (vv 0) (ac)))))
   (aa (bM (bh p9 vn (vv 5) (ac)) (ag (fj (bR (aE dL fF (aE aA bp (bc az bi (bc az bi (vv 3) (vv 4)) (vv 2)) (ac)) (aE eS iA (ac) (vv 5))) (cq (cN bD (pv 3) (vv 4) (λ_ _=>rfl)) (vv 2) bP)))) (bq))
   (aa (bM (bh (cr c) cY (vv 5) (ac)) (Gz 3 (ag (GD (dB (jp L6 PySem.F.slot_list_pop PySem.F.type_list_pop zj (pv 3) (dr (vv 4))))))) (bq))
   (aa (bM (bh (cr c) cY (vv 5) (ac)) (Gz 3 (ag (GG (dB (jp L6 Mh Mi eU (pv 3) (dC (cN bD (pv 3) (pv 4) (λ_ _=>rfl)) ge)))))) (bq))
   (aa (bM (bh (cr c) cY (vv 5) (ac)) (oi 3 (ag (aO (fx 3 di.nd (aE aA bp (eP (vv 3) (eC (ac)) (eD)) (eP (vv 3) (eD) (eC (ac)))))))) (bq))
   (aa (bM (bh (cr c) cY (vv 5) (ac)) (oi 3 (ag (qU (i:=3) di.nd rfl (by first|exact Mn rfl|exact NG rfl) rfl (jm ["_law_row"] ["_law_row"] []) (aU (vv 3)) (λcl C d s H=>⟨(dt 0 gs),aR,λD=>aP rfl (CL (aE aA bp (eP (vv 0) (eD) (eC (ac))) (eW (eg (aE eS iA (ac) (bc az bi (vv 0) (ac))) (aE eS iA (ac) (bc az bi (vv 0) (ac)))))) (eP (vv 0) (eC (ac)) (eD))) rfl⟩) ao au (λD=>k4)))) (bq))
   (aa (bM (bh (cr c) cY (vv 5) (ac)) (oi 3 (ag (qU (i:=3) di.nd rfl (by first|exact Mn rfl|exact NG rfl) rfl (jm ["_law_row"] ["_law_row"] []) (aU (vv 3)) (λcl C d s H=>⟨(dt 0 gs),aR,λD=>aP rfl (CL (aE aA bp (eP (vv 0) (eD) (eC (ac))) (eW (eg (aE aA bp (bc az bi (vv 0) (ac)) (ac)) (aE aA bp (bc az bi (vv 0) (ac)) (ac))))) (eP (vv 0) (eC (ac)) (eD))) rfl⟩) ao au (λD=>k4)))) (bq))
   (aa (bM (bh (cr c) cY (vv 5) (ac)) (ag (fj (bR (aE aA bp (qB (bc az bi (bc az bi (vv 3) (vv 4)) (ac)) (eC (ac)) (eD)) (qB (bc az bi (bc az bi (vv 3) (vv 4)) (ac)) (eD) (eC (ac)))) (cq (cN bD (pv 3) (vv 4) (λ_ _=>rfl)) (ac) bP)))) (bq))
   (aa (bM (bh (cr c) cY (vv 5) (ac)) (aa (wT (fx 6 di.nd (bc az bi (bc az bi (vv 3) (vv 4)) (ac))))
   (aa (fj (bR (bc az bi (bc az bi (vv 3) (aE dL fF (vv 4) (ac))) (ac)) (cq (cN bD (pv 3) (vv 4) (λ_ _=>rfl)) (ac) bP)))
   (ag (fj (bR (vv 6) (cq (cN bD (pv 3) (aE dL fF (vv 4) (ac)) (λ_ _=>rfl)) (ac) bP)))))) (bq))
   (aa (bM (bh (cr c) cY (vv 5) (ac)) (ag (fj (bR (aE aA bp (bc az bi (bc az bi (vv 3) (vv 4)) (ac)) (ac)) (cq (cN bD (pv 3) (vv 4) (λ_ _=>rfl)) (ac) bP)))) (bq))
   (aa (bM (bh (cr c) cY (vv 5) (ac)) (aa (fj (bR (aE aA bp (bc az bi (bc az bi (vv 3) (ac)) (vv 2)) (ac)) (cq (cN bD (pv 3) (ac) (λ_ _=>rfl)) (vv 2) bP)))
   (ag (fj (bR (aE aA bp (bc az bi (bc az bi (vv 3) (uJ mz qd (ac))) (vv 2)) (ac)) (cq (cN bD (pv 3) (uJ mz qd (ac)) (λ_ _=>rfl)) (vv 2) bP))))) (bq))
   (ag (aX (aK (bA rfl (jm ["_law_row"] ["_law_row"] []) (aU (vv 3)) (λcl C d s H=>⟨(dt 0 gs),aR,λD=>aP rfl (bG cV gG (by rfl) N.Cu PyProof.Rows.Boot.«tuple» (dr (vv 0))) rfl⟩) ao au (λD=>aY))))))))))))))))),N.Fv,N.Fu.kp,N.Fw⟩⟩
theorem eZ:cx ["_law_script","_law_bag_here","_law_things","_law_rowsums","_law_columnsums","_law_limits","_law_due","_law_bent_here","_law_told"] ["_law_script"] (ah kT):=i_
def mV(K:Kt)(a:Ad):{g:G//∀(P:KF) (w:K1) {mg:K2->Option J0} (base:Lj) (N:y_ K mg a) (f:JY) (n:J0) (A:Lf) (outer:List Q6) (s:J4) (H:Hp) (E:XK),ee 7 (A.deeper (PyProof.Rows.envOfC "law" (ah kT) s.heap.objs.size f n))->PSs (fK (iv P w) P w K mg base ["_law_script","_law_bag_here","_law_things","_law_rowsums","_law_columnsums","_law_limits","_law_due","_law_bent_here","_law_told"] "law" (ah kT) f n A outer s H E) (cK kT).tail (tG K H g (λ_=>E))}:=⟨_,λP w mg base N f n A outer s H E j=>by
 have b:=iB P w base N;have c:=(f6 K a).2 P w base N;have k:=(iq K a).2 P w base N;have h:=(iI K a).2 P w base N;have i:=(iH K a).2 P w base N;have d:=(iG K a).2 P w base N;have e:=(mW K a).2 P w base N;have l:=(jj K a).2 P w base N;have m:=xu P w base N
 exact aa (aO (fx 2 eZ.nd (vc b j (eg (vv 1) (ac)))))
   (aa (aO (fx 3 eZ.nd (vc c j (ot (vv 1) (aE aA bp (ac) (vc b j (eg (vv 1) (ac)))) (vv 2)))))
   (aa (aO (fx 4 eZ.nd (vc c j (ot (vv 1) (aE aA bp (ac) (vc b j (eg (vv 1) (ac)))) (vv 2)))))
   (aa (aO (fx 5 eZ.nd (vc k j (ot (vv 1) (dG N.Cl (dr (vv 3))) (dG N.Cl (dr (vv 4)))))))
   (aa (aO (fx 6 eZ.nd (vc h j (ot (vv 3) (vv 4) (vv 5)))))
   (aa (bM (bh (ft j) gD (bc az bi (bc az bi (vv 6) (ac)) (ac)) (dG N.Cl (dr (vc i j (ot (vv 3) (vv 4) (vv 5)))))) (ag (aX (aK (jN)))) (bq))
   (aa (bM (bh ER Hn (sR d (j.mono (by decide)) (by rfl) N.Ei N.Eh.kp N.Ej mZ (ot (bG bF fG (by rfl) N.Cm PyProof.Rows.Boot.«list» (dr (vv 3))) (bG bF fG (by rfl) N.Cm PyProof.Rows.Boot.«list» (dr (vv 4))) (bG bF fG (by rfl) N.Cm PyProof.Rows.Boot.«list» (dr (vv 6)))) (sQ (vc e j (dr (vv 5))) (wo)) (bx (bx (bx L3))) (bx L3) rfl) (jN)) (ag (aX (aK (jN)))) (bq))
   (aa (aO (fx 7 eZ.nd (vc l j (ot (vv 1) (vv 6) (aE aA bp (ac) (vc b j (eg (vv 1) (ac))))))))
   (aa (aO (fx 8 eZ.nd (sR d (j.mono (by decide)) (by rfl) N.Ei N.Eh.kp N.Ej mZ (ot (bG bF fG (by rfl) N.Cm PyProof.Rows.Boot.«list» (dr (vv 3))) (bG bF fG (by rfl) N.Cm PyProof.Rows.Boot.«list» (dr (vv 4))) (bG bF fG (by rfl) N.Cm PyProof.Rows.Boot.«list» (dr (vv 7)))) (sQ (vc e j (dr (vv 5))) (wo)) (bx (bx (bx L3))) (bx L3) rfl)))
   (ag (aX (aK (vc m j (eg (vv 8) (ie (cr j) cY (vv 7) (vv 6)))))))))))))))⟩
theorem Hc{f:JY}{o:KJ}(F:dv K "law" "law" kT f o)(N:y_ K mg a)(T:∀β:Bg,β.ok->∃d,(mV K a).1 [JT,on (.sh .bag),JT,JT,JT,JT,JT,JT,JT] β=on (.rt (.bl JW),d)):
  f0 P w K mg base (iv P w) 8 f o ["_law_script"] (BX K):=by
 have c:=ze P w base N;refine F.okE (k:=7) eZ (λvs H Q E h=>?_) (λg A outer s H vs Q E p h=>?_)
 .obtain⟨a,ns,rfl,_⟩:=h
  rfl
 .obtain⟨a1,ns,rfl,r,q,k⟩:=h
  have rest:=(mV K a).2 P w base N f g A outer s H E p;refine⟨_,dm (rest:=(cK kT).tail) (fx 1 eZ.nd (kX c (p.mono (by decide)) rfl N.El N.Ek.kp N.Em .nil u6 (dC (pv 0) ge))) rest,?_⟩;refine⟨_,rfl,a1,ns,rfl,r,λb l H1 i j t u=>?_⟩;obtain⟨β,ok,m⟩:=FZ (K:=K) (a:=a1) (n:=["_law_script","_law_bag_here","_law_things","_law_rowsums","_law_columnsums","_law_limits","_law_due","_law_bent_here","_law_told"].length-2) u i j t;obtain⟨d,e⟩:=T β ok;exact⟨_,_,_,β,_,d,m,e,λv C y s fr B=>by cases B.bl;exact k y⟩
end
end Law
namespace Law
open PySem L2 L2.Pu L2.Nt
section
variable{K:Kt}{a:Ad}{β:Bg}
abbrev tN(l:List Nat):D:=hL (nI l)
abbrev eN(b:List Nat×Nat):D:= .tup [tN b.1,.int (b.2:Int)]
abbrev pN(p:Nat×Nat):D:=pD ((p.1:Int),(p.2:Int))
def B_(r:List Nat):Prop:=1<=r.length/\r.length<=4/\r.sum<=40/\pr (r.map (·+1))<=500
theorem mr{f g:FD}{δ:Dn}{x y:D}{ds es:List D}(b:f δ β=on (.ok x,β))(c:g δ β=on (.ok y,β))(d:c5 x=on ds)(e:c5 y=on es):vb (ar f (ar g aT)) δ β=on (.ok (dE ds es),β):=bI (ae b (ae c rfl)) (by
 unfold yC;simp only[d,e,MQ,Md])
theorem GL{lo:Nat}{h:Int}(b:-1000<=h)(c:h<=1000)(d:lo<=1000):lR [.int (lo:Int),.int h]=on ((Ka (h-lo).toNat).map λi=>D.int ((lo+i:Nat):Int)):=by
 have e:lR [.int (lo:Int),.int h]=on (bn lo (h-lo).toNat):=by
  simp only[lR];rw[J8 (by simp only[Kz,KV];omega)]
 rw[e];exact La on (K9 λi _=>by congr 1)
theorem Ws{l:List Nat}{c:Nat}(h:l.length<=100):iO (tN l) (.tup [.int (c:Int)])=on (tN (l++[c])):=by
 cases l with
 |nil=>rfl
 |cons x l=>
  show(if _ then _ else _)=_;rw[J8 (bo (by simp at h⊢;omega))];simp[hL]
theorem wG(l:List Nat)(k:Nat):ig [.lst (((nI l).map D.int).drop k)]=on (.int (((l.drop k).sum:Nat):Int)):=by
 rw[<-Nd,<-Nd];exact(kQ _).trans (by rw[<-m5])
theorem wA:∀{r:List Nat} {ps:List (Nat×Nat)},(r.zip ps).map (λq=>D.int (Np (q.1:Int) (q.2.2:Int)))=(nI (lk ps r)).map D.int
 |[],_=>by cases ‹List (Nat×Nat)›<;>rfl
 |_::_,[]=>rfl
 |x::r,p::ps=>by
  have e:=wA (r:=r) (ps:=ps);show _::_=D.int ((Np x p.2:Nat):Int)::(nI (lk ps r)).map D.int;rw[<-e];show D.int (Np (x:Int) (p.2:Int))::_=_;rw[show Np (x:Int) (p.2:Int)=((Np x p.2:Nat):Int) by omega];rfl
theorem wz:∀{ps:List (Nat×Nat)} {r:List Nat} {k:Nat} (b:k<ps.length) (c:k<r.length),(lk ps r)[k]?=on (Np r[k] ps[k].2)
 |p::ps,x::r,0,_,_=>rfl
 |p::ps,x::r,k+1,b,c=>wz (k:=k) (by simpa using b) (by simpa using c)
abbrev sd(ps:List (Nat×Nat))(r:List Nat)(c:Nat)(st:D)(b d e:Option Sl):Ds:=[on (.sh (tN r)),on (.sh (.int (c:Int))),on (.sh (.lst (ps.map pN))),on (.sh (.lst ((nI (lb ps)).map .int))),on (.sh (.lst ((nI (lk ps r)).map .int))),on (.sh st),b,d,e]
theorem HF{ps:List (Nat×Nat)}{r:List Nat}{c:Nat}(H:B_ r)(v:ps.length=r.length)(A:∀p∈ps,p.1<=40/\p.2<=40)(R:c<=40):(jk K a).1 [tN r,.int (c:Int),.lst (ps.map pN)] β=on (.ok (.lst ((vB ps r c).map tN)),β):=by
 obtain⟨_,T,hs,U⟩:=H;have I:r.length<=Ki:=bo (by omega);have o:∀k,k<=r.length->(nt ps r c k).length<=Ki:=λk m=>bo (Kl (sV c k m) (Kl (u4 r k) (by omega)));unfold jk
 dsimp only
 refine br ?_;refine aJ (d:= .lst ((nI (lb ps)).map .int)) (β1:=β) ?_ ?_
 .have:=bS (nv:=2) (b_:=[]) (it:=fA (aB 2)) (tg:=N_ (fP (jn 0) (fP (jn 1) jP))) (f:=aB 0) (δ:=vw (sd ps r c .non JT JT JT)) (β:=β) ps pN (λp=> .int (p.1:Int)) rfl (λx _=>⟨[on (.int (x.1:Int)),on (.int (x.2:Int))],rfl,rfl⟩) (by rw[v];exact I)
  refine Eq.trans this ?_;unfold lb;rw[Kb,Kb];rfl
 refine aJ (d:= .lst ((nI (lk ps r)).map .int)) (β1:=β) ?_ ?_
 .rw[<-wA]
  exact bS (nv:=3) (b_:=[]) (it:=vb (ar (aB 0) (ar (aB 2) (aT)))) (tg:=N_ (fP (jn 0) (fP (N_ (fP (jn 1) (fP (jn 2) jP))) jP))) (f:=bf rE (ar (aB 0) (ar (aB 2) (aT)))) (δ:=vw (sd ps r c .non JT JT JT)) (β:=β) (r.zip ps) (λq=>D.tup [.int (q.1:Int),pN q.2]) _ (by
   rw[<-gJ (λx:Nat=>D.int (x:Int)) pN];refine mr (x:=tN r) (y:= .lst (ps.map pN)) rfl rfl ?_ rfl;show on _=on _;rw[Kb];rfl) (λq _=>⟨[on (.int (q.1:Int)),on (.int (q.2.1:Int)),on (.int (q.2.2:Int))],rfl,ak rfl zk⟩) (bo (by rw[Os];omega))
 refine aJ (d:= .lst ((nt ps r c 0).map eN)) (β1:=β) (ak (ae (ak (ae (ak rfl rfl) (ae rfl rfl)) d7) rfl) l3) ?_;refine bv (ds:=bn 0 r.length) (β1:=β) (bI (ae (ak (z:= .int (r.length:Int)) rfl (by show on (D.int _)=_;rw[JS,JS])) rfl) (O2 (by omega) (by omega))) (λk δ C=>β=C/\∃B t u,δ=sd ps r c (.lst ((nt ps r c k).map eN)) B t u) ⟨rfl,JT,JT,JT,rfl⟩ ?_ ?_
 .rintro k d δ _ hd ⟨rfl,B,t,u,rfl⟩
  obtain⟨m,rfl⟩:=mU hd;have j:k<ps.length:=by omega
  have J:ps[k]?=on ps[k]:=JX j;have b40:=A _ (K5 j);have W:(lb ps).sum<=160:=by
   have g:∀l:List (Nat×Nat),(∀p∈l,p.1<=40/\p.2<=40)->(lb l).sum<=40*l.length:=λl=>by
    induction l with
    |nil=>intro _;exact J3 _
    |cons p l ih=>
     intro h;have:=ih λq v=>h q (J1 _ v);have:=(h p J2).1;simp only[lb,Kv,KY,Kq]at*;omega
   have:=g ps A;omega
  have F:∀(l:List Nat) (n:Nat),(l.drop n).sum<=l.sum:=λl n=>by
   conv=>rhs;rw[<-MG n l,List.sum_append]
   omega
  have L:=F (lb ps) (k+1);have N:=Kl (F (lk ps r) (k+1)) wy;refine⟨sd ps r c (.lst ((nt ps r c k).map eN)) (on (.sh (.int (k:Int)))) t u,rfl,?_⟩;refine aJ (d:= .int ((((lb ps).drop (k+1)).sum:Nat):Int)) (β1:=β) (ak (ae (gb rfl (dq rfl rfl rfl)) rfl) ((La (λl=>ig [.lst l]) (fY (k:=k+1))).trans (wG _ _))) ?_;refine aJ (d:= .int ((((lk ps r).drop (k+1)).sum:Nat):Int)) (β1:=β) (ak (ae (gb rfl (dq rfl rfl rfl)) rfl) ((La (λl=>ig [.lst l]) (fY (k:=k+1))).trans (wG _ _))) ?_;refine am (aJ (d:= .lst ((nt ps r c (k+1)).map eN)) (β1:=β) ?_ (aQ ⟨rfl,_,_,_,rfl⟩));have e:(nt ps r c (k+1)).map eN=(nt ps r c k).flatMap λb=>(T5 r[k] ps[k] ((lb ps).drop (k+1)).sum ((lk ps r).drop (k+1)).sum b).map eN:=by
   show((nt ps r c k).flatMap _).map eN=_;rw[LN,fJ m,fJ j]
  rw[e];refine FV (nt ps r c k) eN _ rfl (λb A=>⟨[on (tN b.1),on (.int (b.2:Int)),JT,on (.lst ((nI (lb ps)).map .int)),on (.int (k:Int)),on (.int ((((lk ps r).drop (k+1)).sum:Nat):Int)),on (.lst ((nI (lk ps r)).map .int)),on (.int ((((lb ps).drop (k+1)).sum:Nat):Int))],rfl,?_⟩) (by
   rw[<-e,JS];exact o (k+1) m)
  obtain⟨b2,b1⟩:=wJ ps r c k b A;have X:=fX (K5 m);unfold T5;generalize ((lb ps).drop (k+1)).sum=few at*;generalize ((lk ps r).drop (k+1)).sum=most at*;refine(xx (Ka (Np (Np r[k] ps[k].2+few) b.2+1-few-max ps[k].1 (b.2-most))) (λi=>D.int ((max ps[k].1 (b.2-most)+i:Nat):Int)) (λi=>eN (b.1++[max ps[k].1 (b.2-most)+i],b.2-(max ps[k].1 (b.2-most)+i))) ?_ ?_).trans (by rw[Kb];rfl)
  .refine bI (as:=[.int ((max ps[k].1 (b.2-most):Nat):Int),.int (Np ((Np r[k] ps[k].2:Nat):Int) ((b.2:Int)-few)+1)]) (ae (ak (ae (dq rfl rfl (cT (d:= .int (ps[k].1:Int)) ?_)) (ae (dq rfl rfl rfl) rfl)) (Vb.trans ?_)) (ae (dq (ak (ae (dq rfl rfl (cT (d:= .int ((Np r[k] ps[k].2:Nat):Int)) ?_)) (ae (dq rfl rfl rfl) rfl)) zk) rfl rfl) rfl)) ((GL (by omega) (by omega) (by omega)).trans ?_)
   .unfold lb
    rw[J9,J9,J9,J];rfl
   .rw[show max (ps[k].1:Int) ((b.2:Int)-(most:Int))=((max ps[k].1 (b.2-most):Nat):Int) by omega]
   .rw[J9,J9,wz j m];rfl
   .rw[show(Np ((Np r[k] ps[k].2:Nat):Int) ((b.2:Int)-few)+1-((max ps[k].1 (b.2-most):Nat):Int)).toNat=Np (Np r[k] ps[k].2+few) b.2+1-few-max ps[k].1 (b.2-most) by omega]
  .refine λi O=>⟨[on (tN b.1),on (.int (b.2:Int)),on (.int ((max ps[k].1 (b.2-most)+i:Nat):Int)),on (.lst ((nI (lb ps)).map .int)),on (.int (k:Int)),on (.int (most:Int)),on (.lst ((nI (lk ps r)).map .int)),on (.int (few:Int))],rfl,ak (ae (dq rfl (ak rfl rfl) (Ws (l:=b.1) (c:=max ps[k].1 (b.2-most)+i) (by omega))) (ae (dq rfl rfl rfl) rfl)) (d7.trans ?_)⟩
   have Q:=Kw.mp O;show on (D.tup [_,.int _])=on (D.tup [_,.int _]);rw[show(b.2:Int)-((max ps[k].1 (b.2-most)+i:Nat):Int)=((b.2-(max ps[k].1 (b.2-most)+i):Nat):Int) by omega]
 .rintro δ _ ⟨rfl,B,t,u,rfl⟩
  rw[qX];have h:=sC (nv:=2) (b_:=[]) (it:=fA (aB 5)) (tg:=N_ (fP (jn 0) (fP (jn 1) jP))) (tt:=fB (f2 (gz) (aB 1) (fC (.int 0)))) (f:=aB 0) (δ:=fw (sd ps r c (.lst ((nt ps r c r.length).map eN)) B t u)) (β:=β) (nt ps r c r.length) eN (λb=>tN b.1) (λb=>decide ((b.2:Int)=0)) rfl (λb _=>⟨[on (tN b.1),on (.int (b.2:Int))],rfl,k_ (dq rfl rfl eq_int),λ_=>rfl⟩) (o _ (J3 _));refine am (bB h ⟨rfl,?_⟩);rw[<-DT v,Kb];rfl
theorem sH{α:Type}{tg:l0}{b:FL}{δ:Dn}{β:Bg}(u:α->D)(o:α->List D):∀(xs:List α),(∀x∈xs,∃c,tg (u x) δ=on c/\b c β=on (.ok (o x),β))->nw tg (λ_=>M.ret JW) b (xs.map u) δ β=on (.ok (xs.flatMap o),β)
 |[],_=>rfl
 |x::xs,h=>by
  obtain⟨c,d,e⟩:=h x J2;have f:=sH u o xs λy g=>h y (J1 _ g);rw[Kv,nw];simp only[d,M.bind,M.ret,reduceIte,e,f,Lh]
theorem jF{α:Type}{nv:Nat}{b_:List Nat}{it:FL}{tg:l0}{b:FL}{c:List D->Option D}{δ:Dn}{β:Bg}{d:D}(xs:List α)(u:α->D)(o:α->List D)(f:it δ β=on (.ok (xs.map u),β))
  (g:∀x∈xs,∃e,tg (u x) (lg nv b_ δ)=on e/\b e β=on (.ok (o x),β)) (h:c (xs.flatMap o)=on d):gi nv b_ it tg (λ_=>M.ret JW) b c δ β=on (.ok d,β):=by
 unfold gi;rw[f];simp only[sH u o xs g,h,Md]
theorem Jk{α:Type}{it:FL}{tg:l0}{b:FL}{δ:Dn}{β:Bg}(xs:List α)(u:α->D)(o:α->List D)(d:it δ β=on (.ok (xs.map u),β))(e:∀x∈xs,∃c,tg (u x) δ=on c/\b c β=on (.ok (o x),β)):TW it tg (λ_=>M.ret JW) b δ β=on (.ok (xs.flatMap o),β):=by
 unfold TW M.bind;rw[d];exact sH u o xs e
noncomputable abbrev jG(B:List (List (Nat×Nat))):LP:=B.map λb=>b.map λp=>((p.1:Int),(p.2:Int))
abbrev pq(B:List (List (Nat×Nat))):D:=kF (jG B)
noncomputable def mh(B:List (List (Nat×Nat)))(k:Nat):List (Nat×Nat):=B.map λb=>b.getD k (0,0)
def zv(r c:Nat)(B:List (List (Nat×Nat))):Prop:=ni r c B/\∀b∈B,∀p∈b,p.1<=p.2/\p.2<=40
def wB(B:List (List (Nat×Nat)))(cs:List Nat):Wy:=λk r=>vB (mh B k) r (cs.getD k 0)
theorem uH(B:List (List (Nat×Nat)))(cs:List Nat):y1 cs (wB B cs):=λk r=>List.filter_sublist
theorem zv.col{r c k:Nat}{B:List (List (Nat×Nat))}(h:zv r c B)(f:k<c):(mh B k).length=r/\∀p∈mh B k,p.1<=40/\p.2<=40:=by
 refine⟨by unfold mh;rw[JS,h.1.1],λp e=>?_⟩;obtain⟨b,d,rfl⟩:=J5.mp e;have l:=h.1.2 b d;rw[fJ (by omega)];have:=h.2 b d _ (K5 (show k<b.length by omega));omega
theorem uw{r cs:List Nat}{B:List (List (Nat×Nat))}{k:Nat}(e:B_ r)(hB:zv r.length cs.length B)(j:cs.sum<=40)(g:k<cs.length):(cE K a).1 [tN r,nL cs,pq B,.int (k:Int)] β=on (.ok (.lst ((wB B cs k r).map tN)),β):=by
 have i:cs[k]?=on (cs.getD k 0):=by rw[Kd,JX g];rfl
 obtain⟨l,q⟩:=hB.col g;unfold cE
 dsimp only
 refine br (am (bB (ax (ae rfl (ae (dq rfl rfl (cT (d:= .int (cs.getD k 0:Int)) (by rw[J9,J9,i];rfl))) (ae ?_ rfl))) (HF e l q (Kl (fX (KA i)) j))) ⟨rfl,rfl⟩));have h:=bS (nv:=1) (b_:=[3]) (it:=fA (aB 2)) (tg:=jn 0) (f:=f2 qv (aB 0) (aB 1)) (δ:=[on (tN r),on (nL cs),on (pq B),on (.int (k:Int))]) (β:=β) B (λb=>D.lst (b.map pN)) (λb=>pN (b.getD k (0,0))) (cL rfl (by
  show on _=on _;rw[Kb,Kb];exact La on (K9 λb _=>La D.lst (by show MU pD (MU _ b)=_;rw[Kb];rfl)))) (λb c=>⟨[on (D.lst (b.map pN)),on (.int (k:Int))],rfl,dq rfl rfl (cT (by
   have l:=hB.1.2 b c;rw[J9,fJ (by omega),JX (by omega)];rfl))⟩) (bo (by rw[hB.1.1];have:=e.2.1;omega))
 refine h.trans ?_;unfold mh;rw[Kb];rfl
theorem rK:∀{r v:List Nat},j2 v r->(r.zip v).map (λp=>D.int ((p.1:Int)-(p.2:Int)))=(nI (less r v)).map D.int
 |[],[],_=>rfl
 |x::r,y::v,h=>by
  have e:=rK h.2;have b:=h.1;show _::_=D.int ((x-y:Nat):Int)::(nI (less r v)).map D.int;rw[<-e];show D.int ((x:Int)-(y:Int))::_=_;rw[show(x:Int)-(y:Int)=((x-y:Nat):Int) by omega];rfl
 |[],_::_,h=>h.elim
 |_::_,[],h=>h.elim
theorem CC{r v:List Nat}(h:j2 v r)(b:r.length<=4):(dU K a).1 [tN r,tN v] β=on (.ok (tN (less r v)),β):=by
 unfold dU
 dsimp only
 refine br (am (bB (ak (ae (x:= .lst ((nI (less r v)).map D.int)) ?_ rfl) rfl) ⟨rfl,rfl⟩));rw[<-rK h];refine bS (r.zip v) (λp=>D.tup [.int (p.1:Int),.int (p.2:Int)]) _ ?_ (λp _=>⟨[on (.int (p.1:Int)),on (.int (p.2:Int))],rfl,rfl⟩) (bo (by rw[Os];omega));rw[<-gJ (λx:Nat=>D.int (x:Int)) (λx:Nat=>D.int (x:Int))];refine mr (x:=tN r) (y:=tN v) rfl rfl ?_ ?_
 .show on _=on _
  rw[Kb];rfl
 .show on _=on _
  rw[Kb];rfl
structure UG (rs cs:List Nat):Prop where
 nr:B_ rs
 wd:pr (rs.dropLast.map (·+1))<63
 sm:rs.sum=cs.sum
 c1:1<=cs.length
 c6:cs.length<=6
structure si (K:Kt) (a:Ad) (rs cs:List Nat) (W:Wy) (bd:D):Prop extends UG rs cs where
 ok:y1 cs W
 fl:∀{β:Bg} {k:Nat} {r:List Nat},k<cs.length->B_ r->r.length=rs.length->(cE K a).1 [tN r,nL cs,bd,.int (k:Int)] β=on (.ok (.lst ((W k r).map tN)),β)
theorem si.at{rs cs r:List Nat}{k:Nat}{W:Wy}{b:D}(h:si K a rs cs W b)(c:k<=cs.length)(d:r∈ff W rs k):B_ r/\r.length=rs.length/\r.sum<=40:=by
 have q:=(fE h.ok h.sm k c r d).1;obtain⟨e,f,g,i⟩:=h.nr;have q1:=q.len;have q2:=q.sum;have q3:=q.pr;exact⟨⟨by omega,by omega,by omega,by omega⟩,q1,by omega⟩
abbrev js(W:Wy)(rs:List Nat)(k:Nat):D:= .lst ((ff W rs k).map tN)
theorem zh{rs cs:List Nat}{W:Wy}{b:D}(h:si K a rs cs W b):(eL K a).1 [nL rs,nL cs,b] β=on (.ok (.lst ((Ka (cs.length+1)).map (js W rs))),β):=by
 have c6:=h.c6;unfold eL
 dsimp only
 refine br ?_;refine aJ (d:=js W rs 0) (β1:=β) (ak (ae (ak rfl rfl) rfl) l3) ?_;refine mv (ds:=[js W rs 0]) (β1:=β) rfl (show 1<=Ki by decide) ?_;refine bv (ds:=bn 0 cs.length) (β1:=β) (bI (ae (ak rfl (fW (r:=cs.length) (by rw[JS,JS]))) rfl) (O2 (by omega) (by omega))) (λk δ c=>β=c/\∃e f,δ=[on (.sh (nL rs)),on (.sh (nL cs)),on (.sh (b)),on (.sh (js W rs k)),on (.own ((Ka (k+1)).map (js W rs))),e,f]) ⟨rfl,JT,JT,rfl⟩ ?_ ?_
 .rintro k d δ _ hd ⟨rfl,e,f,rfl⟩
  obtain⟨g,rfl⟩:=mU hd;refine⟨_,rfl,aJ (d:=js W rs (k+1)) (β1:=β) ?_ (my (cs:=(Ka (k+1)).map (js W rs)) (d:=js W rs (k+1)) rfl rfl (Ku (show _<1000 by rw[JS,KD];omega) (by decide)) (am (aJ (d:=js W rs (k+1)) (β1:=β) rfl (aQ ⟨rfl,on (.sh (.int (k:Int))),on (.sh (js W rs (k+1))),?_⟩))))⟩
  .refine jF (ff W rs k) tN (λr=>(W k r).map λv=>tN (less r v)) rfl (λr j=>⟨[on (tN r),JT,on (nL cs),on (b),on (.int (k:Int))],rfl,?_⟩) ?_
   .obtain⟨i,l,_⟩:=h.at (by omega) j
    exact xx _ tN _ (cL (ax rfl (h.fl g i l)) rfl) (λv m=>⟨[on (tN r),on (tN v),on (nL cs),on (b),on (.int (k:Int))],rfl,ax rfl (CC (cR ((h.ok k r).subset m)) i.2.1)⟩)
   .rw[<-tP h.ok h.sm h.nr.1 h.wd g]
    unfold PC;rw[LN];simp only[Kb];rfl
  .rw[Nb (n:=k+1),KC];rfl
 .rintro δ _ ⟨rfl,e,f,rfl⟩
  rw[qX];exact am (bB rfl ⟨rfl,rfl⟩)
theorem mx{i:Nat}{op:D->D->Option D}{f:FD}{c d z:D}{h:G}{δ:Ds}{β β1:Bg}{Q:nj->Bg->Prop}(b:(vw δ).getD i JT=on c)(e:f (vw δ) β=on (.ok d,β1))(g:op c d=on z)(k:Gw h (δ.set i (on (.sh z))) β1 Q):Gw (aF (vJ i op f) h) δ β Q:=ci (by unfold vJ;simp only[b,e,g,Md]) k
theorem w5{m i:Nat}{d:D}(h:(bn 2 m)[i]?=on d):i<m/\d= .int ((i+2:Nat):Int):=by
 obtain⟨x,b,rfl⟩:=bX (f:=λ(i:Nat)=>D.int (2+(i:Int))) (xs:=Ka m) h;have c:=(Kc.mp b).1;rw[KD]at c;rw[Li c]at b;cases b;exact⟨c,by congr 1;omega⟩
theorem wY(lo:Int)(m:Nat):(bn lo m).length=m:=by unfold bn;rw[JS,KD]
theorem Us{n:Nat}(h:n<=2^11):n<2^1000:=db h (by decide)
theorem uj(n:Nat):dk (n-1+1)=dk n:=by cases n<;>rfl
theorem uh{n:Nat}(h:n<=40):(iJ K a).1 [.int (n:Int)] β=on (.ok (.int ((dk n:Nat):Int)),β):=by
 unfold iJ
 dsimp only
 refine br ?_;refine aJ (d:= .int 1) (β1:=β) rfl ?_;refine bv (ds:=bn 2 (n-1)) (β1:=β) (bI (ae rfl (ae (dq rfl rfl rfl) rfl)) (WN (by omega))) (λi δ b=>β=b/\∃c,δ=[on (.sh (.int (n:Int))),on (.sh (.int ((dk (i+1):Nat):Int))),c]) ⟨rfl,JT,rfl⟩ ?_ ?_
 .rintro i d δ _ hd ⟨rfl,c,rfl⟩
  obtain⟨e,rfl⟩:=w5 hd;exact⟨_,rfl,am (mx rfl rfl (ox (db (i8 (by omega)) (by decide)) (Us (by omega))) (aQ ⟨rfl,_,rfl⟩))⟩
 .rintro δ _ ⟨rfl,c,rfl⟩
  rw[wY,uj];exact am (bB rfl ⟨rfl,rfl⟩)
theorem rJ{n:Nat}(h:n<=40):(gx K a).1 [.int (n:Int)] β=on (.ok (.int ((dk n:Nat):Int)),β):=by
 unfold gx
 dsimp only
 refine br ?_;refine aJ (d:= .int 1) (β1:=β) rfl ?_;refine bv (ds:=bn 2 (n-1)) (β1:=β) (bI (ae rfl (ae (dq rfl rfl rfl) rfl)) (WN (by omega))) (λi δ b=>β=b/\∃c,δ=[on (.sh (.int (n:Int))),on (.sh (.int ((dk (i+1):Nat):Int))),c]) ⟨rfl,JT,rfl⟩ ?_ ?_
 .rintro i d δ _ hd ⟨rfl,c,rfl⟩
  obtain⟨e,rfl⟩:=w5 hd;exact⟨_,rfl,am (aJ (dq rfl rfl (ox (db (i8 (by omega)) (by decide)) (Us (by omega)))) (aQ ⟨rfl,_,rfl⟩))⟩
 .rintro δ _ ⟨rfl,c,rfl⟩
  rw[wY,uj];exact am (bB rfl ⟨rfl,rfl⟩)
def E_(l:List Nat):Nat:=dk l.sum/pr (l.map dk)
theorem IH{l:List Nat}{d:D}(h:Sq l d):mF [d]=on (.int ((l.sum:Nat):Int)):=by
 rw[<-m5];rcases h with rfl|rfl
 .exact Gr _
 .exact Gq _
theorem j8(l:List Nat):ig [nL l]=on (.int ((l.sum:Nat):Int)):=by rw[<-m5];exact kQ _
theorem qq{l:List Nat}{i n:Nat}(h:l.sum<=40)(hn:l[i]?=on n):n<=40:=Kl (fX (KA hn)) h
theorem DF{l:List Nat}{cd:D}(hs:Sq l cd)(h:l.sum<=40):(q8 K a).1 [cd] β=on (.ok (.int ((E_ l:Nat):Int)),β):=by
 unfold q8
 dsimp only
 refine br ?_;refine bv (ds:=(nI l).map D.int) (β1:=β) (cL rfl hs.seq) (λi δ c=>β=c/\∃b,δ=[on (.sh cd),b,JT]) ⟨rfl,JT,rfl⟩ ?_ ?_
 .rintro i d δ _ hd ⟨rfl,b,rfl⟩
  obtain⟨n,hn,rfl⟩:=kZ hd;exact⟨_,rfl,am (eV (β1:=β) (k_ (dq rfl rfl (by show on (D.bl (decide ((n:Int)<0)))=_;rw[K0 (by omega)]))) (cj (aQ ⟨rfl,_,rfl⟩)))⟩
 rintro δ _ ⟨rfl,b,rfl⟩;refine aJ (d:= .int ((dk l.sum:Nat):Int)) (β1:=β) (ax (ae (ak rfl (IH hs)) rfl) (uh h)) ?_;refine bv (ds:=(nI l).map D.int) (β1:=β) (cL rfl hs.seq) (λi δ c=>β=c/\∃b,δ=[on (.sh cd),b,on (.sh (.int ((dk l.sum/pr ((l.take i).map dk):Nat):Int)))]) ⟨rfl,b,by rw[PY,NF,GV,Nat.div_one];rfl⟩ ?_ ?_
 .rintro i d δ _ hd ⟨rfl,b,rfl⟩
  obtain⟨n,hn,rfl⟩:=kZ hd;refine⟨_,rfl,am (mx rfl (ax rfl (uh (qq h hn))) (CU (i7 n) (db (i8 (qq h hn)) (by decide))) (aQ ⟨rfl,on (.sh (.int (n:Int))),?_⟩))⟩;rw[iY hn,RM];rfl
 .rintro δ _ ⟨rfl,b,rfl⟩
  rw[rq,Lz];exact am (bB rfl ⟨rfl,rfl⟩)
theorem ui{l:List Nat}{i:Nat}(h:l.sum<=40)(c:l.length<=4):pr ((l.take i).map dk)<=2^640:=by
 refine Kl (Ja (m:=160) λx b=>?_) (PZ (by decide) ?_)
 .obtain⟨n,hn,rfl⟩:=J5.mp b
  exact i8 (Kl (fX (Sh hn)) h)
 .rw[JS,Lk];omega
theorem zo{l:List Nat}(h:l.sum<=40)(e:l.length<=4):(lT K a).1 [nL l] β=on (.ok (.int ((E_ l:Nat):Int)),β):=by
 unfold lT
 dsimp only
 refine br ?_;refine aJ (d:= .int 1) (β1:=β) rfl ?_;refine bv (ds:=(nI l).map D.int) (β1:=β) rfl (λi δ b=>β=b/\∃c,δ=[on (.sh (nL l)),on (.sh (.int ((pr ((l.take i).map dk):Nat):Int))),c]) ⟨rfl,JT,rfl⟩ ?_ ?_
 .rintro i d δ _ hd ⟨rfl,c,rfl⟩
  obtain⟨n,hn,rfl⟩:=kZ hd;refine⟨_,rfl,am (aJ (dq rfl (ax rfl (rJ (qq h hn))) (ox (db (ui h e) (by decide)) (db (i8 (qq h hn)) (by decide)))) (aQ ⟨rfl,on (.sh (.int (n:Int))),?_⟩))⟩;rw[iY hn];rfl
 .rintro δ _ ⟨rfl,c,rfl⟩
  rw[rq,Lz];have f:=ui (i:=l.length) h e;rw[Lz]at f;exact am (bB (dq (ax (ae (ak rfl (j8 l)) rfl) (rJ h)) rfl (CU (q9 λx g=>by obtain⟨n,_,rfl⟩:=J5.mp g;exact i7 n) (db f (by decide)))) ⟨rfl,rfl⟩)
theorem qz{l:List Nat}(h:l.sum<=40):E_ l<=2^160:=Kl (QV _ _) (i8 h)
theorem qy(l:List Nat):E_ l=mu l:=Hf l
theorem vd{l:List Nat}(h:l.sum<=40):mu l<=2^160:=by rw[<-qy];exact qz h
theorem pX{α:Type}{l:List α}{i:Nat}{x:α}(f:α->Nat)(h:l[i]?=on x):L2.Nt.sm (l.take (i+1)) f=L2.Nt.sm (l.take i) f+f x:=by
 rw[Tp,h,qM];rfl
abbrev cv(W:Wy)(m k:Nat)(r:List Nat):D:= .tup [.int ((o1 W (m-k) k r:Nat):Int),.int ((ri W (m-k) k r:Nat):Int)]
abbrev p0(W:Wy)(rs:List Nat)(m k:Nat):D:= .dct JZ ((ff W rs k).map λr=>((0:Int),nI r)) ((ff W rs k).map (cv W m k))
theorem xL{f:List Nat->D}{u:List Nat}:∀{L:List (List Nat)},u∈L->H_ (L.map λr=>((0:Int),nI r)) (L.map f) (0,nI u)=on (f u)
 |r::L,h=>by
  unfold H_;rw[Kv,Kv,MD,M9];by_cases q:r=u
  .rw[q,Km rfl];rfl
  .rw[K0 λe=>q (j9 (N2.mp e).2)]
   exact xL ((Kk.mp h).resolve_left λe=>q e.symm)
theorem HK{W:Wy}{rs u:List Nat}{m k:Nat}(h:u∈ff W rs k):vR (p0 W rs m k) (tN u)=on (cv W m k u):=by
 show(iM JZ (dK JZ (0,nI u))).bind _=_;rw[i6 λ_=>rfl];exact xL h
theorem va{rs cs r:List Nat}{W:Wy}{q:D}{k:Nat}(h:si K a rs cs W q)(o:k<cs.length)(p:r∈ff W rs k):(gv K a).1 [tN r,.lst ((W k r).map tN),p0 W rs cs.length (k+1)] β=on (.ok (cv W cs.length k r),β):=by
 obtain⟨t,y,u⟩:=h.at (by omega) p;unfold gv
 dsimp only
 refine br ?_;refine aJ (d:= .int 0) (β1:=β) rfl (aJ (d:= .int 0) (β1:=β) rfl ?_);refine bv (ds:=(W k r).map tN) (β1:=β) rfl (λi δ e=>β=e/\∃f g j,δ=[on (.sh (tN r)),on (.sh (.lst ((W k r).map tN))),on (.sh (p0 W rs cs.length (k+1))),on (.sh (.int ((L2.Nt.sm ((W k r).take i) λv=>o1 W (cs.length-(k+1)) (k+1) (less r v):Nat):Int))),on (.sh (.int ((L2.Nt.sm ((W k r).take i) λv=>mu v*ri W (cs.length-(k+1)) (k+1) (less r v):Nat):Int))),f,g,j]) ⟨rfl,JT,JT,JT,rfl⟩ ?_ ?_
 .rintro i d δ _ hd ⟨rfl,f,g,j,rfl⟩
  obtain⟨v,l,rfl⟩:=bX hd;have hm:=KA l;have m:less r v∈ff W rs (k+1):=fR.mpr ⟨r,p,v,hm,rfl⟩;have b:=(h.ok k r).subset hm;have hs:=(fE h.ok h.sm (k+1) o _ m).2;have c:v.sum<=40:=Kl (cR b).sum u;have n:=(h.at o m).2.2;refine⟨_,rfl,BS (d:=cv W cs.length (k+1) (less r v)) (β1:=β) (dq rfl (ax rfl (CC (cR b) t.2.1)) (HK m)) rfl (mx rfl rfl rfl (am (mx rfl (dq (ax rfl (DF (.inr rfl) c)) rfl (ox (db (qz c) (by decide)) (db (Kl (nE h.ok _ _ _ (by omega)) (by rw[i9 _ _ hs];exact vd n)) (by decide)))) rfl (aQ ⟨rfl,on (.sh (tN v)),on (.sh (.int ((o1 W (cs.length-(k+1)) (k+1) (less r v):Nat):Int))),on (.sh (.int ((ri W (cs.length-(k+1)) (k+1) (less r v):Nat):Int))),?_⟩))))⟩;rw[pX _ l,pX _ l,qy,PL,PL];rfl
 .rintro δ _ ⟨rfl,f,g,j,rfl⟩
  rw[JS,Lz];refine am (bB (ak rfl d7) ⟨rfl,?_⟩);show M3 (D.tup [.int ((o1 W (cs.length-k) k r:Nat):Int),.int ((ri W (cs.length-k) k r:Nat):Int)])=_;rw[show cs.length-k=cs.length-(k+1)+1 by omega];rfl
theorem uE{f g:FD}{δ:Dn}{k v:D}(b:f δ β=on (.ok k,β))(c:g δ β=on (.ok v,β)):zU f g δ β=on (.ok [.tup [k,v]],β):=by
 unfold zU M.bind;rw[b];simp only[c,M.ret]
theorem rZ{α b:Type}(f:α->b)(l:List α):(l.flatMap λx=>[f x])=l.map f:=by
 induction l with
 |nil=>rfl
 |cons x l ih=>rw[Lh,ih];rfl
theorem gZ{rs cs:List Nat}{W:Wy}{b:D}(h:si K a rs cs W b){k:Nat}(c:k<=cs.length):(ff W rs k).length<=62:=by
 have:=tT h.ok h.sm c;have:=h.wd;omega
theorem WW{rs cs:List Nat}{W:Wy}{b:D}(h:si K a rs cs W b){k:Nat}(c:k<=cs.length){os:List D}(e:os=(ff W rs k).map λr=> .tup [tN r,cv W cs.length k r]):jE JZ os=on (p0 W rs cs.length k):=by
 refine(ut (kvs:=(ff W rs k).map λr=>(((0:Int),nI r),cv W cs.length k r)) ⟨?_,?_,?_,?_⟩).trans ?_
 .rw[e,Kb];rfl
 .rw[Kb];exact xD (λx y q=>j9 (N2.mp q).2) (kg k)
 .rw[JS];exact bo (by have:=gZ h c;omega)
 .rintro p d _
  obtain⟨r,_,rfl⟩:=J5.mp d;rfl
 .rw[Kb,Kb];rfl
theorem IY{n:Nat}(h:n<=1000):pY [.int (n:Int)]=on (c7 n):=by
 simp only[pY];rw[J8 (by simp only[Kz,KV];omega),Lm]
theorem IZ{n i:Nat}{d:D}(h:(c7 n)[i]?=on d):i<n/\d= .int ((n-1-i:Nat):Int):=by
 obtain⟨x,b,rfl⟩:=bX (f:=λ(i:Nat)=>D.int ((n:Int)-1-i)) (xs:=Ka n) h;have c:=(Kc.mp b).1;rw[KD]at c;rw[Li c]at b;cases b;exact⟨c,by congr 1;omega⟩
theorem w4{f:Nat->D}{n k:Nat}(h:k<n):((Ka n).map f)[k]?=on (f k):=by rw[J9,Li h];rfl
theorem yi{f:Nat->D}:∀n j,dz j ((List.range' j n).map f)=(List.range' j n).map λk=> .tup [.int (k:Int),f k]
 |0,_=>rfl
 |n+1,j=>by
  rw[List.range'_succ,Kv,Kv,<-yi n (j+1)];rfl
theorem EC{f:Nat->D}(m:Nat):((Ka (m+1)).map λj=>f (m-j)).reverse=(Ka (m+1)).map f:=NC (by simp) λi b c=>by
 simp only[Sx,JS,KD]at b;simp only[Sg,ND,OL,JS,KD];congr 1;omega
abbrev BD(W:Wy)(rs:List Nat)(m:Nat):List D:=(Ka (m+1)).flatMap λk=>(ff W rs k).map (cv W m k)
abbrev vT(W:Wy)(rs:List Nat)(m:Nat):D:= .dct JW (K_ W rs (m+1)) (BD W rs m)
theorem Xp{rs cs:List Nat}{W:Wy}{b:D}(h:si K a rs cs W b){os:List D}(e:os=(Ka (cs.length+1)).flatMap λ(k:Nat)=>(ff W rs k).map λr=> .tup [.tup [.int (k:Int),tN r],cv W cs.length k r]):jE JW os=on (vT W rs cs.length):=by
 refine(ut (kvs:=(Ka (cs.length+1)).flatMap λ(k:Nat)=>(ff W rs k).map λr=>(((k:Int),nI r),cv W cs.length k r)) ⟨?_,?_,?_,?_⟩).trans ?_
 .rw[e,LN];simp only[Kb];rfl
 .have:=xV (W:=W) (rs:=rs) (cs.length+1)
  unfold K_ at this;rw[LN];simp only[Kb];exact this
 .refine bo (Kl (dX (n:=62) λk c=>?_) (by have:=h.c6;rw[KD];omega))
  have:=Kw.mp c;rw[JS];exact gZ h (by omega)
 .rintro p _ q
  cases q
 .unfold vT K_
  rw[LN,LN];simp only[Kb];rfl
theorem vS{rs cs:List Nat}{W:Wy}{b:D}(h:si K a rs cs W b):(fm K a).1 [nL rs,nL cs,b] β=on (.ok (vT W rs cs.length),β):=by
 have c6:=h.c6;unfold fm
 dsimp only
 refine br ?_;refine aJ (d:= .lst ((Ka (cs.length+1)).map (js W rs))) (β1:=β) (ax rfl (zh h)) ?_;refine aJ (d:= .int (cs.length:Int)) (β1:=β) (ak rfl (fW (by rw[JS,JS]))) ?_;refine aJ (d:=p0 W rs cs.length cs.length) (β1:=β) (jF (ff W rs cs.length) tN (λr=>[.tup [tN r,.tup [.int 1,.int 1]]]) (cL (dq rfl rfl (cT (w4 (by omega)))) rfl) (λr _=>⟨[on (tN r)],rfl,uE rfl (ak rfl d7)⟩) (WW h (J3 _) (by rw[rZ];simp only[cv,N6];rfl))) ?_;refine mv (ds:=[p0 W rs cs.length cs.length]) (β1:=β) rfl (show 1<=Ki by decide) ?_;refine bv (ds:=c7 cs.length) (β1:=β) (bI rfl (IY (by omega))) (λi δ c=>β=c/\∃e f,δ=[on (.sh (nL rs)),on (.sh (nL cs)),on (.sh (b)),on (.sh (.lst ((Ka (cs.length+1)).map (js W rs)))),on (.sh (.int (cs.length:Int))),on (.sh (p0 W rs cs.length (cs.length-i))),on (.own ((Ka (i+1)).map λj=>p0 W rs cs.length (cs.length-j))),e,f]) ⟨rfl,JT,JT,rfl⟩ ?_ ?_
 .rintro i d δ _ hd ⟨rfl,e,f,rfl⟩
  obtain⟨p,rfl⟩:=IZ hd;have l:cs.length-1-i<cs.length:=by omega
  have o:cs.length-i=(cs.length-1-i)+1:=by omega
  have m:cs.length-(i+1)=cs.length-1-i:=by omega
  rw[o];refine⟨_,rfl,aJ (d:=p0 W rs cs.length (cs.length-1-i+1)) (β1:=β) rfl (aJ (d:=p0 W rs cs.length (cs.length-1-i)) (β1:=β) (jF (ff W rs (cs.length-1-i)) tN (λr=>[.tup [tN r,cv W cs.length (cs.length-1-i) r]]) (cL (dq rfl rfl (cT (w4 (by omega)))) rfl) (λr g=>⟨[on (tN r),on (nL cs),on (b),on (.int ((cs.length-1-i:Nat):Int)),on (p0 W rs cs.length (cs.length-1-i+1))],rfl,uE rfl (ax (ae rfl (ae (ax rfl (h.fl l (h.at (by omega) g).1 (h.at (by omega) g).2.1)) rfl)) (va h l g))⟩) (WW h (by omega) (rZ _ _))) (am (my (cs:=(Ka (i+1)).map λj=>p0 W rs cs.length (cs.length-j)) (d:=p0 W rs cs.length (cs.length-1-i)) rfl rfl (Ku (show _<1000 by rw[JS,KD];omega) (by decide)) (aQ ⟨rfl,on (.sh (.int ((cs.length-1-i:Nat):Int))),on (.sh (p0 W rs cs.length (cs.length-1-i+1))),?_⟩))))⟩;rw[Nb (n:=i+1),KC,m];show _=[_,_,_,_,_,_,on (Sl.own (_++[p0 W rs cs.length (cs.length-(i+1))])),_,_];rw[m];rfl
 .rintro δ _ ⟨rfl,e,f,rfl⟩
  rw[show(c7 cs.length).length=cs.length by unfold c7;rw[JS,KD]];refine am (bB (jF (Ka (cs.length+1)) (λk=> .tup [.int (k:Int),p0 W rs cs.length k]) (λ(k:Nat)=>(ff W rs k).map λr=> .tup [.tup [.int (k:Int),tN r],cv W cs.length k r]) (bI (ae (dq (y:= .int (-1)) rfl rfl rfl) rfl) ?_) (λk _=>⟨[on (.int (k:Int)),on (p0 W rs cs.length k),JT,JT],rfl,?_⟩) (Xp h rfl)) ⟨rfl,rfl⟩)
  .show on (dz 0 _)=_
   rw[EC,List.range_eq_range',yi]
  .refine(Jk (ff W rs k) (λr=> .tup [tN r,cv W cs.length k r]) (λr=>[.tup [.tup [.int (k:Int),tN r],cv W cs.length k r]]) ?_ (λr _=>⟨[on (.int (k:Int)),on (p0 W rs cs.length k),on (tN r),on (cv W cs.length k r)],rfl,uE (ak rfl d7) rfl⟩)).trans (by rw[rZ])
   show on (M3 (OD _ _ _),β)=_;rw[List.zipWith_map_left,List.zipWith_map_right,List.zipWith_self];rfl
variable{rs cs:List Nat}
theorem jg{t:Dn->M Bool}{d b h:G}{δ:Ds}{β1:Bg}{c:Bool}{Q:nj->Bg->Prop}(e:t (fw δ) β=on (.ok c,β1))(f:c=JZ)(k:Gw (aF b h) δ β1 Q):Gw (aF (t_ t d b) h) δ β Q:=by
 subst f;exact eV e k
theorem Jd{p:Int×Int}(h:l_ p):(gW K a).1 [pD p] β=on (.ok .non,β):=by
 obtain⟨b,c,e⟩:=h;unfold gW
 dsimp only
 refine br ?_;exact BS (d:=pD p) (β1:=β) rfl rfl (am (jg (uD (k_ (yE rfl rfl rfl rfl))) (by simp;omega) (cj (aQ ⟨rfl,rfl⟩))))
theorem DW{r c:Nat}{b:LP}(k:TZ r c b)(o:r<=1000):(eK K a).1 [kF b,.int (r:Int),.int (c:Int)] β=on (.ok (kF b),β):=by
 unfold eK
 dsimp only
 refine br ?_;refine eV (β1:=β) (k_ (dq rfl rfl rfl)) (cj ?_);have q:d6 1 [2] (fA (aB 0)) (jn 0) (λ_=>M.ret JW) (nS (f2 (iK) (bf jx (ar (aB 0) (aT))) (aB 1))) [on (kF b),on (.int (r:Int)),on (.int (c:Int)),JT,JT] β=on (.ok (.lst (b.map λ_=>D.bl JZ)),β):=
  bS (nv:=1) (b_:=[2]) b (λe=>D.lst (e.map pD)) _ (by show on _=_;rw[Kb];rfl) (λe h=>⟨_,rfl,dq (ak rfl (fW (r:=c) (by rw[JS];exact k.shp.2 e h))) rfl (ne_int.trans (by rw[Km rfl];rfl))⟩) (bo (by rw[k.shp.1];exact o))
 refine jg (uC (k_ (dq (ak rfl (Hj (r:=r) (by rw[JS];exact k.shp.1))) rfl (ne_int.trans (by rw[Km rfl];rfl)))) (uB (ak (ae q rfl) (any_map b λ_=>JZ)) rfl)) (by simp) (cj ?_);refine bv (ds:=(gP b).map D.lst) (β1:=β) rfl (λi δ f=>β=f/\∃m g,δ=[on (.sh (kF b)),on (.sh (.int (r:Int))),on (.sh (.int (c:Int))),m,g]) ⟨rfl,JT,JT,rfl⟩ ?_ ?_
 .rintro i d δ _ hd ⟨rfl,m,g,rfl⟩
  obtain⟨y,t,rfl⟩:=bX hd;obtain⟨e,l,rfl⟩:=bX t;refine⟨_,rfl,am (bv (ds:=e.map pD) (β1:=β) rfl (λj δ f=>β=f/\∃g,δ=[on (.sh (kF b)),on (.sh (.int (r:Int))),on (.sh (.int (c:Int))),on (.sh (.lst (e.map pD))),g]) ⟨rfl,_,rfl⟩ ?_ ?_)⟩
  .rintro j d δ _ hd ⟨rfl,g,rfl⟩
   obtain⟨p,n,rfl⟩:=bX hd;exact⟨_,rfl,am (qA (ax rfl (Jd (k.ok e (KA l) p (KA n)))) (aQ ⟨rfl,_,rfl⟩))⟩
  .rintro δ _ ⟨rfl,g,rfl⟩
   exact aQ ⟨rfl,_,_,rfl⟩
 .rintro δ _ ⟨rfl,m,g,rfl⟩
  exact am (bB (bS (nv:=1) (b_:=[]) (gP b) D.lst D.lst rfl (λx _=>⟨_,rfl,rfl⟩) (bo (by rw[JS,k.shp.1];exact o))) ⟨rfl,rfl⟩)
theorem xy(l:List Nat){n:Nat}{δ:Dn}(b:l.length<=1000)(e:δ.getD n JT=on (nL l)):sf (bf vZ (ar (d6 1 [] (fA (aB n)) (jn 0) (λ_=>M.ret JW) (nS (f2 (Uv) (aB 0) (fC (.int 0))))) (aT))) δ β=on (.ok JZ,β):=by
 have c:=bS (nv:=1) (b_:=[]) (it:=fA (aB n)) (tg:=jn 0) (f:=f2 (Uv) (aB 0) (fC (.int 0))) (δ:=δ) (β:=β) (nI l) D.int (λx=>D.bl (decide (x<0))) (cL (BN e) rfl) (λx _=>⟨_,rfl,rfl⟩) (bo (by rw[JS];exact b));refine uB (ak (ae c rfl) (any_map _ _)) (La on (Tk.mpr λx d=>?_));obtain⟨n,_,rfl⟩:=J5.mp d;simp
theorem kh(l:List Nat):jx [nL l]=on (.int (l.length:Int)):=fW (by rw[JS,JS])
theorem FU(h:UG rs cs):(gU K a).1 [nL rs,nL cs] β=on (.ok .non,β):=by
 obtain⟨b,c,d,e⟩:=h.nr;have c1:=h.c1;have c6:=h.c6;unfold gU
 dsimp only
 refine br ?_;refine jg (uD (k_ (sO rfl (ak rfl (kh rs)) rfl))) (by simp;omega) (cj ?_);refine jg (uD (k_ (sO rfl (ak rfl (kh cs)) rfl))) (by simp;omega) (cj ?_);refine eV (uC (xy rs (by omega) rfl) (xy cs (by omega) rfl)) (cj ?_);refine jg (k_ (dq (ak rfl (j8 rs)) (ak rfl (j8 cs)) ne_int)) (by rw[h.sm];simp) (cj ?_);exact am (jg (k_ (dq (ak rfl (j8 rs)) rfl gt_int)) (by simp;omega) (cj (aQ ⟨rfl,rfl⟩)))
theorem DE(h:B_ rs):(gT K a).1 [nL rs] β=on (.ok .non,β):=by
 obtain⟨g,j,k,e⟩:=h;unfold gT
 dsimp only
 refine br ?_;refine aJ (d:= .int 1) (β1:=β) rfl ?_;refine bv (ds:=(nI rs).map D.int) (β1:=β) rfl (λi δ b=>β=b/\∃c,δ=[on (.sh (nL rs)),on (.sh (.int ((pr ((rs.take i).map (·+1)):Nat):Int))),c]) ⟨rfl,JT,rfl⟩ ?_ ?_
 .rintro i d δ _ hd ⟨rfl,c,rfl⟩
  obtain⟨n,hn,rfl⟩:=kZ hd;have f:=fX (KA hn);have l:=Kl (u4 rs i) e;refine⟨_,rfl,am (mx rfl (dq (z:= .int ((n+1:Nat):Int)) rfl rfl rfl) (ox (Us (by omega)) (Us (by omega))) (aQ ⟨rfl,on (.sh (.int (n:Int))),?_⟩))⟩;rw[iY hn];rfl
 .rintro δ _ ⟨rfl,c,rfl⟩
  rw[rq,Lz];exact am (jg (k_ (dq rfl rfl gt_int)) (by simp;omega) (cj (aQ ⟨rfl,rfl⟩)))
theorem yx{r c:Nat}{B:List (List (Nat×Nat))}(h:ni r c B):ni r c (jG B):=h.map
theorem zv.bnd{r c:Nat}{B:List (List (Nat×Nat))}(h:zv r c B):TZ r c (jG B):=⟨yx h.1,λe f p g=>by
 obtain⟨b,i,rfl⟩:=J5.mp f;obtain⟨d,j,rfl⟩:=J5.mp g;have:=h.2 b i d j;exact⟨by show(0:Int)<=(d.1:Int);omega,by show(d.1:Int)<=(d.2:Int);omega,by show(d.2:Int)<=40;omega⟩⟩
theorem WU(i j:Int):NO (.int i) (.int j)=decide (i=j):=by unfold NO;exact Bool.beq_eq_decide_eq i j
theorem kq{α:Type} [DecidableEq α]{f:α->RQ}(b:∀x y,NO (f x) (f y)=decide (x=y)):∀xs ys:List α,N8 (xs.map f) (ys.map f)=decide (xs=ys)
 |[],[]=>by simp[N8]
 |[],y::ys=>by simp[N8]
 |x::xs,[]=>by simp[N8]
 |x::xs,y::ys=>by
  rw[Kv,Kv,N8,b,kq b xs ys];by_cases h:x=y<;>by_cases q:xs=ys<;>simp[h,q]
theorem lJ{α:Type}{f:α->D}{g:α->RQ}(h:∀x,o0 (f x)=on (g x)):∀l:List α,toPs (l.map f)=on (l.map g)
 |[]=>by simp[toPs]
 |x::l=>by
  rw[Kv,toPs,h x,lJ h l];rfl
theorem yf{x y:D}{p q:RQ}(f:Ua x y=JT)(d:o0 x=on p)(e:o0 y=on q)(b:lh x=JW)(c:lh y=JW):gz x y=on (.bl (NO p q)):=by
 unfold gz kx;unfold lh at b c;rw[d]at b;rw[e]at c;simp only[f,d,e,b,c,Od,K8,Md]
variable{W:Wy}{bd:D}
abbrev R4:=Int×List Int×Int×Int
abbrev rL(p:R4):List D:=[.int p.1,hL p.2.1,.int p.2.2.1,.int p.2.2.2]
abbrev rD(p:R4):D:= .tup (rL p)
abbrev tx(l:List R4):D:= .lst (l.map rD)
def j0(W:Wy)(rs:List Nat)(m:Nat):List (Nat×List Nat):=(Ka (m+1)).flatMap λk=>(ff W rs k).map λr=>(k,r)
abbrev z_(W:Wy)(m:Nat)(p:Nat×List Nat):R4:=((p.1:Int),nI p.2,((o1 W (m-p.1) p.1 p.2:Nat):Int),((ri W (m-p.1) p.1 p.2:Nat):Int))
theorem Jo(m:Nat):K_ W rs (m+1)=(j0 W rs m).map λp=>((p.1:Int),nI p.2):=by
 unfold K_ j0;rw[LN];simp only[Kb];rfl
theorem Jm(m:Nat):BD W rs m=(j0 W rs m).map λp=>cv W m p.1 p.2:=by
 unfold j0;rw[LN];simp only[Kb];rfl
theorem xC{m:Nat}{p:Nat×List Nat}:p∈j0 W rs m↔p.1<=m/\p.2∈ff W rs p.1:=by
 constructor
 .intro h
  obtain⟨k,c,b⟩:=Lx.mp h;obtain⟨r,d,rfl⟩:=J5.mp b;exact⟨by have:=Kw.mp c;show k<=m;omega,d⟩
 .rintro⟨e,b⟩
  exact Lx.mpr ⟨p.1,Kw.mpr (by omega),J5.mpr ⟨p.2,b,rfl⟩⟩
theorem v8{α:Type}{f:d4->D->D}{g:α->d4}{u:α->D}:∀l:List α,OD f (l.map g) (l.map u)=l.map λx=>f (g x) (u x)
 |[]=>rfl
 |x::l=>La (_::·) (v8 l)
theorem UO{x y z v:D}:dW [x,y,z,v]=on (.tup [x,y,z,v]):=by
 unfold dW;rw[J8 (bo (by show 4<=1000;decide))]
theorem y0(hn:(j0 W rs cs.length).length<=1000):(gQ K a).1 [vT W rs cs.length] β=on (.ok (tx ((j0 W rs cs.length).map (z_ W cs.length))),β):=by
 unfold gQ
 dsimp only
 refine br (am (bB (d:= .lst ((j0 W rs cs.length).map λp=>rD (z_ W cs.length p))) (β1:=β) (bS (j0 W rs cs.length) (λp=> .tup [.tup [.int (p.1:Int),tN p.2],cv W cs.length p.1 p.2]) _ ?_ (λp _=>⟨[on (.int (p.1:Int)),on (tN p.2),on (.int ((o1 W (cs.length-p.1) p.1 p.2:Nat):Int)),on (.int ((ri W (cs.length-p.1) p.1 p.2:Nat):Int))],rfl,ak rfl UO⟩) (bo hn)) ⟨rfl,by show M3 (D.lst _)=M3 (D.lst _);rw[Kb];rfl⟩));show on (M3 (OD _ (K_ W rs (cs.length+1)) (BD W rs cs.length)),β)=_;rw[Jo,Jm,v8];rfl
theorem U7(p:R4):T4 2 (rD p):=λx hx=>by
 rcases Kk.mp hx with rfl|hx
 .trivial
 rcases Kk.mp hx with rfl|hx
 .intro z b
  obtain⟨i,_,rfl⟩:=J5.mp b;trivial
 rcases Kk.mp hx with rfl|hx
 .trivial
 cases KN.mp hx;trivial
theorem ye(l m:List R4):gz (tx l) (tx m)=on (.bl (decide (l=m))):=by
 have d:∀u:List Int,toPs (u.map D.int)=on (u.map .int):=λu=>lJ (λx=>rfl) u;have e:∀p:R4,o0 (rD p)=on (.tuple [.int p.1,.tuple (p.2.1.map .int),.int p.2.2.1,.int p.2.2.2]):=λp=>by
  simp only[rD,rL,hL,o0,toPs,d,Md]
 have b:∀l:List R4,o0 (tx l)=on (.list (l.map λp=> .tuple [.int p.1,.tuple (p.2.1.map .int),.int p.2.2.1,.int p.2.2.2])):=λl=>by
  unfold tx o0;rw[lJ e];rfl
 have c:∀l:List R4,lh (tx l)=JW:=λl=>zQ 3 (λx f=>by
  obtain⟨p,_,rfl⟩:=J5.mp f;exact U7 p) (by decide)
 rw[yf rfl (b l) (b m) (c l) (c m),NO,kq λp q=>?_];rw[NO];simp only[N8,WU,Bool.and_true];rw[NO,kq WU];obtain⟨a1,b1,c1,d1⟩:=p;obtain⟨a2,b2,c2,d2⟩:=q;by_cases g:a1=a2<;>by_cases h:b1=b2<;>by_cases i:c1=c2<;>by_cases j:d1=d2<;>simp[g,h,i,j]
theorem zI{B:List (List (Nat×Nat))}(h:UG rs cs)(hB:zv rs.length cs.length B)(hn:(j0 (wB B cs) rs cs.length).length<=1000)(l:List R4):(iG K a).1 [nL rs,nL cs,tx l,pq B] β=on (.ok (.bl (decide (l=(j0 (wB B cs) rs cs.length).map (z_ (wB B cs) cs.length)))),β):=by
 have b:si K a rs cs (wB B cs) (pq B):=⟨h,uH B cs,λ{β k r} c d e=>uw d (by rw[e];exact hB) (by rw[<-h.sm];exact h.nr.2.2.1) c⟩;have f:(d9 K a).1 [nL rs,nL cs,pq B] β=on (.ok (pq B),β):=by
  unfold d9
  dsimp only
  refine br ?_;exact qA (ax rfl (FU h)) (aJ (ax (ae rfl (ae (ak rfl (kh rs)) (ae (ak rfl (kh cs)) rfl))) (DW hB.bnd (by have:=h.nr.2.1;omega))) (qA (ax rfl (DE h.nr)) (am (bB rfl ⟨rfl,rfl⟩))))
 unfold iG
 dsimp only
 refine br ?_;exact aJ (ax rfl f) (am (bB (dq rfl (ax (ae (ax rfl (vS b)) rfl) (y0 hn)) (ye _ _)) ⟨rfl,rfl⟩))
theorem JQ{l:List Nat}{c:Nat}(h:l.length<=100):iO (nL l) (.lst [.int (c:Int)])=on (nL (l++[c])):=by
 refine(jd (by rw[JS,JS,KQ];omega)).trans ?_;show _=on (D.lst (MU D.int (MU _ (l++[c]))));rw[KC,KC];rfl
abbrev T9(ps:List (Nat×Nat))(x:D)(c:Nat)(f:D)(b d e g h:Option Sl):Ds:=[on (.sh x),on (.sh (.int (c:Int))),on (.sh (.lst (ps.map pN))),on (.sh f),b,d,e,g,h]
theorem I0{lo:Nat}{n i:Nat}{d:D}(h:((Ka n).map λi=>D.int ((lo+i:Nat):Int))[i]?=on d):i<n/\d= .int ((lo+i:Nat):Int):=by
 obtain⟨x,b,rfl⟩:=bX h;have c:=(Kc.mp b).1;rw[KD]at c;rw[Li c]at b;cases b;exact⟨c,rfl⟩
theorem dQ{α:Type}{l:List α}{i:Nat}{x:α}(h:l[i]?=on x):l.take (i+1)=l.take i++[x]:=by rw[Tp,h];rfl
theorem oz{ps:List (Nat×Nat)}{x:D}{r:List Nat}{c:Nat}(J:c5 x=on ((nI r).map D.int))(L:B_ r)(A:ps.length=r.length)(N:∀p∈ps,p.1<=40/\p.2<=40):(iX K a).1 [x,.int (c:Int),.lst (ps.map pN)] β=on (.ok (.lst ((vB ps r c).map nL)),β):=by
 obtain⟨_,U,hs,O⟩:=L;have n:∀k,k<=r.length->(lQ ps r k).length<=500:=λk B=>Kl (ub k B) (Kl (u4 r k) O);unfold iX
 dsimp only
 refine br ?_;refine aJ (d:= .lst ((lQ ps r 0).map nL)) (β1:=β) (ak (ae (ak rfl Hh) rfl) l3) ?_;refine bv (ds:=(r.zip ps).map λq=> .tup [.int (q.1:Int),pN q.2]) (β1:=β) ?_ (λk δ g=>β=g/\∃C F o m b,δ=T9 ps x c (.lst ((lQ ps r k).map nL)) C F o m b) ⟨rfl,JT,JT,JT,JT,JT,rfl⟩ ?_ ?_
 .rw[<-gJ (λx:Nat=>D.int (x:Int)) pN]
  exact mr (x:=x) (y:= .lst (ps.map pN)) rfl rfl (J.trans (by rw[Kb];rfl)) rfl
 .rintro k d δ _ hd ⟨rfl,C,F,o,m,b,rfl⟩
  obtain⟨q,I,rfl⟩:=bX hd;have B:k<r.length:=by
   have:=(Kc.mp I).1;rw[Os]at this;omega
  have t:k<ps.length:=by omega
  obtain rfl:q=(r[k],ps[k]):=by
   have:=(Kc.mp I).2;rw[List.getElem_zip]at this;exact this.symm
  have b40:=N _ (K5 t);have Q:=fX (K5 B);refine⟨T9 ps x c (.lst ((lQ ps r k).map nL)) (on (.sh (.int (r[k]:Int)))) (on (.sh (pN ps[k]))) o m b,rfl,?_⟩;refine mv (ds:=[]) (β1:=β) rfl (Lq _) ?_;have step:∀u:List Nat,((Ka (Np ps[k].2 r[k]+1-ps[k].1)).map λi=>u++[ps[k].1+i]).length<=41:=λu=>by rw[JS,KD];omega
  refine bv (ds:=(lQ ps r k).map nL) (β1:=β) rfl (λi δ g=>β=g/\∃m b,δ=T9 ps x c (.lst ((lQ ps r k).map nL)) (on (.sh (.int (r[k]:Int)))) (on (.sh (pN ps[k]))) (on (.own ((((lQ ps r k).take i).flatMap λu=>(Ka (Np ps[k].2 r[k]+1-ps[k].1)).map λj=>u++[ps[k].1+j]).map nL))) m b) ⟨rfl,m,b,rfl⟩ ?_ ?_
  .rintro i d δ _ hd ⟨rfl,m,b,rfl⟩
   obtain⟨u,H,rfl⟩:=bX hd;have X:=ya k u (KA H);have Y:=(Kc.mp H).1;have Z:=n k (by omega);have hN:(((lQ ps r k).take i).flatMap λu=>(Ka (Np ps[k].2 r[k]+1-ps[k].1)).map λj=>u++[ps[k].1+j]).length<=500*41:=Kl (dX λu _=>step u) (Op _ (by rw[Lk];omega));refine⟨_,rfl,am (bv (ds:=(Ka (Np ps[k].2 r[k]+1-ps[k].1)).map λj=>D.int ((ps[k].1+j:Nat):Int)) (β1:=β) (bI (as:=[.int (ps[k].1:Int),.int ((Np ps[k].2 r[k]:Nat)+1)]) (ae (dq rfl rfl Hr) (ae (dq (x:= .int ((Np ps[k].2 r[k]:Nat):Int)) (ak (ae (dq rfl rfl Hq) (ae rfl rfl)) (zk.trans ?_)) rfl rfl) rfl)) ((GL (by omega) (by omega) (by omega)).trans ?_)) (λj δ g=>β=g/\∃b,δ=T9 ps x c (.lst ((lQ ps r k).map nL)) (on (.sh (.int (r[k]:Int)))) (on (.sh (pN ps[k]))) (on (.own ((((lQ ps r k).take i).flatMap λu=>(Ka (Np ps[k].2 r[k]+1-ps[k].1)).map λj=>u++[ps[k].1+j]).map nL++((Ka (Np ps[k].2 r[k]+1-ps[k].1)).take j).map λj=>nL (u++[ps[k].1+j])))) (on (.sh (nL u))) b) ⟨rfl,b,by rw[PY,NF,KW];rfl⟩ ?_ ?_)⟩
   .rw[show Np (ps[k].2:Int) (r[k]:Int)=((Np ps[k].2 r[k]:Nat):Int) by omega]
   .rw[show((Np ps[k].2 r[k]:Nat)+1-(ps[k].1:Int):Int).toNat=Np ps[k].2 r[k]+1-ps[k].1 by omega]
   .rintro j d δ _ hd ⟨rfl,b,rfl⟩
    obtain⟨R,rfl⟩:=I0 hd;have e:(Ka (Np ps[k].2 r[k]+1-ps[k].1))[j]?=on j:=Li R;refine⟨_,rfl,am (my (d:=nL (u++[ps[k].1+j])) rfl (ae (dq rfl (ak rfl l3) (JQ (by omega))) rfl) (Ku (show _<50000 by rw[Kg,JS,JS,Lk,KD];omega) (by decide)) (aQ ⟨rfl,on (.sh (.int ((ps[k].1+j:Nat):Int))),?_⟩))⟩;rw[dQ e,KC];show[_,_,_,_,_,_,on (Sl.own (_++_++[_])),_,_]=[_,_,_,_,_,_,on (Sl.own (_++(_++[_]))),_,_];rw[Lg]
   .rintro δ _ ⟨rfl,b,rfl⟩
    rw[JS,KD];refine aQ ⟨rfl,on (.sh (nL u)),b,?_⟩;rw[dQ H,LU,KC,Lh,Oa,KW,Kb,LO (l:=Ka (Np ps[k].2 r[k]+1-ps[k].1)) (by rw[KD];exact J3 _)];rfl
  .rintro δ _ ⟨rfl,m,b,rfl⟩
   rw[JS,Lz];refine mw (am (aJ (d:= .lst ((lQ ps r (k+1)).map nL)) (β1:=β) ?_ (aQ ⟨rfl,_,_,_,_,_,rfl⟩)));have T:lQ ps r (k+1)=(lQ ps r k).flatMap λu=>(Ka (Np ps[k].2 r[k]+1-ps[k].1)).map λi=>u++[ps[k].1+i]:=by
    show RG _ _=_;rw[fJ B,fJ t]
   rw[T];rfl
 .rintro δ _ ⟨rfl,C,F,o,m,b,rfl⟩
  rw[JS,Os,A,Nat.min_self,uc A];have h:=sC (nv:=1) (b_:=[1]) (it:=fA (aB 3)) (tg:=jn 0) (tt:=fB (f2 (gz) (bf ig (ar (aB 0) (aT))) (aB 1))) (f:=aB 0) (δ:=fw (T9 ps x c (.lst ((A_ ps r).map nL)) C F o m b)) (β:=β) (A_ ps r) nL nL (λv=>decide (v.sum=c)) rfl (λv _=>⟨[on (nL v),on (.int (c:Int))],rfl,k_ (dq (ak rfl (j8 v)) rfl (eq_int.trans (by rw[decide_eq_decide.mpr (show((v.sum:Nat):Int)=(c:Int)↔v.sum=c by omega)]))),λ_=>rfl⟩) (bo (by rw[<-uc A];have:=n r.length (J3 _);omega));refine am (bB h ⟨rfl,?_⟩);rw[yu A]
theorem l4{x:D}{r v:List Nat}(b:c5 x=on ((nI r).map D.int))(h:j2 v r)(c:r.length<=4):(gR K a).1 [x,nL v] β=on (.ok (nL (less r v)),β):=by
 unfold gR
 dsimp only
 refine br (am (bB ?_ ⟨rfl,rfl⟩));unfold nL;rw[<-rK h];refine bS (r.zip v) (λp=>D.tup [.int (p.1:Int),.int (p.2:Int)]) _ ?_ (λp _=>⟨[on (.int (p.1:Int)),on (.int (p.2:Int))],rfl,rfl⟩) (bo (by rw[Os];omega));rw[<-gJ (λx:Nat=>D.int (x:Int)) (λx:Nat=>D.int (x:Int))];refine mr (x:=x) (y:=nL v) rfl rfl (b.trans (by rw[Kb];rfl)) ?_
 .show on _=on _
  rw[Kb];rfl
theorem oQ{r c k n i:Nat}{B:List (List (Nat×Nat))}(hB:zv r c B)(j:r<=4)(m:k<c){δ:Dn}(e:δ.getD i JT=on (pq B))(g:lg 1 [n] δ=[JT,on (.int (k:Int))]):d6 1 [n] (fA (aB i)) (jn 0) (λ_=>M.ret JW) (nS (f2 qv (aB 0) (aB 1))) δ β=on (.ok (.lst ((mh B k).map pN)),β):=by
 have h:=bS (nv:=1) (b_:=[n]) (it:=fA (aB i)) (tg:=jn 0) (f:=f2 qv (aB 0) (aB 1)) (δ:=δ) (β:=β) B (λb=>D.lst (b.map pN)) (λb=>pN (b.getD k (0,0))) (cL (BN e) (by
  show on _=on _;rw[Kb,Kb];exact La on (K9 λb _=>La D.lst (by show MU pD (MU _ b)=_;rw[Kb];rfl)))) (λb d=>⟨[on (D.lst (b.map pN)),on (.int (k:Int))],by rw[g];rfl,dq rfl rfl (cT (by
   have l:=hB.1.2 b d;rw[J9,fJ (by omega),JX (by omega)];rfl))⟩) (bo (by rw[hB.1.1];omega))
 refine h.trans ?_;unfold mh;rw[Kb];rfl
theorem Va{rs:List Nat}(h:rs.sum<=8):mu rs<=40320:=by
 have b:mu rs<=dk rs.sum:=by
  rw[<-gY];exact Pp _ (ou rs)
 exact Kl b (Kl (se h) (by decide))
noncomputable abbrev eQ(q:List (List Nat)×List Nat):D:= .tup [.lst (q.1.map nL),nL q.2]
abbrev Vd(rs cs:List Nat)(B:List (List (Nat×Nat)))(f:D)(b c d e g h:Option Sl):Ds:=[on (.sh (nL rs)),on (.sh (nL cs)),on (.sh (pq B)),on (.sh f),b,c,d,e,g,h]
abbrev Ut(W:Wy)(k:Nat)(q:List (List Nat)×List Nat):List (List (List Nat)×List Nat):=(W k q.2).map λv=>(q.1++[v],less q.2 v)
theorem vj{rs cs:List Nat}{B:List (List (Nat×Nat))}(nr:B_ rs)(hs:rs.sum=cs.sum)(c6:cs.length<=6)(C:rs.sum<=8)(hB:zv rs.length cs.length B):(iH K a).1 [nL rs,nL cs,pq B] β=on (.ok (.lst ((lst (wB B cs) rs cs.length).map λq=> .lst (q.1.map nL))),β):=by
 obtain⟨O,F,Q,R⟩:=nr;have m:=uH B cs;have h:∀k,k<=cs.length->(lst (wB B cs) rs k).length<=40320:=λk l=>Kl (EX m hs l) (Va C);unfold iH
 dsimp only
 refine br ?_;refine aJ (d:= .lst ((lst (wB B cs) rs 0).map eQ)) (β1:=β) (ak (ae (ak (ae (ak rfl Hh) (ae (ak rfl rfl) rfl)) d7) rfl) l3) ?_;refine bv (ds:=dz 0 ((nI cs).map D.int)) (β1:=β) (bI rfl rfl) (λk δ e=>β=e/\∃o p r f g b,δ=Vd rs cs B (.lst ((lst (wB B cs) rs k).map eQ)) o p r f g b) ⟨rfl,JT,JT,JT,JT,JT,JT,rfl⟩ ?_ ?_
 .rintro k d δ _ hd ⟨rfl,o,p,r,f,g,b,rfl⟩
  obtain⟨x,H,rfl⟩:=ul hd;obtain⟨n,hn,rfl⟩:=kZ H;have l:=(Kc.mp hn).1;have I:cs.getD k 0=n:=by rw[Kd,hn];rfl
  obtain⟨cl,J⟩:=hB.col l;refine⟨_,rfl,mv (ds:=[]) (β1:=β) rfl (Lq _) ?_⟩;have y:∀i,(((lst (wB B cs) rs k).take i).flatMap (Ut (wB B cs) k)).length<=40320:=λi=>by
   refine Kl ?_ (h (k+1) l);show _<=((lst (wB B cs) rs k).flatMap (Ut (wB B cs) k)).length
   conv=>rhs;rw[<-MG i (lst (wB B cs) rs k),LU,Kg]
   exact MY _ _
  refine bv (ds:=(lst (wB B cs) rs k).map eQ) (β1:=β) rfl (λi δ e=>β=e/\∃f g b,δ=Vd rs cs B (.lst ((lst (wB B cs) rs k).map eQ)) (on (.sh (.int (k:Int)))) (on (.sh (.int (n:Int)))) (on (.own ((((lst (wB B cs) rs k).take i).flatMap (Ut (wB B cs) k)).map eQ))) f g b) ⟨rfl,f,g,b,rfl⟩ ?_ ?_
  .rintro i d δ _ hd ⟨rfl,f,g,b,rfl⟩
   obtain⟨q,t,rfl⟩:=bX hd;have hm:=KA t;obtain⟨q1,q2,q3⟩:=rG m hs k (by omega) q hm;have L:=q1.len;have sq:=q1.sum;have T:=q1.pr;have N:B_ q.2:=⟨by omega,by omega,by omega,by omega⟩;have U:(wB B cs k q.2).length<=40320:=by
    have:=y (i+1);rw[dQ t,LU,Lh,Oa,KW,Kg,JS]at this;omega
   refine⟨_,rfl,am (bv (ds:=(wB B cs k q.2).map nL) (β1:=β) (cL (ax (ae rfl (ae rfl (ae (oQ hB F l rfl rfl) rfl))) (oz (c:=n) rfl N (by rw[cl,L]) J)) (by unfold wB;rw[I];rfl)) (λj δ e=>β=e/\∃b,δ=Vd rs cs B (.lst ((lst (wB B cs) rs k).map eQ)) (on (.sh (.int (k:Int)))) (on (.sh (.int (n:Int)))) (on (.own ((((lst (wB B cs) rs k).take i).flatMap (Ut (wB B cs) k)).map eQ++((wB B cs k q.2).take j).map λv=>eQ (q.1++[v],less q.2 v)))) (on (.sh (.lst (q.1.map nL)))) (on (.sh (nL q.2))) b) ⟨rfl,b,by rw[PY,NF,KW];rfl⟩ ?_ ?_)⟩
   .rintro j d δ _ hd ⟨rfl,b,rfl⟩
    obtain⟨v,A,rfl⟩:=bX hd;have u:=(m k q.2).subset (KA A);have X:=y i;refine⟨_,rfl,am (my (d:=eQ (q.1++[v],less q.2 v)) rfl (ae (ak (ae (dq rfl (ak rfl l3) ((jd (by rw[JS,KQ];omega)).trans ?_)) (ae (ax rfl (l4 rfl (cR u) (by omega))) rfl)) d7) rfl) (Ku (show _<100000 by rw[Kg,JS,JS,Lk];omega) (by decide)) (aQ ⟨rfl,on (.sh (nL v)),?_⟩))⟩
    .rw[KC];rfl
    .rw[dQ A,KC]
     show[_,_,_,_,_,_,on (Sl.own (_++_++[_])),_,_,_]=[_,_,_,_,_,_,on (Sl.own (_++(_++[_]))),_,_,_];rw[Lg]
   .rintro δ _ ⟨rfl,b,rfl⟩
    rw[JS,Lz];refine aQ ⟨rfl,on (.sh (.lst (q.1.map nL))),on (.sh (nL q.2)),b,?_⟩;rw[dQ t,LU,KC,Lh,Oa,KW,Kb];rfl
  .rintro δ _ ⟨rfl,f,g,b,rfl⟩
   rw[JS,Lz];exact mw (am (aJ (d:= .lst ((lst (wB B cs) rs (k+1)).map eQ)) (β1:=β) rfl (aQ ⟨rfl,_,_,_,_,_,_,rfl⟩)))
 .rintro δ _ ⟨rfl,o,p,r,f,g,b,rfl⟩
  rw[iC,JS,JS];exact am (bB (bS (lst (wB B cs) rs cs.length) eQ (λq=> .lst (q.1.map nL)) rfl (λq _=>⟨[on (.lst (q.1.map nL)),on (nL q.2)],rfl,rfl⟩) (Kl (h _ (J3 _)) (by decide))) ⟨rfl,rfl⟩)
theorem wx(l:List Nat):qC [nL l]=on (tN l):=rfl
theorem BR{i:Nat}{b:Bool}{h:G}{δ:Ds}{Q:nj->Bg->Prop}(k:Gw h (δ.set i (on (.odc b [] []))) β Q):Gw (aF (HE i b) h) δ β Q:=ci rfl k
theorem wk{i:Nat}{c e:FD}{h:G}{δ:Ds}{Q:nj->Bg->Prop}{d kd:D}{b:Bool}{ks:List d4}{vs:List D}{k:d4}{β1 β2:Bg}(f:e (fw δ) β=on (.ok d,β1))(g:c (fw δ) β1=on (.ok kd,β2))(j:δ.getD i JT=on (.odc b ks vs))(l:iM b kd=on k)(hn:noL d=JW)(m:ks.length<Ki)(n:Gw h (δ.set i (on (.odc b (zx ks k) (TR ks vs k d)))) β2 Q):Gw (aF (nz i c e) h) δ β Q:=
 ci (by unfold nz;simp only[f,g,j,l,hn,Km m,Od,K8]) n
def Sn(W:Wy)(rs:List Nat)(k:Nat)(P:List Nat->List Nat->Prop)(ks:List d4):Prop:=ks.Nodup/\(∀y∈ks,∃u∈ff W rs (k+1),y=(0,nI u))/\∀r v,P r v->(0,nI (less r v))∈ks
theorem Sn.mono{k:Nat}{P b:List Nat->List Nat->Prop}{ks:List d4}(h:Sn W rs k P ks)(q:∀r v,b r v->P r v):Sn W rs k b ks:=⟨h.1,h.2.1,λr v z=>h.2.2 r v (q r v z)⟩
theorem Sn.add{k:Nat}{P f:List Nat->List Nat->Prop}{ks:List d4}{r v:List Nat}(h:Sn W rs k P ks)(i:r∈ff W rs k)(j:v∈W k r)(q:∀b c,f b c->P b c\/(b=r/\c=v)):Sn W rs k f (zx ks (0,nI (less r v))):=by
 obtain⟨g,l,m⟩:=h;have hm:∀y,y∈zx ks (0,nI (less r v))↔y∈ks\/y=(0,nI (less r v)):=λy=>by
  unfold zx;split
  .rename_i z
   exact⟨.inl,λw=>w.elim id λe=>e▸z⟩
  .simp
 refine⟨?_,λy d=>?_,λb c z=>(hm _).mpr ?_⟩
 .unfold zx
  split
  .exact g
  .rename_i z
   exact O3.mpr ⟨g,MV _ _,λx n y d e=>z (by rw[<-KN.mp d,<-e];exact n)⟩
 .rcases(hm y).mp d with z|z
  .exact l y z
  .exact⟨less r v,fR.mpr ⟨r,i,v,j,rfl⟩,z⟩
 .rcases q b c z with z|⟨rfl,rfl⟩
  .exact .inl (m _ _ z)
  .exact .inr rfl
theorem Sn.len{k:Nat}{P:List Nat->List Nat->Prop}{ks:List d4}(h:Sn W rs k P ks)(b:si K a rs cs W bd)(e:k<cs.length):ks.length<=62:=by
 have:=L2.Pu.nd_len h.1 (m:=(ff W rs (k+1)).map λu=>((0:Int),nI u)) λy c=>by
  obtain⟨u,d,rfl⟩:=h.2.1 y c;exact J5.mpr ⟨u,d,rfl⟩
 rw[JS]at this;exact Kl this (gZ b (by omega))
theorem Sn.srt{k:Nat}{P:List Nat->List Nat->Prop}{ks:List d4}{vs:List D}(h:Sn W rs k P ks)(b:si K a rs cs W bd)(g:k<cs.length)(q:∀r∈ff W rs k,∀v∈W k r,P r v):qJ [.dct JZ ks vs]=on (js W rs (k+1)):=by
 have:=h.len b g;show(if ks.length<64 then eY (ks.map λk=>hL k.2)else JT)=_;rw[J8 (by omega)];refine wK (tP b.ok b.sm b.nr.1 b.wd g) λd=>⟨λz=>?_,λz=>?_⟩
 .obtain⟨y,c,rfl⟩:=J5.mp z
  obtain⟨r,e,v,f,rfl⟩:=fS.mp c;exact J5.mpr ⟨_,h.2.2 r v (q r e v f),rfl⟩
 .obtain⟨y,c,rfl⟩:=J5.mp z
  obtain⟨u,i,rfl⟩:=h.2.1 y c;obtain⟨r,e,v,f,rfl⟩:=fR.mp i;exact J5.mpr ⟨_,fS.mpr ⟨r,e,v,f,rfl⟩,rfl⟩
abbrev U9(rs cs:List Nat)(B:List (List (Nat×Nat)))(l:List D)(b c d e f:Option Sl):Ds:=[on (.sh (nL rs)),on (.sh (nL cs)),on (.sh (pq B)),on (.own l),b,c,d,e,f]
theorem xK{B:List (List (Nat×Nat))}(h:si K a rs cs (wB B cs) (pq B))(hB:zv rs.length cs.length B):(j4 K a).1 [nL rs,nL cs,pq B] β=on (.ok (.lst ((Ka (cs.length+1)).map (js (wB B cs) rs))),β):=by
 have c6:=h.c6;have H:=h.nr.2.1;unfold j4
 dsimp only
 refine br ?_;refine mv (ds:=[js (wB B cs) rs 0]) (β1:=β) (ae (ak (ae (ak rfl rfl) rfl) l3) rfl) (show 1<=Ki by decide) ?_;refine bv (ds:=dz 0 ((nI cs).map D.int)) (β1:=β) (bI rfl rfl) (λk δ e=>β=e/\∃q t u g b,δ=U9 rs cs B ((Ka (k+1)).map (js (wB B cs) rs)) q t u g b) ⟨rfl,JT,JT,JT,JT,JT,rfl⟩ ?_ ?_
 .rintro k d δ _ hd ⟨rfl,q,t,u,g,b,rfl⟩
  obtain⟨x,I,rfl⟩:=ul hd;obtain⟨n,hn,rfl⟩:=kZ I;have m:=(Kc.mp hn).1;have J:cs.getD k 0=n:=by rw[Kd,hn];rfl
  obtain⟨cl,L⟩:=hB.col m;refine⟨_,rfl,BR ?_⟩;refine bv (ds:=(ff (wB B cs) rs k).map tN) (β1:=β) ?_ (λi δ e=>β=e/\∃ks vs g b,δ=U9 rs cs B ((Ka (k+1)).map (js (wB B cs) rs)) (on (.sh (.int (k:Int)))) (on (.sh (.int (n:Int)))) (on (.odc JZ ks vs)) g b/\Sn (wB B cs) rs k (λr v=>r∈(ff (wB B cs) rs k).take i/\v∈wB B cs k r) ks) ⟨rfl,[],[],g,b,rfl,List.nodup_nil,(λy N=>by cases N),λr v z=>by simp at z⟩ ?_ ?_
  .show M.ofO ((qv (.lst ((Ka (k+1)).map (js (wB B cs) rs))) (.int (k:Int))).bind c5) β=_
   rw[cT (d:=js (wB B cs) rs k) (by rw[J9,Li (by omega)];rfl)];rfl
  .rintro i d δ _ hd ⟨rfl,ks,vs,g,b,rfl,f⟩
   obtain⟨r,A,rfl⟩:=bX hd;have o:=KA A;obtain⟨C,O,Q⟩:=h.at (by omega) o;refine⟨_,rfl,am (bv (ds:=(wB B cs k r).map nL) (β1:=β) (cL (ax (ae rfl (ae rfl (ae (oQ hB H m rfl rfl) rfl))) (oz (c:=n) rfl C (by rw[cl,O]) L)) (by unfold wB;rw[J];rfl)) (λj δ e=>β=e/\∃ks vs b,δ=U9 rs cs B ((Ka (k+1)).map (js (wB B cs) rs)) (on (.sh (.int (k:Int)))) (on (.sh (.int (n:Int)))) (on (.odc JZ ks vs)) (on (.sh (tN r))) b/\Sn (wB B cs) rs k (λl v=>(l∈(ff (wB B cs) rs k).take i/\v∈wB B cs k l)\/(l=r/\v∈(wB B cs k r).take j)) ks) ⟨rfl,ks,vs,b,rfl,f.mono λr v z=>z.elim id λz=>by simp at z⟩ ?_ ?_)⟩
   .rintro j d δ _ hd ⟨rfl,ks,vs,b,rfl,f⟩
    obtain⟨v,F,rfl⟩:=bX hd;have p:=KA F;have R:=f.len h m;refine⟨_,rfl,am (wk (d:= .bl JW) (kd:=dK JZ (0,nI (less r v))) (β1:=β) (β2:=β) rfl (ak (ae (ax rfl (l4 rfl (cR ((h.ok k r).subset p)) C.2.1)) rfl) (wx _)) rfl (i6 λ_=>rfl) rfl (Ku (show _<100 by omega) (by decide)) (aQ ⟨rfl,_,_,_,rfl,f.add o p λl T z=>?_⟩))⟩;rcases z with z|⟨z1,z2⟩
    .exact .inl (.inl z)
    .rw[dQ F]at z2
     rcases Ll.mp z2 with z2|z2
     .exact .inl (.inr ⟨z1,z2⟩)
     .exact .inr ⟨z1,KN.mp z2⟩
   .rintro δ _ ⟨rfl,ks,vs,b,rfl,f⟩
    rw[JS,Lz]at f;refine aQ ⟨rfl,ks,vs,_,_,rfl,f.mono λl v z=>?_⟩;obtain⟨z1,z2⟩:=z;rw[dQ A]at z1;rcases Ll.mp z1 with z1|z1
    .exact .inl ⟨z1,z2⟩
    .cases KN.mp z1
     exact .inr ⟨rfl,z2⟩
  .rintro δ _ ⟨rfl,ks,vs,g,b,rfl,f⟩
   rw[JS,Lz]at f;refine mw (am (my (cs:=(Ka (k+1)).map (js (wB B cs) rs)) (d:=js (wB B cs) rs (k+1)) rfl (ae (ak rfl (f.srt h m λr o v p=>⟨o,p⟩)) rfl) (Ku (show _<1000 by rw[JS,KD];omega) (by decide)) (aQ ⟨rfl,on (.sh (.int (k:Int))),on (.sh (.int (n:Int))),on (.sh (.dct JZ ks vs)),g,b,?_⟩)));rw[Nb (n:=k+1),KC];rfl
 .rintro δ _ ⟨rfl,q,t,u,g,b,rfl⟩
  rw[iC,JS,JS];exact am (bB rfl ⟨rfl,rfl⟩)
end
section
variable{K:Kt}{a:Ad}{β:Bg}{rs cs:List Nat}{W:Wy}{bd:D}
open L2.Hs (Up bE kl)
abbrev kP(p:Nat×List Nat):d4:=((p.1:Int),nI p.2)
theorem xY{p q:Nat×List Nat}(h:kP p=kP q):p=q:=Mu (by have:=(N2.mp h).1;simp only at this;omega) (j9 (N2.mp h).2)
theorem rH{f:Nat×List Nat->D}{p:Nat×List Nat}:∀{N:List (Nat×List Nat)},p∈N->H_ (N.map kP) (N.map f) (kP p)=on (f p)
 |q::N,h=>by
  unfold H_;rw[Kv,Kv,MD,M9];by_cases z:q=p
  .rw[z,Km rfl];rfl
  .rw[K0 λe=>z (xY e)]
   exact rH ((Kk.mp h).resolve_left λe=>z e.symm)
def mm(W:Wy)(rs:List Nat)(m t:Nat):List (Nat×List Nat):=(Ka t).flatMap λi=>(ff W rs (m-i)).map λr=>(m-i,r)
theorem oM{m t:Nat}{p:Nat×List Nat}(f:t<=m+1):p∈mm W rs m t↔(p.1<=m/\m<p.1+t)/\p.2∈ff W rs p.1:=by
 constructor
 .intro h
  obtain⟨i,c,b⟩:=Lx.mp h;obtain⟨r,d,rfl⟩:=J5.mp b;have:=Kw.mp c;exact⟨⟨by show m-i<=m;omega,by show m<m-i+t;omega⟩,d⟩
 .rintro⟨⟨g,b⟩,e⟩
  refine Lx.mpr ⟨m-p.1,Kw.mpr (by omega),J5.mpr ⟨p.2,?_,?_⟩⟩
  .rw[show m-(m-p.1)=p.1 by omega];exact e
  .rw[show m-(m-p.1)=p.1 by omega]
theorem hG(m t:Nat):mm W rs m (t+1)=mm W rs m t++(ff W rs (m-t)).map λr=>(m-t,r):=by
 unfold mm;rw[Nb,LU,Lh,Oa,KW]
abbrev x_(W:Wy)(m:Nat)(p:Nat×List Nat):D:=cv W m p.1 p.2
abbrev L1(W:Wy)(rs cs:List Nat)(bd:D)(N:List (Nat×List Nat))(c d e f g b:Option Sl):Ds:=[on (.sh (nL rs)),on (.sh (nL cs)),on (.sh bd),on (.sh (.lst ((Ka (cs.length+1)).map (js W rs)))),on (.odc JW (N.map kP) (N.map (x_ W cs.length))),c,d,e,f,g,b]
theorem xg{W:Wy}{bd:D}{N:List (Nat×List Nat)}{c f g i j b:Option Sl}{l m:FD}{h:G}{Q:nj->Bg->Prop}{p:Nat×List Nat}(o:p∉N)(r:N.length<=1000)(t:l (fw (L1 W rs cs bd N c f g i j b)) β=on (.ok (.tup [.int (p.1:Int),tN p.2]),β))(u:m (fw (L1 W rs cs bd N c f g i j b)) β=on (.ok (x_ W cs.length p),β))
  (k:Gw h (L1 W rs cs bd (N++[p]) c f g i j b) β Q):Gw (aF (nz 4 l m) h) (L1 W rs cs bd N c f g i j b) β Q:=by
 have n:kP p∉N.map kP:=λz=>by
  obtain⟨q,v,e⟩:=J5.mp z;exact o (xY e▸v)
 refine wk (d:=x_ W cs.length p) (kd:=dK JW (kP p)) (β1:=β) (β2:=β) u t rfl (i6 λe=>(by cases e)) rfl (LF (show _<=1000 by rw[JS];exact r) (by decide)) ?_;unfold zx TR;rw[J6 n,J6 n];have y:N.map kP++[kP p]=(N++[p]).map kP:=by rw[KC];rfl
 have A:N.map (x_ W cs.length)++[x_ W cs.length p]=(N++[p]).map (x_ W cs.length):=by rw[KC];rfl
 rw[y,A];exact k
theorem ux{m t i:Nat}{r:List Nat}(h:t<=m)(b:(ff W rs (m-t))[i]?=on r):(m-t,r)∉mm W rs m t++((ff W rs (m-t)).take i).map λr=>(m-t,r):=λz=>by
 rcases Ll.mp z with z|z
 .have:=((oM (by omega)).mp z).1.2
  simp only at this;omega
 .obtain⟨q,c,e⟩:=J5.mp z
  cases(N2.mp e).2;obtain⟨j,k,d⟩:=List.mem_take_iff_getElem.mp c;obtain⟨f,g⟩:=Kc.mp b;have:=(List.getElem_inj (h₀:=by omega) (h₁:=f) (kg (W:=W) (rs:=rs) (m-t))).mp (d.trans g.symm);omega
theorem Jr(k:Nat):Up ((ff W rs k).map nI):=by
 cases k with
 |zero=>exact MV _ _
 |succ k=>rw[show ff W rs (k+1)=O_ W (ff W rs k) k from rfl,qb];exact iS _
theorem Jn(m:Nat):Up ((j0 W rs m).map λp=>kl JW (kP p)):=by
 unfold j0;rw[LN];refine List.pairwise_flatMap.mpr ⟨λk _=>?_,?_⟩
 .rw[Kb]
  refine MO.mpr ((MO.mp (Jr k)).imp λ{x y} h=>?_);show bE ((k:Int)::nI x) ((k:Int)::nI y)=JW;unfold bE;rw[J8 rfl];exact h
 .refine List.pairwise_lt_range.imp λ{i j} b x c y d=>?_
  obtain⟨_,e,rfl⟩:=J5.mp c;obtain⟨u,_,rfl⟩:=J5.mp e;obtain⟨_,f,rfl⟩:=J5.mp d;obtain⟨v,_,rfl⟩:=J5.mp f;show bE ((i:Int)::nI u) ((j:Int)::nI v)=JW;unfold bE;rw[J6 (by omega)];exact Km (by omega)
theorem FE{B:List (List (Nat×Nat))}(h:si K a rs cs (wB B cs) (pq B))(hB:zv rs.length cs.length B)(hn:(mm (wB B cs) rs cs.length (cs.length+1)).length<64):(iI K a).1 [nL rs,nL cs,pq B] β=on (.ok (tx ((j0 (wB B cs) rs cs.length).map (z_ (wB B cs) cs.length))),β):=by
 have c6:=h.c6;have r4:=h.nr.2.1;have Y:∀t,t<=cs.length->∀i,(mm (wB B cs) rs cs.length t++((ff (wB B cs) rs (cs.length-t)).take i).map λr=>(cs.length-t,r)).length<=1000:=λt Z i=>by
  have l1:(mm (wB B cs) rs cs.length t).length<=62*t:=by
   unfold mm;refine Kl (dX (n:=62) λk o=>?_) (by rw[KD,My];exact J3 _);rw[JS];exact gZ h (by omega)
  have l2:=gZ h (k:=cs.length-t) (by omega);rw[Kg,JS,Lk];omega
 unfold iI
 dsimp only
 refine br ?_;refine aJ (ax rfl (xK h hB)) (BR ?_);have J:∀k,k<=cs.length->qv (.lst ((Ka (cs.length+1)).map (js (wB B cs) rs))) (.int (k:Int))=on (js (wB B cs) rs k):=λk o=>cT (by rw[J9,Li (by omega)];rfl);have L:qv (.lst ((Ka (cs.length+1)).map (js (wB B cs) rs))) (.int (-1))=on (js (wB B cs) rs cs.length):=by
  show lp _ _=_;unfold lp ix;rw[JS,KD,J6 (by decide),J8 (by omega),show((-1:Int)+((cs.length+1:Nat):Int)).toNat=cs.length by omega,MQ,J9,Li (by omega)];rfl
 refine bv (ds:=(ff (wB B cs) rs (cs.length-0)).map tN) (β1:=β) (cL (dq rfl rfl L) rfl) (λi δ c=>β=c/\∃g,δ=L1 (wB B cs) rs cs (pq B) (mm (wB B cs) rs cs.length 0++((ff (wB B cs) rs (cs.length-0)).take i).map λr=>(cs.length-0,r)) g JT JT JT JT JT) ⟨rfl,JT,rfl⟩ ?_ ?_
 .rintro i d δ _ hd ⟨rfl,g,rfl⟩
  obtain⟨r,A,rfl⟩:=bX hd;refine⟨_,rfl,am (xg (p:=(cs.length-0,r)) (ux (Lq _) A) (Y 0 (Lq _) i) (ak (ae (ak rfl (kh cs)) (ae rfl rfl)) d7) (ak rfl (d7.trans ?_)) (aQ ⟨rfl,on (.sh (tN r)),?_⟩))⟩
  .show on (D.tup [.int 1,.int 1])=on (cv (wB B cs) cs.length cs.length r)
   unfold cv;rw[N6];rfl
  .rw[dQ A,KC,Lg];rfl
 rintro δ _ ⟨rfl,g,rfl⟩;rw[JS,Lz,<-hG];refine bv (ds:=c7 cs.length) (β1:=β) (bI (as:=[.int ((cs.length:Int)-1),.int (-1),.int (-1)]) (ae (dq (ak rfl (kh cs)) rfl rfl) rfl) ?_) (λt δ c=>β=c/\∃g O q u l b,δ=L1 (wB B cs) rs cs (pq B) (mm (wB B cs) rs cs.length (t+1)) g O q u l b) ⟨rfl,g,JT,JT,JT,JT,JT,rfl⟩ ?_ ?_
 .show(if(decide (-1<=(cs.length:Int)-1)&&decide ((cs.length:Int)-1<2^62))=JW then on (c7 ((cs.length:Int)-1+1).toNat)else JT)=_
  rw[J8 (by simp;omega),show((cs.length:Int)-1+1).toNat=cs.length by omega]
 .rintro t d δ _ hd ⟨rfl,g,O,q,u,l,b,rfl⟩
  have Z:t<cs.length:=by
   have:=(Kc.mp hd).1;simpa[c7]using this
  obtain rfl:d= .int ((cs.length-(t+1):Nat):Int):=by
   unfold c7 at hd;rw[J9,Li Z]at hd;cases hd;exact La D.int (by omega)
  have o:cs.length-(t+1)<cs.length:=by omega
  obtain⟨cl,cb⟩:=hB.col o;refine⟨_,rfl,am (bv (ds:=(ff (wB B cs) rs (cs.length-(t+1))).map tN) (β1:=β) (cL (dq rfl rfl (J _ (by omega))) rfl) (λi δ c=>β=c/\∃g q u l b,δ=L1 (wB B cs) rs cs (pq B) (mm (wB B cs) rs cs.length (t+1)++((ff (wB B cs) rs (cs.length-(t+1))).take i).map λr=>(cs.length-(t+1),r)) g (on (.sh (.int ((cs.length-(t+1):Nat):Int)))) q u l b) ⟨rfl,g,q,u,l,b,by rw[PY,NF,KW];rfl⟩ ?_ ?_)⟩
  .rintro i d δ _ hd ⟨rfl,g,q,u,l,b,rfl⟩
   obtain⟨r,A,rfl⟩:=bX hd;have Q:=KA A;have nb:=ux (m:=cs.length) (t:=t+1) (by omega) A;have ln:=Y (t+1) (by omega) i;have C:∀v∈wB B cs (cs.length-(t+1)) r,(cs.length-(t+1)+1,less r v)∈mm (wB B cs) rs cs.length (t+1)++((ff (wB B cs) rs (cs.length-(t+1))).take i).map λr=>(cs.length-(t+1),r):=λv F=>Ll.mpr (.inl ((oM (by omega)).mpr ⟨⟨by show _+1<=_;omega,by show _<_+1+(t+1);omega⟩,fR.mpr ⟨r,Q,v,F,rfl⟩⟩));have e9:mm (wB B cs) rs cs.length (t+1)++((ff (wB B cs) rs (cs.length-(t+1))).take (i+1)).map (λr=>(cs.length-(t+1),r))=(mm (wB B cs) rs cs.length (t+1)++((ff (wB B cs) rs (cs.length-(t+1))).take i).map (λr=>(cs.length-(t+1),r)))++[(cs.length-(t+1),r)]:=by
    rw[dQ A,KC,Lg];rfl
   rw[e9];generalize mm (wB B cs) rs cs.length (t+1)++((ff (wB B cs) rs (cs.length-(t+1))).take i).map (λr=>(cs.length-(t+1),r))=N at nb ln C;obtain⟨R,n2,n3⟩:=h.at (N4 o) Q;have et:o1 (wB B cs) (cs.length-(cs.length-(t+1))) (cs.length-(t+1)) r=L2.Nt.sm (wB B cs (cs.length-(t+1)) r) λv=>o1 (wB B cs) (cs.length-(cs.length-(t+1)+1)) (cs.length-(t+1)+1) (less r v):=by rw[show cs.length-(cs.length-(t+1))=cs.length-(cs.length-(t+1)+1)+1 by omega];rfl
   have ed:ri (wB B cs) (cs.length-(cs.length-(t+1))) (cs.length-(t+1)) r=L2.Nt.sm (wB B cs (cs.length-(t+1)) r) λv=>mu v*ri (wB B cs) (cs.length-(cs.length-(t+1)+1)) (cs.length-(t+1)+1) (less r v):=by rw[show cs.length-(cs.length-(t+1))=cs.length-(cs.length-(t+1)+1)+1 by omega];rfl
   generalize cs.length-(t+1)=k at*;refine⟨_,rfl,aJ (d:= .int 0) (β1:=β) rfl (aJ (d:= .int 0) (β1:=β) rfl ?_)⟩;refine bv (ds:=(wB B cs k r).map nL) (β1:=β) (cL (ax (ae rfl (ae (x:= .int ((cs.getD k 0:Nat):Int)) (dq rfl rfl (cT (by rw[J9,J9,fJ o,JX o];rfl))) (ae (oQ hB r4 o rfl rfl) rfl))) (oz rfl R (by rw[cl,n2]) cb)) rfl) (λj δ c=>β=c/\∃l b,δ=L1 (wB B cs) rs cs (pq B) N (on (.sh (tN r))) (on (.sh (.int (k:Int)))) (on (.sh (.int ((L2.Nt.sm ((wB B cs k r).take j) λv=>o1 (wB B cs) (cs.length-(k+1)) (k+1) (less r v):Nat):Int)))) (on (.sh (.int ((L2.Nt.sm ((wB B cs k r).take j) λv=>mu v*ri (wB B cs) (cs.length-(k+1)) (k+1) (less r v):Nat):Int)))) l b) ⟨rfl,l,b,rfl⟩ ?_ ?_
   .rintro j d δ _ hd ⟨rfl,l,b,rfl⟩
    obtain⟨v,F,rfl⟩:=bX hd;have hm:=KA F;have y:=(h.ok k r).subset hm;have hu:=fR.mpr ⟨r,Q,v,hm,rfl⟩;have T:=(fE h.ok h.sm (k+1) o _ hu).2;have H:v.sum<=40:=Kl (cR y).sum n3;have U:=(h.at o hu).2.2;have v4:v.length<=4:=by rw[(cR y).len];exact R.2.1
    have dx:vR (.dct JW (N.map kP) (N.map (x_ (wB B cs) cs.length))) (.tup [.int ((k+1:Nat):Int),tN (less r v)])=on (cv (wB B cs) cs.length (k+1) (less r v)):=by
     show(iM JW (dK JW (((k+1:Nat):Int),nI (less r v)))).bind _=_;rw[i6 λe=>(by cases e)];exact rH (f:=x_ (wB B cs) cs.length) (C v hm)
    refine⟨_,rfl,wj (d:=cv (wB B cs) cs.length (k+1) (less r v)) (β1:=β) (dq rfl (ak (ae (dq rfl rfl rfl) (ae (ak (ae (ax rfl (l4 rfl (cR y) R.2.1)) rfl) (wx _)) rfl)) d7) dx) ?_⟩;refine aJ (d:= .int ((L2.Nt.sm ((wB B cs k r).take (j+1)) λv=>o1 (wB B cs) (cs.length-(k+1)) (k+1) (less r v):Nat):Int)) (β1:=β) (dq rfl (dq rfl rfl Hr) (by rw[pX _ F];rfl)) ?_;exact am (aJ (d:= .int ((L2.Nt.sm ((wB B cs k r).take (j+1)) λv=>mu v*ri (wB B cs) (cs.length-(k+1)) (k+1) (less r v):Nat):Int)) (β1:=β) (dq rfl (dq (dq rfl rfl Hq) (ax rfl (zo H v4)) (ox (db (Kl (nE h.ok _ _ _ (by omega)) (by rw[i9 _ _ T];exact vd U)) (by decide)) (db (qz H) (by decide)))) (by rw[pX _ F,qy,My];rfl)) (aQ ⟨rfl,_,_,rfl⟩))
   .rintro δ _ ⟨rfl,l,b,rfl⟩
    rw[JS,Lz,<-et,<-ed];exact am (xg (p:=(k,r)) nb ln (ak rfl d7) (ak rfl d7) (aQ ⟨rfl,_,_,_,_,_,rfl⟩))
  .rintro δ _ ⟨rfl,g,q,u,l,b,rfl⟩
   rw[JS,Lz,<-hG];exact aQ ⟨rfl,_,_,_,_,_,_,rfl⟩
 .rintro δ _ ⟨rfl,g,O,q,u,l,b,rfl⟩
  rw[show(c7 cs.length).length=cs.length by simp[c7]];have X:∀p,p∈j0 (wB B cs) rs cs.length↔p∈mm (wB B cs) rs cs.length (cs.length+1):=λp=>by
   rw[xC,oM (J3 _)];exact⟨λz=>⟨⟨z.1,by omega⟩,z.2⟩,λz=>⟨z.1.1,z.2⟩⟩
  have sp:TH ((j0 (wB B cs) rs cs.length).map kP) ((mm (wB B cs) rs cs.length (cs.length+1)).map kP):=⟨by rw[Kb];exact Jn _,by rw[JS];exact hn,λk=>⟨λz=>by
   obtain⟨p,I,rfl⟩:=J5.mp z;exact J5.mpr ⟨p,(X p).mp I,rfl⟩,λz=>by
   obtain⟨p,I,rfl⟩:=J5.mp z;exact J5.mpr ⟨p,(X p).mpr I,rfl⟩⟩⟩
  have l9:(j0 (wB B cs) rs cs.length).length<=1000:=Kl (dX (n:=62) λk o=>by
   have:=Kw.mp o;rw[JS];exact gZ h (by omega)) (by rw[KD];omega)
  refine am (bB (d:= .lst ((j0 (wB B cs) rs cs.length).map λp=>rD (z_ (wB B cs) cs.length p))) (β1:=β) (bS (j0 (wB B cs) rs cs.length) (λp=>dK JW (kP p)) _ (cL (ak rfl (yT sp)) (by rw[Kb];rfl)) (λp I=>⟨[on (dK JW (kP p)),on (.dct JW ((mm (wB B cs) rs cs.length (cs.length+1)).map kP) ((mm (wB B cs) rs cs.length (cs.length+1)).map (x_ (wB B cs) cs.length)))],rfl,dq rfl (dq (z:=x_ (wB B cs) cs.length p) rfl rfl ?_) ?_⟩) (bo l9)) ⟨rfl,by show M3 (D.lst _)=M3 (D.lst _);rw[Kb];rfl⟩)
  .show(iM JW (dK JW (kP p))).bind _=_
   rw[i6 λe=>(by cases e)];exact rH (f:=x_ (wB B cs) cs.length) ((X p).mp I)
  .show iO (.tup [.int (p.1:Int),tN p.2]) (.tup [.int ((o1 (wB B cs) (cs.length-p.1) p.1 p.2:Nat):Int),.int ((ri (wB B cs) (cs.length-p.1) p.1 p.2:Nat):Int)])=_
   unfold iO;simp only;rw[J8 (bo (by show 4<=1000;decide))];rfl
end
section
noncomputable abbrev iL(xs:List Int):D:= .lst (xs.map D.int)
variable{K:Kt}{a:Ad}{β:Bg}
theorem yj{ba:List (List D)}(h:ba.length<=1000):(mW K a).1 [lG ba] β=on (.ok (lG ba),β):=
 br (am (bB (bS ba D.lst D.lst rfl (λx _=>⟨_,rfl,rfl⟩) (bo h)) ⟨rfl,rfl⟩))
theorem xP{r c:Nat}(d:r<=1000)(e:c<=1000):kf K a [.int (r:Int),.int (c:Int)] β=on (.ok (gP (lc r c)),β):=by
 have b:∀x:Nat,gj 1 [] (dF ji (ar (aB 1) (aT))) (jn 0) (λ_=>M.ret JW) (nS (bf dW (ar (fC (.int 0)) (ar (fC (.int 40)) (aT))))) [on (.int (0+(x:Int))),on (.int (c:Int))] β=on (.ok ((Ks c ((0:Int),(40:Int))).map pD),β):=λx=>by
  have h:=yk (nv:=1) (b_:=[]) (it:=dF ji (ar (aB 1) (aT))) (tg:=jn 0) (f:=bf dW (ar (fC (.int 0)) (ar (fC (.int 40)) (aT)))) (δ:=[on (.int (0+(x:Int))),on (.int (c:Int))]) (β:=β) (Ka c) (λi=>D.int (0+(i:Int))) (λ_=>pD (0,40))
   (bI rfl (O2 (by omega) (by omega))) (λx _=>⟨_,rfl,ak rfl d7⟩) (bo (by rw[KD];omega))
  rw[iw]at h;rw[OM];exact h
 have h:=ku (nv:=1) (b_:=[1]) (it:=dF ji (ar (aB 0) (aT))) (tg:=jn 0) (f:=gj 1 [] (dF ji (ar (aB 1) (aT))) (jn 0) (λ_=>M.ret JW) (nS (bf dW (ar (fC (.int 0)) (ar (fC (.int 40)) (aT)))))) (δ:=[on (.int (r:Int)),on (.int (c:Int))]) (β:=β) (Ka r) (λi=>D.int (0+(i:Int))) (λ_=>(Ks c ((0:Int),(40:Int))).map pD)
  (bI rfl (O2 (by omega) (by omega))) (λx _=>⟨_,rfl,b x⟩) (bo (by rw[KD];omega))
 rw[iw]at h;refine FX (am (DG h ⟨rfl,?_⟩));show gP (lc r c)=_;show MU _ _=_;rw[OM]
abbrev WM(n th:Int)(xs:List Int)(b c:Option Sl):Ds:=[on (.sh .bag),on (.sh (.int n)),on (.sh (.int th)),on (.own (xs.map D.int)),b,c]
theorem mK{n m:Nat}(C:1<=n)(F:n<=30)(m1:m<=100)(ok:β.ok):∃(xs:List Int) (b:Bg),(f6 K a).1 [.bag,.int (n:Int),.int (m:Int)] β=on (.ok (iL xs),b)/\xs.length=n/\(∀x∈xs,0<=x/\x<=(m:Int))/\xs.sum=(m:Int)/\b.ok:=by
 suffices h:∃x b,(f6 K a).1 [.bag,.int (n:Int),.int (m:Int)] β=on (x,b)/\(∃xs,x= .ok (iL xs)/\xs.length=n/\(∀x∈xs,0<=x/\x<=(m:Int))/\xs.sum=(m:Int)/\b.ok) by
  obtain⟨x,b,e,xs,rfl,u⟩:=h;exact⟨xs,b,e,u⟩
 unfold f6
 dsimp only
 refine nQ ?_;refine Gc (ds:=Ks n (D.int 0)) (β1:=β) (Ji (x:= .int 0) (c:=n) rfl rfl (by omega)) ?_;rw[<-OM (f:=D.int)];refine bv (ds:=bn 0 m) (β1:=β) (bI rfl (O2 (by omega) (by omega))) (λi δ β=>β.ok/\∃xs q o,δ=WM n m xs q o/\xs.length=n/\xs.sum=(i:Int)/\∀x∈xs,0<=x/\x<=(i:Int)) ⟨ok,Ks n 0,JT,JT,rfl,by simp,by simp,λx j=>?_⟩ ?_ ?_
 .rw[(NT.mp j).2];omega
 .rintro k d δ b hd ⟨g,xs,q,o,rfl,p,sm,nn⟩
  obtain⟨H,rfl⟩:=mU hd;refine⟨WM n m xs (on (.sh (.int k))) o,rfl,?_⟩;obtain⟨r,β2,v,I,J,t⟩:=bU g (lot:=(n:Int)) (by omega) (by omega);refine aJ (d:= .int r) (β1:=β2) (ax rfl v) ?_;obtain⟨i,rfl⟩:∃i:Nat,r=(i:Int):=⟨r.toNat,by omega⟩;obtain⟨x,j⟩:=JO (l:=xs) (i:=i) (by omega);have A:=nn x (KA j);refine am (DH (d:= .int (x+1)) (cs:=xs.map D.int) (ka:=i) (ja:=i) (β1:=β2) (β2:=β2) (dq (dq rfl rfl (cT (d:= .int x) (by rw[J9,j];rfl))) rfl rfl) rfl rfl ?_ ?_)
  .rw[JS,p];exact g0 (by omega) (by omega)
  rw[<-N1];refine aQ ⟨t,xs.set i (x+1),_,_,rfl,by rw[KO,p],by rw[kO j];omega,λy B=>?_⟩;rcases Mf B with h|rfl
  .have:=nn y h;omega
  .omega
 .rintro δ b ⟨g,xs,q,o,rfl,p,sm,nn⟩
  rw[qX]at nn sm;exact am (bB rfl ⟨xs,rfl,p,nn,sm,g⟩)
theorem xE{x y:Int}(b:0<=x/\x<=40)(c:0<=y/\y<=40):rA (.int x) (.int y)=on (.int (x*y)):=by
 have sm:∀z:Int,0<=z/\z<=40->bO z=JW:=λz d=>by
  unfold bO;rw[KV];exact LF (show z.natAbs<=40 by omega) (by decide +kernel)
 show(if(bO x&&bO y)=JW then _ else _)=_;rw[sm x b,sm y c,J8 (show(JW&&JW)=JW from rfl)]
theorem Jh{f:FD}{g:FD}{x:D}{c:Nat}{δ:Dn}{β β1 β2:Bg}(d:f δ β=on (.ok x,β1))(e:g δ β1=on (.ok (.int (c:Int)),β2))(h:c<=1000):rj (ar f aT) g δ β=on (.ok (Ks c x),β2):=by
 have b:[x].length<=Ki:=by rw[KQ];decide
 have i:[x].length*c<=Ki:=by rw[KQ,SA];exact bo h
 have r:=w6 (ds:=[x]) (c:=c) b i (by omega);rw[me]at r;have s:TN [x]=on [x]:=by
  unfold TN;rw[J8 b]
 have j:ar f aT δ β=on (.ok [x],β1):=ae d rfl;unfold rj;rw[M.bind_ok j,s,M.bind_some,M.bind_ok e,r];rfl
def PO(b:LP):Prop:=∀c∈b,∀p∈c,l_ p
theorem PO.set{b:LP}{i:Nat}{c:List (Int×Int)}(h:PO b)(e:∀p∈c,l_ p):PO (b.set i c):=λq f p d=>by
 rcases Mf f with z|rfl
 .exact h q z p d
 .exact e p d
abbrev s_(r c w:Int)(g:List (List D))(b d e:Option Sl):Ds:=[on (.sh .bag),on (.sh (.int r)),on (.sh (.int c)),on (.grd g),on (.sh (.int w)),b,d,e]
def Ys(r c:Nat)(w:Int)(δ:Ds)(β:Bg):Prop:=β.ok/\∃b d e f,δ=s_ r c w (gP b) d e f/\ni r c b/\PO b
theorem yK{r c:Nat}(r0:1<=r)(r1:r<=30)(c0:1<=c)(c1:c<=30)(ok:β.ok):∃(b:LP) (k:Bg),(iq K a).1 [.bag,.int (r:Int),.int (c:Int)] β=on (.ok (kF b),k)/\ni r c b/\PO b/\k.ok:=by
 suffices h:∃x k,(iq K a).1 [.bag,.int (r:Int),.int (c:Int)] β=on (x,k)/\(∃b,x= .ok (kF b)/\ni r c b/\PO b/\k.ok) by
  obtain⟨x,k,e,b,rfl,O⟩:=h;exact⟨b,k,e,O⟩
 unfold iq
 dsimp only
 refine nQ ?_;refine uG (ba:=gP (lc r c)) (β1:=β) (DD rfl (xP (by omega) (by omega))) (xz _) ?_;obtain⟨w,β1,p1,w0,w1,W⟩:=bU ok (lot:=4) (by decide) (by decide);refine aJ (d:= .int w) (β1:=β1) (ax rfl p1) ?_;refine bv (ds:=bn 0 r) (β1:=β1) (bI rfl (O2 (by omega) (by omega))) (λ_=>Ys r c w) ⟨W,lc r c,JT,JT,JT,rfl,pE r c,(TZ.free r c).ok⟩ ?_ ?_
 .rintro i d δ k hd ⟨I,b,s5,l,f,rfl,sh,F⟩
  obtain⟨hi,rfl⟩:=mU hd;refine⟨s_ r c w (gP b) (on (.sh (.int i))) l f,rfl,am ?_⟩;refine bv (ds:=bn 0 c) (β1:=k) (bI rfl (O2 (by omega) (by omega))) (λ_ δ β=>β.ok/\∃b l f,δ=s_ r c w (gP b) (on (.sh (.int i))) l f/\ni r c b/\PO b) ⟨I,b,l,f,rfl,sh,F⟩ ?_ (λδ β h=>by
   obtain⟨O,b,l,f,rfl,X,Y⟩:=h;exact aQ ⟨O,b,_,l,f,rfl,X,Y⟩)
  rintro j d δ β2 hd ⟨F_,b,l,f,rfl,sh,F⟩;obtain⟨hj,rfl⟩:=mU hd;refine⟨s_ r c w (gP b) (on (.sh (.int i))) (on (.sh (.int j))) f,rfl,am ?_⟩;obtain⟨y,A,R⟩:=sh.at (i:=i) hi;have hr:(gP b)[i]?=on (y.map pD):=by rw[J9,A];rfl
  have put:∀{Q:nj->Bg->Prop} {p:Int×Int} {g n:Bg} {Z:FD} {f:Option Sl},(∀(β:Bg) (b:LP) (l f:Option Sl),β.ok->ni r c b->PO b->Q (.nx (s_ r c w (gP b) (on (.sh (.int i))) l f)) β)->Z (fw (s_ r c w (gP b) (on (.sh (.int i))) (on (.sh (.int j))) f)) g=on (.ok (pD p),n)->n.ok->l_ p->
    Gw (aF (jC 3 (aB 5) (aB 6) Z) gNil) (s_ r c w (gP b) (on (.sh (.int i))) (on (.sh (.int j))) f) g Q:=λ{Q p g n Z f} J e t hp=>by
   refine BQ (d:=pD p) (ba:=gP b) (ds:=y.map pD) (ka:=i) (kb:=j) (ja:=i) (jb:=j) e rfl rfl rfl ?_ hr ?_ rfl ?_
   .rw[JS,sh.1];exact g0 (by omega) (by omega)
   .rw[JS,R];exact g0 (by omega) (by omega)
   .have B:(gP b).set i ((y.map pD).set j (pD p))=gP (b.set i (y.set j p)):=by
     show _=MU _ _;rw[N1,N1]
    rw[B];refine aQ (J _ _ _ _ t (sh.set A) (F.set λq T=>?_));rcases Mf T with h|rfl
    .exact F y (KA A) q h
    .exact hp
  have stay:∀{Q:nj->Bg->Prop} {g:Bg} {f:Option Sl},(∀(β:Bg) (b:LP) (l f:Option Sl),β.ok->ni r c b->PO b->Q (.nx (s_ r c w (gP b) (on (.sh (.int i))) l f)) β)->g.ok->Gw gNil (s_ r c w (gP b) (on (.sh (.int i))) (on (.sh (.int j))) f) g Q:=λ{Q g f} J m=>aQ (J _ _ _ _ m sh F);have o:∀{Q:nj->Bg->Prop} {g:Bg},(∀(β:Bg) (b:LP) (l f:Option Sl),β.ok->ni r c b->PO b->Q (.nx (s_ r c w (gP b) (on (.sh (.int i))) l f)) β)->g.ok->Gw (aF (t_ (jD (fB (f2 (Vr) (aB 4) (fC (.int 1)))) (fB (f2 (gz) (lf iz (ar (aB 0) (ar (fC (.int 2)) (aT)))) (fC (.int 0))))) (jC 3 (aB 5) (aB 6) (bf dW (ar (fC (.int 0)) (ar (fC (.int 0)) (aT))))) (gNil)) gNil) (s_ r c w (gP b) (on (.sh (.int i))) (on (.sh (.int j))) f) g Q:=λ{Q g} J m=>by
   by_cases q:1<w
   .obtain⟨v,n,p5,v0,v1,t⟩:=bU m (lot:=2) (by decide) (by decide)
    refine n6 (c:=decide (v=0)) (β1:=n) (we (k_ (dq rfl rfl (by rw[gt_int,Km q]))) (k_ (dq (ax rfl p5) rfl eq_int))) ?_;by_cases H:v=0
    .rw[J8 (by simpa using H)]
     exact put J (p:=(0,0)) (ak rfl d7) t ⟨by decide,by decide,by decide⟩
    .rw[J6 (by simpa using H)]
     exact cj (stay J t)
   .exact eV (wf (k_ (dq rfl rfl (by rw[gt_int,K0 q])))) (cj (stay J m))
  have L:∀(β:Bg) (b:LP) (l f:Option Sl),β.ok->ni r c b->PO b->(λδ β=>β.ok/\∃b l f,δ=s_ r c w (gP b) (on (.sh (.int i))) l f/\ni r c b/\PO b) (s_ r c w (gP b) (on (.sh (.int i))) l f) β:=λβ b l f O X Y=>⟨O,b,l,f,rfl,X,Y⟩;by_cases q:0<w
  .obtain⟨v,N,p3,v0,v1,C⟩:=bU F_ (lot:=3) (by decide) (by decide)
   refine n6 (c:=decide (v=0)) (β1:=N) (we (k_ (dq rfl rfl (by rw[gt_int,Km q]))) (k_ (dq (ax rfl p3) rfl eq_int))) ?_;by_cases H:v=0
   .rw[J8 (by simpa using H)]
    obtain⟨b1,g,p4,b10,b11,m⟩:=bU C (lot:=2) (by decide) (by decide);obtain⟨b2,n,p5,b20,b21,t⟩:=bU m (lot:=2) (by decide) (by decide);refine DI (aJ (d:= .int (b1*b2)) (β1:=n) (dq (ax rfl p4) (ax rfl p5) (xE (by omega) (by omega))) ?_);obtain⟨u,β6,p6,u0,u1,ok6⟩:=bU t (lot:=3) (by decide) (by decide);have hb:0<=b1*b2/\b1*b2<=1:=by
     obtain rfl|rfl:b1=0\/b1=1:=by omega
     .omega
     .omega
    exact put L (p:=(b1*b2,b1*b2+u)) (ak (ae rfl (ae (dq rfl (ax rfl p6) rfl) BO)) d7) ok6 ⟨hb.1,by dsimp only;omega,by dsimp only;omega⟩
   .rw[J6 (by simpa using H)]
    exact o L C
  .exact eV (wf (k_ (dq rfl rfl (by rw[gt_int,K0 q])))) (o L F_)
 .rintro δ k ⟨I,b,s5,l,f,rfl,sh,F⟩
  obtain⟨v,β2,p2,v0,v1,U⟩:=bU I (lot:=6) (by decide) (by decide);refine n6 (c:=decide (v=0)) (β1:=β2) (k_ (dq (ax rfl p2) rfl eq_int)) ?_;by_cases H:v=0
  .rw[J8 (by simpa using H)]
   obtain⟨u,N,p3,u0,u1,C⟩:=bU U (lot:=3) (by decide) (by decide);obtain⟨i',g,p4,i0,i1,m⟩:=bU C (lot:=(r:Int)) (by omega) (by omega);obtain⟨i,rfl⟩:∃i:Nat,i'=(i:Int):=⟨i'.toNat,by omega⟩;refine IJ (ba:=gP b) (ds:=(Ks c ((1:Int),1+u)).map pD) (ka:=i) (ja:=i) (β1:=N) (β2:=g) ?_ (ax rfl p4) rfl ?_ (jv _) (xz _) ?_
   .rw[OM]
    exact Jh (x:=pD (1,1+u)) (ak (ae rfl (ae (dq rfl (ax rfl p3) rfl) BO)) d7) rfl (by omega)
   .rw[JS,sh.1];exact g0 (by omega) (by omega)
   .have B:(gP b).set i ((Ks c ((1:Int),1+u)).map pD)=gP (b.set i (Ks c (1,1+u))):=by
     show _=MU _ _;rw[N1]
    rw[B];refine am (bB rfl ⟨b.set i (Ks c (1,1+u)),rfl,⟨by rw[KO,sh.1],λq T=>?_⟩,F.set λq T=>?_,m⟩)
    .rcases Mf T with h|rfl
     .exact sh.2 q h
     .rw[LX]
    .rw[(NT.mp T).2]
     exact⟨by dsimp only;omega,by dsimp only;omega,by dsimp only;omega⟩
  .rw[J6 (by simpa using H)]
   exact cj (am (bB rfl ⟨b,rfl,sh,F,U⟩))
end
section
variable{K:Kt}{a:Ad}{β:Bg}
theorem JP(x y:List Int)(h:x.length+y.length<=1000):iO (hL x) (hL y)=on (hL (x++y)):=by
 cases x with
 |nil=>rfl
 |cons i x=>
  show(if(D.int i::x.map D.int).length+(y.map D.int).length<=Ki then _ else _)=_;rw[J8 (bo (by rw[Kq,JS,JS];simpa using h))];show on (D.tup (D.int i::x.map D.int++y.map D.int))=on (D.tup ((i::x++y).map D.int));rw[KC];rfl
theorem F7{f:FD}{δ:Dn}{l:List Int}(e:f δ β=on (.ok (hL l),β)):sj f (on (fC (.int 1))) JT δ β=on (.ok (hL (l.drop 1)),β):=by
 unfold sj gE;simp only[M.bind,e,M.ret,M.ofO,fC,kG,uX];rw[show(1:Int)=((1:Nat):Int)from rfl,fY,<-Nd]
theorem F8{f:FD}{δ:Dn}{l:List Int}(e:f δ β=on (.ok (hL l),β)):sj f JT (on (fC (.int 1))) δ β=on (.ok (hL (l.take 1)),β):=by
 unfold sj gE;simp only[M.bind,e,M.ret,M.ofO,fC,kG,uX];rw[show(1:Int)=((1:Nat):Int)from rfl,nJ,<-Oi]
theorem vC{ba:List R4}{ka:Int}{ja:Nat}{p:R4}(ha:ix ba.length ka=on ja)(b:ba[ja]?=on p):qv (.lst ((ba.map rL).map D.lst)) (.int ka)=on (.lst (rL p)):=by
 show lp _ _=_;unfold lp;rw[JS,JS,ha,MQ,J9,J9,b];rfl
theorem CG(ba:List R4):(ba.map rL).all noLs=JW:=MS.mpr λx b=>by
 obtain⟨p,_,rfl⟩:=J5.mp b;show(JW&&(noLs (p.2.1.map D.int)&&(JW&&(JW&&JW))))=JW;rw[gf];rfl
abbrev v3(R:List R4)(b:Nat)(c:Sl)(i w:Nat)(d:Option Sl):Ds:=[on (.sh .bag),on (.sh (tx R)),on (.sh (.int (b:Int))),on c,on (.sh (.int (i:Int))),on (.sh (.int (w:Int))),d]
abbrev lw(ba:List R4):List D:=ba.map λp=>D.lst (rL p)
theorem yd{α b:Type}(f:α->b):∀(l:List α) (i:Nat),(l.map f).eraseIdx i=(l.eraseIdx i).map f
 |[],_=>rfl
 |_::_,0=>rfl
 |x::l,i+1=>La (f x::·) (yd f l i)
theorem rF(ba:List R4):(ba.map rL).map D.lst=lw ba:=by rw[Kb];rfl
def Sb(s:Sl):Prop:=∃ba:List R4,ba.length<=1000/\(s= .grd (ba.map rL)\/s= .own (lw ba)\/s= .sh (.lst (lw ba)))
theorem jf{R ba:List R4}{p p':R4}{b i w:Nat}{ka kb:Int}{ja jb:Nat}{d:D}{e f g:FD}{h:G}{Q:nj->Bg->Prop}{c:Option Sl}(j:ba[ja]?=on p)(ha:ix ba.length ka=on ja)(l:ix 4 kb=on jb)(ep:(rL p).set jb d=rL p')(hn:noL d=JW)(m:g (fw (v3 R b (.grd (ba.map rL)) i w c)) β=on (.ok d,β))
  (n:e (fw (v3 R b (.grd (ba.map rL)) i w c)) β=on (.ok (.int ka),β)) (o:f (fw (v3 R b (.grd (ba.map rL)) i w c)) β=on (.ok (.int kb),β)) (k:Gw h (v3 R b (.grd ((ba.set ja p').map rL)) i w c) β Q):Gw (aF (jC 3 e f g) h) (v3 R b (.grd (ba.map rL)) i w c) β Q:=by
 refine BQ (d:=d) (ba:=ba.map rL) (ds:=rL p) (ka:=ka) (kb:=kb) (ja:=ja) (jb:=jb) m n o rfl (by rw[JS];exact ha) (by rw[J9,j];rfl) l hn ?_;rw[ep,<-N1];exact k
def RP(p:R4):Prop:=p.2.1.length<=4/\bO p.2.2.1=JW/\bO p.2.2.2=JW
abbrev Po(R:List R4)(d i w:Nat)(β:Bg):nj->Bg->Prop:=λo β1=>∃b,o= .nx b/\β=β1/\∃c e,b=v3 R d c i w e/\Sb c
section
variable{R:List R4}{wh i w:Nat}{s6:Option Sl}{p:R4}
theorem rb{ba:List R4}(h:ba.length<=1000):Gw gNil (v3 R wh (.grd (ba.map rL)) i w s6) β (Po R wh i w β):=aQ ⟨_,rfl,rfl,_,_,rfl,ba,h,.inl rfl⟩
theorem Vu(b:wh=2\/wh=3)(p:R4):ix 4 (wh:Int)=on wh/\∃y,qv (.lst (rL p)) (.int (wh:Int))=on (.int y)/\∀x:Int,∃p',(rL p).set wh (.int x)=rL p':=by
 rcases b with rfl|rfl
 .exact⟨rfl,p.2.2.1,rfl,λx=>⟨(p.1,p.2.1,x,p.2.2.2),rfl⟩⟩
 .exact⟨rfl,p.2.2.2,rfl,λx=>⟨(p.1,p.2.1,p.2.2.1,x),rfl⟩⟩
theorem BP{g:G}{n:Nat}{δ:Ds}{Q:nj->Bg->Prop}(k:Gw g (th n δ) β Q):Gw (WJ n g) δ β Q:=k
theorem Xi(n:Nat)(b:i<n):∃j,j<n/\ix n ((i:Int)-1)=on j:=by
 unfold ix;by_cases z:0<=(i:Int)-1
 .exact⟨i-1,by omega,by rw[J8 z,J8 (by omega),show((i:Int)-1).toNat=i-1 by omega]⟩
 .exact⟨n-1,by omega,by rw[J6 z,J8 (by omega),show((i:Int)-1+(n:Int)).toNat=n-1 by omega]⟩
theorem Xh(n:Nat)(hn:1<=n):ix n (-1)=on (n-1):=by
 unfold ix;rw[J6 (by decide),J8 (by omega),show((-1:Int)+(n:Int)).toNat=n-1 by omega]
theorem wX{ba:List R4}(f:R4->R4){b:FL}(c:ba.length<=1000)(d:∀p∈ba,b [on (.lst (rL p))] β=on (.ok (rL (f p)),β)):Gw (Vt 3 (oI 3 (gl 1 [] (fA (aB 3)) (jn 0) (λ_=>M.ret JW) (oU b)))) (v3 R wh (.grd (ba.map rL)) i w s6) β (Po R wh i w β):=by
 refine mw (am (uG (ba:=(ba.map f).map rL) (β1:=β) ?_ (CG _) (rb (by rw[JS];exact c))));rw[Kb];exact ku ba (λp=>D.lst (rL p)) (λp=>rL (f p)) (cL (x:= .lst (lw ba)) (by show on (M3 (D.lst ((ba.map rL).map D.lst)),β)=_;rw[rF]) rfl) (λp e=>⟨_,rfl,d p e⟩) (bo c)
theorem Gb{cs:List D}{k:Int}{j n:Nat}{fl:FL}{h:G}{δ:Ds}{β1:Bg}{Q:nj->Bg->Prop}(b:δ.getD n JT=on (.own cs))(e:fl (vw δ) β=on (.ok [.int k],β1))(c:ix cs.length k=on j)(d:cs.length<=Ki)(f:Gw h (δ.set n (on (.own (cs.eraseIdx j)))) β1 Q):Gw (aF (qk n fl) h) δ β Q:=ci (by unfold qk;simp only[b,e,c,d,K8]) f
theorem Gd{cs:List D}{k:Int}{n j:Nat}{d:D}{h:G}{δ:Ds}{Q:nj->Bg->Prop}(b:δ.getD n JT=on (.own cs))(c:δ.getD j JT=on (.sh (.int k)))(e:lp cs k=on d)(f:cs.length<Ki)(g:Gw h (δ.set n (on (.own (cs++[d])))) β Q):Gw (aF (qo n j) h) δ β Q:=ci (by unfold qo;simp only[b,c,e,f,K8]) g
theorem He{x:Int}(h:bO x=JW):rA (.int 2) (.int x)=on (.int (2*x)):=by
 have b:bO 2=JW:=by
  unfold bO;exact Km (Ku (by decide:2<2^2) (PZ (by decide) (by decide)))
 show(if(bO 2&&bO x)=JW then _ else _)=_;rw[b,h];rfl
theorem HP{x y z v:D}:sG (.lst [x,y,z,v]) (.lst [])=on [x,y,z,v]:=HN (xs:=[x,y,z,v]) (ys:=[]) (by show 4<=1000;decide)
theorem Uu(l:List Int):noL (hL l)=JW:=gf l
theorem FY(h0:1<=R.length)(h1:R.length<=900)(U:∀p∈R,RP p)(C:wh=2\/wh=3)(ok:β.ok):∃(ba:List R4) (b:Bg),(jj K a).1 [.bag,tx R,.int (wh:Int)] β=on (.ok (tx ba),b)/\b.ok:=by
 suffices h:∃x b,(jj K a).1 [.bag,tx R,.int (wh:Int)] β=on (x,b)/\(∃ba,x= .ok (tx ba)/\b.ok) by
  obtain⟨x,b,e,ba,rfl,F⟩:=h;exact⟨ba,b,e,F⟩
 unfold jj
 dsimp only
 refine nQ ?_;refine uG (ba:=R.map rL) (β1:=β) (ku R rD rL rfl (λp _=>⟨[on (rD p)],rfl,rfl⟩) (bo (by omega))) (CG _) ?_;obtain⟨i,β1,p1,i0,i1,H⟩:=bU ok (lot:=(R.length:Int)) (by omega) (by omega);obtain⟨w,β2,p2,w0,w1,I⟩:=bU H (lot:=11) (by decide) (by decide);obtain⟨i,rfl⟩:∃n:Nat,i=(n:Int):=⟨i.toNat,by omega⟩;obtain⟨w,rfl⟩:∃n:Nat,w=(n:Int):=⟨w.toNat,by omega⟩;have J:i<R.length:=by omega
 have v:R[i]?=on R[i]:=JX J;have t:ix R.length (i:Int)=on i:=by rw[g0 (by omega) (by omega),Lm]
 have u:=vC t v;have B:=U _ (K5 J);refine Ga (ax (ae rfl (ae (ak rfl (fW (r:=R.length) (by rw[JS,JS]))) rfl)) p1) (aJ (ax rfl p2) ?_);show Gw _ (v3 R wh (.grd (R.map rL)) i w JT) β2 _
 let cp:Nat->Ds->Bg->Prop:=λn δ β=>β2=β/\∃l s6,δ=v3 R wh l i w s6/\((n<=w/\l= .grd (R.map rL))\/(w<n/\Sb l))
 have step:∀{n:Nat} {g:G} {δ:Ds} {β:Bg},cp n δ β->(w=n->∀s6,Gw g (v3 R wh (.grd (R.map rL)) i w s6) β2 (Po R wh i w β2))->Gw (t_ (fB (f2 gz (aB 5) (fC (.int (n:Int))))) g gNil) δ β (λo β1=>∃m,o= .nx m/\cp (n+1) m β1):=by
  rintro n g δ β ⟨rfl,l,s6,rfl,hs⟩ k;refine am (n6 (β1:=β2) (k_ (dq rfl rfl eq_int)) ?_);by_cases q:w=n
  .rw[J8 (Km (by omega))]
   rcases hs with⟨_,rfl⟩|⟨z,_⟩
   .obtain⟨o,β3,e,m,rfl,rfl,l,L,rfl,sb⟩:=k q s6
    exact ci e (aQ ⟨_,rfl,rfl,l,L,rfl,.inr ⟨by omega,sb⟩⟩)
   .omega
  .rw[J6 (λz=>q (by have:=Mp z;omega))]
   refine cj (aQ ⟨_,rfl,rfl,l,s6,rfl,hs.imp (λz=>⟨by omega,z.2⟩) λz=>⟨by omega,z.2⟩⟩)
 refine fZ (cp 2) (am (n6 (β1:=β2) (k_ (dq rfl rfl lt_int)) ?_)) ?_
 .by_cases q:w<2
  .rw[J8 (Km (by omega))]
   obtain⟨b1,y,e,f⟩:=Vu C R[i];obtain⟨p',ep⟩:=f (y+1-2*(w:Int));exact jf v t b1 ep rfl (dq (dq (dq (dq rfl rfl u) rfl e) rfl rfl) (dq rfl rfl (xE (by omega) (by omega))) rfl) rfl rfl (aQ ⟨_,rfl,rfl,_,JT,rfl,.inr ⟨q,_,by rw[KO];omega,.inl rfl⟩⟩)
  .rw[J6 (λz=>q (by have:=Mp z;omega))]
   exact cj (aQ ⟨_,rfl,rfl,_,JT,rfl,.inl ⟨by omega,rfl⟩⟩)
 intro δ β F;refine fZ (cp 3) (step (n:=2) F λ_ s6=>?_) ?_
 .refine BP (am (Gb (cs:=(R.map rL).map D.lst) (k:=(i:Int)) (j:=i) rfl rfl (by rw[JS,JS];exact t) (bo (by rw[JS,JS];omega)) (aQ ⟨_,rfl,rfl,.own (lw (R.eraseIdx i)),s6,?_,R.eraseIdx i,Kl (List.length_eraseIdx_le _ _) (by omega),.inr (.inl rfl)⟩)))
  rw[rF];unfold lw;rw[<-yd];rfl
 intro δ β h3;refine fZ (cp 4) (step (n:=3) h3 λ_ s6=>?_) ?_
 .refine BP (am (Gd (cs:=(R.map rL).map D.lst) (k:=(i:Int)) rfl rfl u (LF (show _<=1000 by rw[JS,JS];omega) (by decide)) (aQ ⟨_,rfl,rfl,.own (lw (R++[R[i]])),s6,?_,R++[R[i]],by rw[Kg,KQ];omega,.inr (.inl rfl)⟩)))
  rw[rF];show[_,_,_,on (Sl.own (lw R++[_])),_,_,_]=[_,_,_,on (Sl.own ((R++[R[i]]).map _)),_,_,_];rw[KC];rfl
 intro δ β h4;refine fZ (cp 5) (step (n:=4) h4 λ_ s6=>?_) ?_
 .refine mw (am (aJ (d:= .lst (lw (R.drop 1++R.take 1))) (β1:=β2) (dq (gb (xs:=(R.map rL).map D.lst) rfl rfl) (n5 (xs:=(R.map rL).map D.lst) rfl rfl) ?_) (aQ ⟨_,rfl,rfl,_,s6,rfl,R.drop 1++R.take 1,by rw[Kg,NE,Lk];omega,.inr (.inr rfl)⟩)))
  rw[show dA ((R.map rL).map D.lst) (on 1) JT=((R.map rL).map D.lst).drop 1 from fY (k:=1),show dA ((R.map rL).map D.lst) JT (on 1)=((R.map rL).map D.lst).take 1 from nJ (k:=1),rF,jd (by rw[NE,Lk,JS];omega)];unfold lw;rw[KC,Nd,Oi]
 intro δ β h5;refine fZ (cp 6) (step (n:=5) h5 λ_ s6=>?_) ?_
 .refine wX (λp=>(p.1,p.2.1,2*p.2.2.1,2*p.2.2.2)) (by omega) λp B=>?_
  obtain⟨_,q1,q2⟩:=U p B;exact F9 (dq ((n5 (xs:=rL p) rfl rfl).trans (by rw[show dA (rL p) JT (on 2)=[.int p.1,hL p.2.1]from nJ (k:=2)])) (ak (ae (dq rfl (dq rfl rfl rfl) (He q1)) (ae (dq rfl (dq rfl rfl rfl) (He q2)) rfl)) Hg) (jd (by show 4<=1000;decide))) ((gb (xs:=rL p) rfl rfl).trans (by rw[show dA (rL p) (on 4) JT=[]from fY (k:=4)])) HP
 intro δ β h6;refine fZ (cp 7) (step (n:=6) h6 λ_ s6=>?_) ?_
 .refine wX (λp=>(p.1,p.2.1,p.2.2.1+1,p.2.2.2+1)) (by omega) λp B=>?_
  exact F9 (dq ((n5 (xs:=rL p) rfl rfl).trans (by rw[show dA (rL p) JT (on 2)=[.int p.1,hL p.2.1]from nJ (k:=2)])) (ak (ae (dq (dq rfl rfl rfl) rfl rfl) (ae (dq (dq rfl rfl rfl) rfl rfl) rfl)) Hg) (jd (by show 4<=1000;decide))) ((gb (xs:=rL p) rfl rfl).trans (by rw[show dA (rL p) (on 4) JT=[]from fY (k:=4)])) HP
 intro δ β h7;refine fZ (cp 8) (step (n:=7) h7 λ_ s6=>?_) ?_
 .exact am (jf (p':=(R[i].1,R[i].2.1.drop 1++R[i].2.1.take 1,R[i].2.2)) v t rfl rfl (Uu _) (dq (F7 (dq (dq rfl rfl u) rfl rfl)) (F8 (dq (dq rfl rfl u) rfl rfl)) (JP _ _ (by have:=B.1;rw[NE,Lk];omega))) rfl rfl (rb (by rw[KO];omega)))
 intro δ β h8;refine fZ (cp 9) (step (n:=8) h8 λ_ s6=>?_) ?_
 .obtain⟨j,W,X⟩:=Xi R.length J
  have ej:R[j]?=on R[j]:=JX W;have c:(R.set i (R[i].1,R[j].2.1,R[i].2.2)).length=R.length:=KO;have A:(R.set i (R[i].1,R[j].2.1,R[i].2.2))[j]?=on (R.set i (R[i].1,R[j].2.1,R[i].2.2))[j]:=JX (by rw[c];exact W);generalize hq:(R.set i (R[i].1,R[j].2.1,R[i].2.2))[j]=q at A;exact wj (d:=hL R[i].2.1) (β1:=β2) (dq (dq rfl rfl u) rfl rfl) (jf (p':=(R[i].1,R[j].2.1,R[i].2.2)) v t rfl rfl (Uu _) (dq (dq rfl (dq rfl rfl rfl) (vC X ej)) rfl rfl) rfl rfl (am (jf (p':=(q.1,R[i].2.1,q.2.2)) A (by rw[c];exact X) rfl rfl (Uu _) rfl (dq rfl rfl rfl) rfl (rb (by rw[KO,c];omega))))) (Uu _)
 intro δ β h9;refine fZ (cp 10) (step (n:=9) h9 λ_ s6=>?_) ?_
 .exact am (jf (p':=(R[i].1+1,R[i].2)) v t rfl rfl rfl (dq (dq (dq rfl rfl u) rfl rfl) rfl rfl) rfl rfl (rb (by rw[KO];omega)))
 intro δ β N;refine fZ (cp 11) (step (n:=10) N λ_ s6=>?_) ?_
 .have Y:R[0]?=on R[0]:=JX (by omega)
  have Z:ix R.length 0=on 0:=by
   have:=g0 (n:=R.length) (k:=0) (by omega) (by omega);exact this
  obtain⟨b1,y,e,f⟩:=Vu C R[0];obtain⟨p',ep⟩:=f (y+1);have c:(R.set 0 p').length=R.length:=KO;have O:(R.set 0 p')[R.length-1]?=on (R.set 0 p')[R.length-1]:=JX (by rw[c];omega);have a1:ix (R.set 0 p').length (-1)=on (R.length-1):=by rw[c];exact Xh _ h0
  generalize (R.set 0 p')[R.length-1]=q at O;obtain⟨b2,y2,e2,Q⟩:=Vu C q;obtain⟨q',T⟩:=Q (y2+1);exact jf Y Z b1 ep rfl (dq (dq (dq rfl rfl (vC Z Y)) rfl e) rfl rfl) rfl rfl (am (jf O a1 b2 T rfl (dq (dq (dq rfl (WG rfl rfl) (vC a1 O)) rfl e2) rfl rfl) (WG rfl rfl) rfl (rb (by rw[KO,c];omega))))
 rintro δ β ⟨rfl,l,s6,rfl,hs⟩;rcases hs with⟨z,_⟩|⟨_,ba,hl,hs⟩
 .omega
 have e:fA (aB 3) (fw (v3 R wh l i w s6)) β2=on (.ok (lw ba),β2):=by
  rcases hs with rfl|rfl|rfl
  .show on (M3 ((ba.map rL).map D.lst),β2)=_
   rw[rF]
  .rfl
  .rfl
 exact am (bB (bS ba (λp=>D.lst (rL p)) rD e (λp _=>⟨[on (.lst (rL p))],rfl,rfl⟩) (bo hl)) ⟨ba,rfl,I⟩)
end
end
section
variable{K:Kt}{a:Ad}{β:Bg}{rs cs:List Nat}{W:Wy}
theorem IX{i:Bool}:eM K a 5 [.bl i,.bl i] β=on (.ok (.bl JW),β):=by
 show f8 2 (jB K a (eM K a 4)) _ _=_;refine br ?_;unfold jB;refine eV (β1:=β) (uB (x:= .bl JZ) (ak rfl rfl) rfl) (cj ?_);refine eV (β1:=β) (k_ (dq rfl rfl rfl)) (cj ?_);refine eV (β1:=β) (uC (k_ (dq (ak rfl rfl) (ak rfl rfl) rfl)) (k_ (dq (ak rfl rfl) (ak rfl rfl) rfl))) (cj ?_);exact am (bB (DC (ak rfl rfl) (dq rfl rfl (by cases i<;>rfl))) ⟨rfl,rfl⟩)
theorem qE:∀{xs:List Int},(∀x∈xs,0<=x)->∃l:List Nat,xs=nI l
 |[],_=>⟨[],rfl⟩
 |x::xs,h=>by
  obtain⟨l,e⟩:=qE λy b=>h y (J1 _ b);have:=h x J2;exact⟨x.toNat::l,by rw[e];show _=((x.toNat:Nat):Int)::_;rw[Int.toNat_of_nonneg this]⟩
theorem Vw:∀x,x<8->∀y,y<8-x->(x+1)*((y+1)*1)<=500/\(x+1)*1<=20:=by decide
theorem Vv:∀x,x<8->∀y,y<8-x->∀z,z<8-x-y->(x+1)*((y+1)*((z+1)*1))<=500/\(x+1)*((y+1)*1)<=20:=by decide
theorem few:∀{rs:List Nat},1<=rs.length->rs.length<=3->rs.sum<=7->B_ rs/\pr (rs.dropLast.map (·+1))<=20
 |[x],_,l,h=>by
  simp at h;exact⟨⟨by show 1<=1;decide,by omega,by simp;omega,by show(x+1)*1<=500;omega⟩,by show 1<=20;decide⟩
 |[x,y],_,l,h=>by
  have q:=Vw x (by simp at h;omega) y (by simp at h;omega);exact⟨⟨by show 1<=2;decide,by omega,by omega,q.1⟩,q.2⟩
 |[x,y,z],_,l,h=>by
  have q:=Vv x (by simp at h;omega) y (by simp at h;omega) z (by simp at h;omega);exact⟨⟨by show 1<=3;decide,by omega,by omega,q.1⟩,q.2⟩
 |[],h,_,_=>by simp at h
 |_::_::_::_::_,_,h,_=>by simp at h
theorem W5{r c:Nat}{b:LP}(h:TZ r c b):∃B,b=jG B/\zv r c B:=by
 have e:b=jG (b.map λd=>d.map λp=>(p.1.toNat,p.2.toNat)):=by
  unfold jG;rw[Kb];refine(QC b).symm.trans (K9 λd i=>?_);show d=MU _ (MU _ d);rw[Kb];refine(QC d).symm.trans (K9 λp j=>?_);obtain⟨a1,a2,a3⟩:=h.ok d i p j;exact Mu (show p.1=((p.1.toNat:Nat):Int) by omega) (show p.2=((p.2.toNat:Nat):Int) by omega)
 refine⟨_,e,h.shp.map,λd i p j=>?_⟩;obtain⟨f,k,rfl⟩:=J5.mp i;obtain⟨g,l,rfl⟩:=J5.mp j;obtain⟨a1,a2,a3⟩:=h.ok f k g l;show g.1.toNat<=g.2.toNat/\g.2.toNat<=40;omega
theorem BW:∀(j k:Nat) (r:List Nat),o1 W j k r<=ri W j k r
 |0,_,_=>J3 _
 |j+1,k,r=>jT (PM _) λv _=>Kl (BW j (k+1) (less r v)) (RN _ (rB v))
theorem Jt(d:y1 cs W)(hs:rs.sum=cs.sum):(ff W rs cs.length).length<=1:=by
 have nd:=kg (W:=W) (rs:=rs) cs.length;have al:∀r∈ff W rs cs.length,r=Ks rs.length 0:=λr f=>by
  obtain⟨b,c⟩:=fE d hs _ (J3 _) r f;rw[NA,List.sum_nil]at c;exact List.eq_replicate_iff.mpr ⟨b.len,λx g=>by have:=fX g;omega⟩
 rcases e:ff W rs cs.length with _|⟨x,_|⟨y,l⟩⟩
 .exact Lq _
 .exact J3 _
 .rw[e]at nd al
  have b:=al x J2;have c:=al y (J1 _ J2);exact Kx (b.trans c.symm) (List.rel_of_pairwise_cons nd J2)
theorem um(b:y1 cs W)(hs:rs.sum=cs.sum)(c:pr (rs.dropLast.map (·+1))<=20):∀t,t<cs.length->(mm W rs cs.length (t+1)).length<=1+20*t
 |0,_=>by
  rw[hG,Kg,JS,PD];have:=Jt b hs;show 0+_<=_;omega
 |t+1,h=>by
  have:=um b hs c t (by omega);have:=tT b hs (k:=cs.length-(t+1)) (by omega);rw[hG,Kg,JS];omega
theorem zy(β:Bg)(ok:β.ok):∃g,(mV K a).1 [JT,on (.sh .bag),JT,JT,JT,JT,JT,JT,JT] β=on (.rt (.bl JW),g):=by
 suffices h:Gw (mV K a).1 [JT,on (.sh .bag),JT,JT,JT,JT,JT,JT,JT] β (λo _=>o= .rt (.bl JW)) by
  obtain⟨o,g,e,rfl⟩:=h;exact⟨g,e⟩
 obtain⟨t,β1,p1,t0,t1,u⟩:=bU ok (lot:=8) (by decide) (by decide);obtain⟨r,β2,p2,r0,r1,A⟩:=bU u (lot:=3) (by decide) (by decide);obtain⟨t,rfl⟩:∃n:Nat,t=(n:Int):=⟨t.toNat,by omega⟩;obtain⟨r,rfl⟩:∃n:Nat,r=(n:Int):=⟨r.toNat,by omega⟩;obtain⟨xs,β3,e3,lx,nx,sx,C⟩:=mK (K:=K) (a:=a) (n:=1+r) (m:=t) (by omega) (by omega) (by omega) A;obtain⟨c,β4,p4,c0,c1,F⟩:=bU C (lot:=4) (by decide) (by decide);obtain⟨c,rfl⟩:∃n:Nat,c=(n:Int):=⟨c.toNat,by omega⟩;obtain⟨ys,β5,e5,ly,ny,sy,H⟩:=mK (K:=K) (a:=a) (n:=1+c) (m:=t) (by omega) (by omega) (by omega) F;obtain⟨rs,rfl⟩:=qE λx I=>(nx x I).1;obtain⟨cs,rfl⟩:=qE λx I=>(ny x I).1;rw[JS]at lx ly;rw[m5]at sx sy;obtain⟨b,d,e6,X,pb,J⟩:=yK (K:=K) (a:=a) (r:=rs.length) (c:=cs.length) (by omega) (by omega) (by omega) (by omega) H;obtain⟨B,rfl,hB⟩:=W5 ⟨X,pb⟩;obtain⟨nr,L⟩:=few (rs:=rs) (by omega) (by omega) (by omega);have f:UG rs cs:=⟨nr,by omega,by omega,by omega,by omega⟩;have i:si K a rs cs (wB B cs) (pq B):=⟨f,uH B cs,λ{β k r} N O e=>uw O (by rw[e];exact hB) (by rw[<-f.sm];exact f.nr.2.2.1) N⟩;have dl:(mm (wB B cs) rs cs.length (cs.length+1)).length<64:=by
  have:=um i.ok f.sm L (cs.length-1) (by omega);rw[show cs.length-1+1=cs.length by omega]at this;rw[hG,Kg,JS,N6,show ff (wB B cs) rs 0=[rs]from rfl,KQ];omega
 have l9:(j0 (wB B cs) rs cs.length).length<=900:=Kl (dX (n:=62) λk N=>by
  have:=Kw.mp N;rw[JS];exact gZ i (by omega)) (by rw[KD];omega)
 have O:∀p∈(j0 (wB B cs) rs cs.length).map (z_ (wB B cs) cs.length),RP p:=λp hp=>by
  obtain⟨q,hq,rfl⟩:=J5.mp hp;obtain⟨q1,q2⟩:=xC.mp hq;obtain⟨_,n2,n3⟩:=i.at q1 q2;have Q:=(fE i.ok f.sm q.1 q1 _ q2).2;have Y:ri (wB B cs) (cs.length-q.1) q.1 q.2<=2^160:=Kl (nE i.ok _ _ _ (by omega)) (by rw[i9 _ _ Q];exact vd n3);refine⟨?_,Km (db (Kl (BW _ _ _) Y) (by decide)),Km (db Y (by decide))⟩;show(nI q.2).length<=4;rw[JS];omega
 have hn:(j0 (wB B cs) rs cs.length).map (z_ (wB B cs) cs.length)=(0,nI rs,((o1 (wB B cs) cs.length 0 rs:Nat):Int),((ri (wB B cs) cs.length 0 rs:Nat):Int))::((j0 (wB B cs) rs cs.length).map (z_ (wB B cs) cs.length)).tail:=by
  unfold j0;rw[RI,Lh,show ff (wB B cs) rs 0=[rs]from rfl];rfl
 have hd:=λ(l:List R4) (β:Bg)=>zI (K:=K) (a:=a) (β:=β) f hB (by omega) l;have co:=λ(β:Bg)=>yj (K:=K) (a:=a) (β:=β) (ba:=gP (jG B)) (by rw[JS,X.1];omega);have le:=FE (K:=K) (a:=a) (β:=d) i hB dl;have lm:((j0 (wB B cs) rs cs.length).map (z_ (wB B cs) cs.length)).length<=900:=by rw[JS];exact l9
 have tl:(lst (wB B cs) rs cs.length).length=o1 (wB B cs) cs.length 0 rs:=EY _;generalize (j0 (wB B cs) rs cs.length).map (z_ (wB B cs) cs.length)=R at*;have ls:=vj (K:=K) (a:=a) (β:=d) nr f.sm f.c6 (by omega) hB;generalize o1 (wB B cs) cs.length 0 rs=T at*;obtain⟨v,β7,p7,v0,v1,U⟩:=bU J (lot:=2) (by decide) (by decide);obtain⟨w,hw,ew⟩:∃w:Nat,(w=2\/w=3)/\2+v=(w:Int):=⟨(2+v).toNat,by omega,by omega⟩;obtain⟨R',j,e8,ok8⟩:=FY (K:=K) (a:=a) (by rw[hn];exact Nat.le_add_left _ _) lm O hw U;have Z:∀(k n:Nat),iO (.int (k:Int)) (.int (n:Int))=on (.int ((k+n:Nat):Int)):=λk n=>by show on (D.int _)=_;rw[PL]
 unfold mV
 dsimp only
 refine aJ (ax rfl p1) (aJ (ax (ae rfl (ae (dq rfl (ax rfl p2) (Z 1 r)) rfl)) e3) (aJ (ax (ae rfl (ae (dq rfl (ax rfl p4) (Z 1 c)) rfl)) e5) ?_));refine aJ (ax (ae rfl (ae (ak rfl (kh rs)) (ae (ak rfl (kh cs)) rfl))) e6) (aJ (ax rfl le) ?_);refine eV (β1:=d) (k_ (dq (x:= .int (T:Int)) (y:= .int (T:Int)) (dq (dq rfl rfl (cT (by rw[J9,hn];rfl))) rfl rfl) (ak (ae (ax rfl ls) rfl) (fW (by rw[JS];exact tl))) (ne_int.trans (by simp)))) (cj ?_);refine eV (β1:=d) (k_ (dq (x:= .bl JW) (sP rfl (ae (ax rfl (co d)) rfl) ((hd R d).trans (by rw[Km rfl]))) rfl rfl)) (cj ?_);refine aJ (ax (ae rfl (ae rfl (ae (dq rfl (ax rfl p7) (by show on (D.int _)=_;rw[ew])) rfl))) e8) ?_;refine aJ (sP rfl (ae (ax rfl (co j)) rfl) (hd R' j)) (am (bB (ax (ae rfl (ae (dq rfl rfl (ye _ _)) rfl)) IX) rfl))
noncomputable abbrev E(P:Rf)(n:String)(t:Nat)(v:J0):Mo:=⟨PyData.keyHash P (LQ n),.str (LQ n) t,v⟩
noncomputable abbrev FN(x q:K2)(s:LM)(c d b e:J0)(f:Option JY)(cd ct:J0):KJ:=NY x q (gH s) (cK s) (ah s) c d b e f cd ct
noncomputable abbrev fO(f:KJ):KS:=⟨.type "function",JT,.func f,#[]⟩
noncomputable abbrev tO(l:List J0):KS:=⟨.type "tuple",JT,.seq l.toArray 0,#[]⟩
noncomputable abbrev cO(l:List J0):KS:=⟨.type "code",JT,.fields l.toArray,#[]⟩
noncomputable abbrev eB(P:Rf)(n:String)(t:Nat):Mo:=E P n t (.builtin n)
noncomputable abbrev eT(P:Rf)(n:String)(t:Nat):Mo:=E P n t (.type n)
noncomputable abbrev eR(P:Rf)(n:String)(t r:Nat):Mo:=E P n t (.ref r)
noncomputable abbrev nO(l:List J0):KS:=⟨.none,JT,.fields l.toArray,#[]⟩
noncomputable abbrev fB(x q:K2)(s:LM):KS:=⟨.none,JT,.func ⟨x,q,gH s,.stmts (cK s),ah s,0,[],.none,.none,.none,.none,JT,.none,.none,0⟩,#[]⟩
noncomputable abbrev cC(n q:K2)(t l a po c fl r:Nat)(b:Bool)(d e:Nat)(x y z w:J0)(u f v:Nat):KS:=cO [.str n t,.str q (t+1),.str "/claim/cut.py" (t+2),.int l 0,.int a 0,.int po 0,.int c 0,.int fl 0,.ref r,.bool b,.int d 0,.ref e,x,y,z,w,.int u 0,.int f 0,.str "/claim/cut.py" v]
noncomputable abbrev cF(n:K2)(t l a b r c u:Nat):KS:=cC n n t l a 0 b 3 r JW c (r+1) .none .none .none (.ref (r+2)) u l (u+1)
noncomputable abbrev cG(n:K2)(t l a b r c u:Nat):KS:=cC n n t l a 0 b 3 r JW c (r+1) .none (.ref (r+2)) (.ref (r+3)) (.ref (r+4)) u l (u+1)
noncomputable abbrev fM(m:K2)(t:Nat)(x:K2)(i c:Nat):KS:=fO (FN x x (c_ i) .none .none .none (.str m t) JT (.ref c) .none)
abbrev Xn:List J0:=[(.ref 31),(.type "ValueError"),(.type "Exception"),(.type "BaseException"),(.type "object")]
noncomputable abbrev Um(x:K2)(a d b t u:Nat):KS:=⟨(.type "type"),JT,(.cls ⟨x,[(.ref 31)],(.ref a)::Xn,d,x,JW,[],[],JZ,JT,JZ⟩),#[(on (.ref b)),JT,(on (.str x t)),(on (.str x u)),(on (.builtin "ValueError.__new__")),(on (.bool JW))]⟩
noncomputable abbrev T8(n:Nat):KS:=⟨(.type "builtin_function_or_method"),JT,(.fields #[(.builtin "object.__init_subclass__"),(.ref n)]),#[]⟩
noncomputable abbrev nq:J0:= .str "edgetally.errors" 187
noncomputable abbrev Uo:J0:= .str "__main__" 164
noncomputable abbrev fL(x q:K2)(i c:Nat):KS:=fO (FN x q (c_ i) .none .none .none (.str "law_edgetally_k21_papers_of_no_table" 460) JT (.ref c) .none)
noncomputable def WI:List Nat->List J0
 |a::b::c::l=> .int a 0:: .int b 0:: .ref c::WI l
 |_=>[]
noncomputable abbrev nT(l:List Nat):KS:=nO (WI l)
noncomputable def WL:Nat->List K2->List J0
 |_,[]=>[]
 |t,x::l=> .str x t::WL (t+1) l
noncomputable abbrev tS(t:Nat)(l:List K2):KS:=tO (WL t l)
noncomputable def fD(o:KS):KJ:=match o.data with
 | .func f=>f
 |_=>FN "" "" (c_ 0) .none .none .none .none JT .none .none
end
section
variable(P:Rf)
def b0:KS:=⟨(.type "dict"),JT,(.dict #[(E P "__name__" 1 (.str "builtins" 160)),(E P "__doc__" 2 (.builtin "builtins.__doc__:str#opaque")),(E P "__package__" 3 (.builtin "builtins.__package__:str#opaque")),(E P "__loader__" 4 (.builtin "builtins.__loader__:shared#opaque")),(E P "__spec__" 5 (.builtin "builtins.__spec__#opaque")),(eB P "__build_class__" 6),(eB P "__import__" 7),(eB P "abs" 8),(eB P "all" 9),(eB P "any" 10),(eB P "ascii" 11),(eB P "bin" 12),(eB P "breakpoint" 13),(eB P "callable" 14),(eB P "chr" 15),(eB P "compile" 16),(eB P "delattr" 17),(eB P "dir" 18),(eB P "divmod" 19),(eB P "eval" 20),(eB P "exec" 21),(eB P "format" 22),(eB P "getattr" 23),(eB P "globals" 24),(eB P "hasattr" 25),(eB P "hash" 26),(eB P "hex" 27),(eB P "id" 28),(eB P "input" 29),(eB P "isinstance" 30),(eB P "issubclass" 31),(eB P "iter" 32),(eB P "aiter" 33),(eB P "len" 34),(eB P "locals" 35),(eB P "max" 36),(eB P "min" 37),(eB P "next" 38),(eB P "anext" 39),(eB P "oct" 40),(eB P "ord" 41),(eB P "pow" 42),(eB P "print" 43),(eB P "repr" 44),(eB P "round" 45),(eB P "setattr" 46),(eB P "sorted" 47),(eB P "sum" 48),(eB P "vars" 49),(E P "None" 50 .none),(E P "Ellipsis" 51 .ellipsis),(E P "NotImplemented" 52 .notImplemented),(E P "False" 53 (.bool JZ)),(E P "True" 54 (.bool JW)),(eT P "bool" 55),(eT P "memoryview" 56),(eT P "bytearray" 57),(eT P "bytes" 58),(eT P "classmethod" 59),(eT P "complex" 60),(eT P "dict" 61),(eT P "enumerate" 62),(eT P "filter" 63),(eT P "float" 64),(eT P "frozenset" 65),(eT P "property" 66),(eT P "int" 67),(eT P "list" 68),(eT P "map" 69),(eT P "object" 70),(eT P "range" 71),(eT P "reversed" 72),(eT P "set" 73),(eT P "slice" 74),(eT P "staticmethod" 75),(eT P "str" 76),(eT P "super" 77),(eT P "tuple" 78),(eT P "type" 79),(eT P "zip" 80),(E P "__debug__" 81 (.bool JW)),(eT P "BaseException" 82),(eT P "BaseExceptionGroup" 83),(eT P "Exception" 84),(eT P "GeneratorExit" 85),(eT P "KeyboardInterrupt" 86),(eT P "SystemExit" 87),(eT P "ArithmeticError" 88),(eT P "AssertionError" 89),(eT P "AttributeError" 90),(eT P "BufferError" 91),(eT P "EOFError" 92),(eT P "ImportError" 93),(eT P "LookupError" 94),(eT P "MemoryError" 95),(eT P "NameError" 96),(eT P "OSError" 97),(eT P "ReferenceError" 98),(eT P "RuntimeError" 99),(eT P "StopAsyncIteration" 100),(eT P "StopIteration" 101),(eT P "SyntaxError" 102),(eT P "SystemError" 103),(eT P "TypeError" 104),(eT P "ValueError" 105),(eT P "Warning" 106),(eT P "FloatingPointError" 107),(eT P "OverflowError" 108),(eT P "ZeroDivisionError" 109),(eT P "BytesWarning" 110),(eT P "DeprecationWarning" 111),(eT P "EncodingWarning" 112),(eT P "FutureWarning" 113),(eT P "ImportWarning" 114),(eT P "PendingDeprecationWarning" 115),(eT P "ResourceWarning" 116),(eT P "RuntimeWarning" 117),(eT P "SyntaxWarning" 118),(eT P "UnicodeWarning" 119),(eT P "UserWarning" 120),(eT P "BlockingIOError" 121),(eT P "ChildProcessError" 122),(eT P "ConnectionError" 123),(eT P "FileExistsError" 124),(eT P "FileNotFoundError" 125),(eT P "InterruptedError" 126),(eT P "IsADirectoryError" 127),(eT P "NotADirectoryError" 128),(eT P "PermissionError" 129),(eT P "ProcessLookupError" 130),(eT P "TimeoutError" 131),(eT P "IndentationError" 132),(eT P "_IncompleteInputError" 133),(eT P "IndexError" 134),(eT P "KeyError" 135),(eT P "ModuleNotFoundError" 136),(eT P "NotImplementedError" 137),(eT P "PythonFinalizationError" 138),(eT P "RecursionError" 139),(eT P "UnboundLocalError" 140),(eT P "UnicodeError" 141),(eT P "BrokenPipeError" 142),(eT P "ConnectionAbortedError" 143),(eT P "ConnectionRefusedError" 144),(eT P "ConnectionResetError" 145),(eT P "TabError" 146),(eT P "UnicodeDecodeError" 147),(eT P "UnicodeEncodeError" 148),(eT P "UnicodeTranslateError" 149),(eT P "ExceptionGroup" 150),(E P "EnvironmentError" 151 (.type "OSError")),(E P "IOError" 152 (.type "OSError")),(eB P "open" 153),(E P "quit" 154 (.builtin "builtins.quit#opaque")),(E P "exit" 155 (.builtin "builtins.exit#opaque")),(E P "copyright" 156 (.builtin "builtins.copyright#opaque")),(E P "credits" 157 (.builtin "builtins.credits#opaque")),(E P "license" 158 (.builtin "builtins.license#opaque")),(E P "help" 159 (.builtin "builtins.help#opaque"))] 159),#[]⟩
def b1:KS:=⟨(.type "dict"),JT,(.dict #[(eR P "builtins" 162 4),(eR P "__main__" 163 5)] 2),#[]⟩
noncomputable def b2:KS:=⟨.none,JT,(.dict #[] 0),#[]⟩
def mL:List Mo:=[(E P "__name__" 165 (.str "law_edgetally_k21_papers_of_no_table" 460)),(E P "__doc__" 166 .none),(E P "__package__" 167 .none),(E P "__loader__" 168 (.builtin "__main__.__loader__#opaque")),(E P "__spec__" 169 .none),(eR P "__annotations__" 170 6),(eR P "__builtins__" 171 4),(E P "__file__" 173 (.str "/claim/cut.py" 172)),(E P "__cached__" 174 .none),(eR P "EdgeError" 216 31),(eR P "BadSums" 241 52),(eR P "BadBounds" 266 72),(eR P "TooWide" 291 91),(eR P "BadNumber" 316 111),(E P "MOST" 320 (.int 40 319)),(E P "MOST_ROWS" 322 (.int 4 321)),(E P "MOST_COLUMNS" 324 (.int 6 323)),(eR P "FREE" 326 114),(eR P "free" 333 120),(eR P "check_sums" 339 125),(eR P "check_pair" 348 132),(eR P "settled_bounds" 354 137),(eR P "factorial" 365 144),(eR P "ways" 374 151),(eR P "fillings" 380 156),(E P "WIDE" 384 (.int 500 383)),(eR P "check_wide" 393 163),(eR P "settled_for_net" 403 170),(eR P "column_fillings" 409 175),(eR P "rests_behind" 415 180),(eR P "nodes_by_level" 421 185),(eR P "node_counts" 435 192),(eR P "counted_nodes" 441 197),(eR P "paper_rows" 447 202),(eR P "net_holds" 459 210),(eR P "_law_bag" 467 215),(eR P "_law_pull" 478 222),(eR P "_law_same" 484 227),(eR P "_law_free" 490 232),(eR P "_law_copied" 496 237),(eR P "_law_fit" 502 242),(eR P "_law_less" 508 247),(eR P "_law_listing" 514 252),(eR P "_law_factorial" 523 259),(eR P "_law_ways" 532 266),(eR P "_law_scatter" 544 273),(eR P "_law_tight" 558 280),(eR P "_law_nodes" 564 285),(eR P "_law_counted" 570 290),(eR P "_law_bent" 576 295),(eR P "law" 591 302)]
noncomputable def b3:KS:=⟨(.type "dict"),JT,(.dict (mL P).toArray 51),#[]⟩
noncomputable def b4:KS:=⟨(.type "module"),(on 0),.plain,#[]⟩
noncomputable def b5:KS:=⟨(.type "module"),(on 3),.plain,#[]⟩
noncomputable def b6:KS:=⟨(.type "dict"),JT,(.dict #[] 0),#[]⟩
def b7:KS:=tO []
def b8:KS:=nO []
def b9:KS:=cC "<module>" "<module>" 176 1 0 0 0 0 7 JZ 175 8 .none .none .none .none 179 1 180
def b10:KS:=⟨(.type "frame"),JT,.plain,#[(on (.ref 9)),(on (.ref 3)),(on (.ref 3)),JT,(on Uo),JT,(on (.ref 0))]⟩
def Yr:KS:=nT [2,0,20,7,0,40,11,0,60,15,0,80,20,0,99,29,0,119,31,0,124,42,0,131,46,0,136,56,0,143,61,0,150,69,0,155,80,0,162,86,0,169,91,0,174,93,0,179,95,0,184,103,0,191,111,0,196,121,0,201,123,0,209,127,0,214,129,0,221,139,0,226,151,0,231,153,0,236,155,0,241,164,0,246,166,0,251,175,0,258,180,0,265,185,0,272,191,0,279,204,0,284,213,0,289,228,0,294,256,0,301]
def Yq:KS:=cC "<module>" "<module>" 182 1 0 0 0 0 11 JZ 181 12 .none .none .none .none 185 1 186
def Yp:KS:=⟨(.type "frame"),JT,.plain,#[(on (.ref 13)),(on (.ref 3)),(on (.ref 3)),JT,(on Uo),JT,(on (.ref 0))]⟩
def Yo:KS:=tO [(.type "ValueError")]
noncomputable def Ub:KS:=⟨(.type "builtin_function_or_method"),JT,(.fields #[(.builtin "type.__prepare__"),(.type "type")]),#[]⟩
def Yn:KS:=⟨(.type "dict"),JT,(.dict #[(E P "__module__" 196 nq),(E P "__qualname__" 198 (.str "EdgeError" 197)),(E P "__firstlineno__" 200 (.int 2 199)),(eR P "__init__" 209 28),(eR P "__static_attributes__" 211 29)] 5),#[]⟩
def Ym:KS:=nT [4,4,27]
def b20:KS:=cC "EdgeError" "EdgeError" 191 2 0 0 0 0 18 JZ 181 19 .none .none .none .none 194 2 195
def b21:KS:=⟨(.type "frame"),JT,.plain,#[(on (.ref 20)),(on (.ref 3)),(on (.ref 17)),JT,(on nq),JT,(on (.ref 0))]⟩
def Yl:KS:=tS 204 ["self","word","why"]
def Yk:KS:=fB "__init__" "EdgeError.__init__" (de (c_ 1) 0)
def WZ:KS:=cC "__init__" "EdgeError.__init__" 201 4 3 0 0 3 22 JW 181 23 .none (.ref 24) (.ref 25) (.ref 26) 207 4 208
def VD:KS:=fO (FN "__init__" "EdgeError.__init__" (de (c_ 1) 0) .none .none .none nq JT (.ref 27) .none)
def Yj:KS:=tS 210 ["word"]
def WY:KS:=⟨(.type "dict"),JT,(.dict #[(E P "__module__" 196 nq),(E P "__firstlineno__" 200 (.int 2 199)),(eR P "__init__" 209 28),(eR P "__static_attributes__" 211 29),(eR P "__weakref__" 213 32),(E P "__doc__" 214 .none)] 3),#[]⟩
noncomputable def WX:KS:=⟨(.type "type"),JT,(.cls ⟨"EdgeError",[(.type "ValueError")],[(.ref 31),(.type "ValueError"),(.type "Exception"),(.type "BaseException"),(.type "object")],30,"EdgeError",JW,[],[(.ref 52),(.ref 72),(.ref 91),(.ref 111)],JZ,JT,JZ⟩),#[(on (.ref 15)),JT,(on (.str "EdgeError" 189)),(on (.str "EdgeError" 197)),(on (.builtin "ValueError.__new__")),(on (.bool JW))]⟩
noncomputable def Yi:KS:=⟨(.type "getset_descriptor"),JT,(.fields #[(.str "__weakref__" 212),(.ref 31),(.builtin "ExceptionGroup.__weakref__"),.none]),#[]⟩
noncomputable def Yh:KS:=⟨(.type "super"),JT,(.fields #[(.ref 31),(.ref 31),(.ref 31)]),#[]⟩
def Yg:KS:=T8 31
def UA:KS:=tO [(.ref 31)]
def Ye:KS:=⟨(.type "dict"),JT,(.dict #[(E P "__module__" 224 nq),(E P "__qualname__" 226 (.str "BadSums" 225)),(E P "__firstlineno__" 228 (.int 7 227)),(eR P "__init__" 237 49),(eR P "__static_attributes__" 238 50)] 5),#[]⟩
def Yd:KS:=nT [9,4,48]
def b40:KS:=cC "BadSums" "BadSums" 219 7 0 0 0 0 38 JZ 181 39 .none .none .none .none 222 7 223
def Yc:KS:=⟨(.type "frame"),JT,.plain,#[(on (.ref 40)),(on (.ref 3)),(on (.ref 37)),JT,(on nq),JT,(on (.ref 0))]⟩
def Yb:KS:=tS 229 ["these sums are no table's"]
def X_:KS:=tS 233 ["self","why"]
def X9:KS:=fB "__init__" "BadSums.__init__" (de (c_ 2) 0)
def X8:KS:=cC "__init__" "BadSums.__init__" 230 9 2 0 0 3 43 JW 181 44 .none (.ref 45) (.ref 46) (.ref 47) 235 9 236
def X7:KS:=fO (FN "__init__" "BadSums.__init__" (de (c_ 2) 0) (.ref 42) .none .none nq JT (.ref 48) .none)
def X6:KS:=⟨(.type "dict"),JT,(.dict #[(E P "__module__" 224 nq),(E P "__firstlineno__" 228 (.int 7 227)),(eR P "__init__" 237 49),(eR P "__static_attributes__" 238 50),(E P "__doc__" 239 .none)] 2),#[]⟩
def X5:KS:=Um "BadSums" 52 51 35 217 225
noncomputable def X4:KS:=⟨(.type "super"),JT,(.fields #[(.ref 52),(.ref 52),(.ref 52)]),#[]⟩
def X3:KS:=T8 52
def X2:KS:=⟨(.type "dict"),JT,(.dict #[(E P "__module__" 249 nq),(E P "__qualname__" 251 (.str "BadBounds" 250)),(E P "__firstlineno__" 253 (.int 11 252)),(eR P "__init__" 262 69),(eR P "__static_attributes__" 263 70)] 5),#[]⟩
def X1:KS:=nT [13,4,68]
def X0:KS:=cC "BadBounds" "BadBounds" 244 11 0 0 0 0 58 JZ 181 59 .none .none .none .none 247 11 248
def XZ:KS:=⟨(.type "frame"),JT,.plain,#[(on (.ref 60)),(on (.ref 3)),(on (.ref 57)),JT,(on nq),JT,(on (.ref 0))]⟩
def XX:KS:=tS 254 ["these bounds are no table's"]
def XW:KS:=tS 258 ["self","why"]
def XV:KS:=fB "__init__" "BadBounds.__init__" (de (c_ 3) 0)
def XU:KS:=cC "__init__" "BadBounds.__init__" 255 13 2 0 0 3 63 JW 181 64 .none (.ref 65) (.ref 66) (.ref 67) 260 13 261
def XT:KS:=fO (FN "__init__" "BadBounds.__init__" (de (c_ 3) 0) (.ref 62) .none .none nq JT (.ref 68) .none)
def XS:KS:=⟨(.type "dict"),JT,(.dict #[(E P "__module__" 249 nq),(E P "__firstlineno__" 253 (.int 11 252)),(eR P "__init__" 262 69),(eR P "__static_attributes__" 263 70),(E P "__doc__" 264 .none)] 2),#[]⟩
def XR:KS:=Um "BadBounds" 72 71 55 242 250
noncomputable def XQ:KS:=⟨(.type "super"),JT,(.fields #[(.ref 72),(.ref 72),(.ref 72)]),#[]⟩
def XO:KS:=T8 72
def XN:KS:=⟨(.type "dict"),JT,(.dict #[(E P "__module__" 274 nq),(E P "__qualname__" 276 (.str "TooWide" 275)),(E P "__firstlineno__" 278 (.int 15 277)),(eR P "__init__" 286 88),(eR P "__static_attributes__" 288 89)] 5),#[]⟩
def XM:KS:=nT [17,4,87]
def XJ:KS:=cC "TooWide" "TooWide" 269 15 0 0 0 0 78 JZ 181 79 .none .none .none .none 272 15 273
def XI:KS:=⟨(.type "frame"),JT,.plain,#[(on (.ref 80)),(on (.ref 3)),(on (.ref 77)),JT,(on nq),JT,(on (.ref 0))]⟩
def XH:KS:=tS 282 ["self","wide"]
def XG:KS:=fB "__init__" "TooWide.__init__" (de (c_ 4) 0)
def XF:KS:=cC "__init__" "TooWide.__init__" 279 17 2 0 0 3 82 JW 181 83 .none (.ref 84) (.ref 85) (.ref 86) 284 17 285
def XE:KS:=fO (FN "__init__" "TooWide.__init__" (de (c_ 4) 0) .none .none .none nq JT (.ref 87) .none)
def XD:KS:=tS 287 ["wide"]
def XB:KS:=⟨(.type "dict"),JT,(.dict #[(E P "__module__" 274 nq),(E P "__firstlineno__" 278 (.int 15 277)),(eR P "__init__" 286 88),(eR P "__static_attributes__" 288 89),(E P "__doc__" 289 .none)] 2),#[]⟩
def XA:KS:=Um "TooWide" 91 90 75 267 275
noncomputable def Xz:KS:=⟨(.type "super"),JT,(.fields #[(.ref 91),(.ref 91),(.ref 91)]),#[]⟩
def Xy:KS:=T8 91
def Xx:KS:=⟨(.type "dict"),JT,(.dict #[(E P "__module__" 299 nq),(E P "__qualname__" 301 (.str "BadNumber" 300)),(E P "__firstlineno__" 303 (.int 20 302)),(eR P "__init__" 312 108),(eR P "__static_attributes__" 313 109)] 5),#[]⟩
def Xw:KS:=nT [22,4,107]
def Xv:KS:=cC "BadNumber" "BadNumber" 294 20 0 0 0 0 97 JZ 181 98 .none .none .none .none 297 20 298
def Wr:KS:=⟨(.type "frame"),JT,.plain,#[(on (.ref 99)),(on (.ref 3)),(on (.ref 96)),JT,(on nq),JT,(on (.ref 0))]⟩
def Wq:KS:=tS 304 ["this number is out of its bounds"]
def Wp:KS:=tS 308 ["self","why"]
def Wo:KS:=fB "__init__" "BadNumber.__init__" (de (c_ 5) 0)
def Wn:KS:=cC "__init__" "BadNumber.__init__" 305 22 2 0 0 3 102 JW 181 103 .none (.ref 104) (.ref 105) (.ref 106) 310 22 311
def Wm:KS:=fO (FN "__init__" "BadNumber.__init__" (de (c_ 5) 0) (.ref 101) .none .none nq JT (.ref 107) .none)
def Wl:KS:=⟨(.type "dict"),JT,(.dict #[(E P "__module__" 299 nq),(E P "__firstlineno__" 303 (.int 20 302)),(eR P "__init__" 312 108),(eR P "__static_attributes__" 313 109),(E P "__doc__" 314 .none)] 2),#[]⟩
def Wk:KS:=Um "BadNumber" 111 110 94 292 300
noncomputable def Wj:KS:=⟨(.type "super"),JT,(.fields #[(.ref 111),(.ref 111),(.ref 111)]),#[]⟩
def Wi:KS:=T8 111
def IF:KS:=tO [(.int 0 325),(.int 40 319)]
def IE:KS:=⟨(.type "dict"),JT,(.dict #[(eR P "pair" 327 114)] 1),#[]⟩
def Wh:KS:=fB "free" "free" (c_ 11)
def ID:KS:=cF "free" 328 29 2 1 116 181 331
def BC:KS:=fO (FN "free" "free" (c_ 11) .none (.ref 115) .none (.str "edgetally.bounds" 317) JT (.ref 119) .none)
def Wg:KS:=fB "check_sums" "check_sums" (c_ 12)
def IC:KS:=cF "check_sums" 334 31 2 0 121 181 337
def BB:KS:=fM "edgetally.bounds" 317 "check_sums" 12 124
def Wf:KS:=tS 343 ["pair","low","high"]
def We:KS:=fB "check_pair" "check_pair" (c_ 13)
def IB:KS:=cG "check_pair" 340 42 1 0 126 181 346
def BA:KS:=fM "edgetally.bounds" 317 "check_pair" 13 131
def Wd:KS:=fB "settled_bounds" "settled_bounds" (c_ 14)
def IA:KS:=cF "settled_bounds" 349 46 3 0 133 181 352
def AZ:KS:=fM "edgetally.bounds" 317 "settled_bounds" 14 136
def Wc:KS:=tS 360 ["number","product","factor"]
def Wb:KS:=fB "factorial" "factorial" (c_ 16)
def Iz:KS:=cG "factorial" 357 56 1 0 138 181 363
def AY:KS:=fM "edgetally.counts" 355 "factorial" 16 143
def Wa:KS:=tS 369 ["parts","part","told"]
def V_:KS:=fB "ways" "ways" (c_ 17)
def Iy:KS:=cG "ways" 366 61 1 0 145 181 372
def AX:KS:=fM "edgetally.counts" 355 "ways" 17 150
def V9:KS:=fB "fillings" "fillings" (c_ 18)
def Ix:KS:=cF "fillings" 375 69 3 0 152 181 378
def AW:KS:=fM "edgetally.counts" 355 "fillings" 18 155
def V8:KS:=tS 388 ["rowsums","wide","many"]
def V7:KS:=fB "check_wide" "check_wide" (c_ 21)
def Iw:KS:=cG "check_wide" 385 80 1 0 157 181 391
def AV:KS:=fM "edgetally.net" 381 "check_wide" 21 162
def V6:KS:=tS 397 ["rowsums","columnsums","bounds","settled"]
def V5:KS:=fB "settled_for_net" "settled_for_net" (c_ 22)
def Iu:KS:=cG "settled_for_net" 394 86 3 0 164 181 401
def AU:KS:=fM "edgetally.net" 381 "settled_for_net" 22 169
def V4:KS:=fB "column_fillings" "column_fillings" (c_ 23)
def Ir:KS:=cF "column_fillings" 404 91 4 0 171 181 407
def AT:KS:=fM "edgetally.net" 381 "column_fillings" 23 174
def V3:KS:=fB "rests_behind" "rests_behind" (c_ 24)
def Iq:KS:=cF "rests_behind" 410 93 2 0 176 181 413
def AS:KS:=fM "edgetally.net" 381 "rests_behind" 24 179
def V2:KS:=fB "nodes_by_level" "nodes_by_level" (c_ 25)
def Ip:KS:=cF "nodes_by_level" 416 95 3 0 181 181 419
def AQ:KS:=fM "edgetally.net" 381 "nodes_by_level" 25 184
def V1:KS:=tS 425 ["rests","filled","behind","tables","dealings","counts","tables_behind","dealings_behind"]
def V0:KS:=fB "node_counts" "node_counts" (c_ 26)
def Io:KS:=cG "node_counts" 422 103 3 0 186 181 433
def AO:KS:=fM "edgetally.net" 381 "node_counts" 26 191
def VZ:KS:=fB "counted_nodes" "counted_nodes" (c_ 27)
def Im:KS:=cF "counted_nodes" 436 111 3 0 193 181 439
def AN:KS:=fM "edgetally.net" 381 "counted_nodes" 27 196
def VY:KS:=fB "paper_rows" "paper_rows" (c_ 28)
def Il:KS:=cF "paper_rows" 442 121 1 0 198 181 445
def AM:KS:=fM "edgetally.net" 381 "paper_rows" 28 201
def Ik:KS:=⟨(.type "dict"),JT,(.dict #[(E P "bounds" 448 .none)] 1),#[]⟩
def VX:KS:=tS 452 ["rowsums","columnsums","paper","bounds","settled"]
def VW:KS:=fB "net_holds" "net_holds" (c_ 29)
def Ij:KS:=cG "net_holds" 449 123 3 1 204 181 457
def AL:KS:=fO (FN "net_holds" "net_holds" (c_ 29) .none (.ref 203) .none (.str "edgetally.net" 381) JT (.ref 209) .none)
def VV:KS:=fB "_law_bag" "_law_bag" (c_ 31)
def Ii:KS:=cF "_law_bag" 462 127 1 0 211 181 465
def AK:KS:=fL "_law_bag" "_law_bag" 31 214
def VU:KS:=tS 471 ["_law_bag_here","_law_lot","_law_cells","_law_at","_law_cell"]
def VT:KS:=fB "_law_pull" "_law_pull" (c_ 32)
def Ih:KS:=cG "_law_pull" 468 129 2 0 216 181 476
def AJ:KS:=fL "_law_pull" "_law_pull" 32 221
def VS:KS:=fB "_law_same" "_law_same" (c_ 33)
def Ig:KS:=cF "_law_same" 479 139 2 0 223 181 482
def AI:KS:=fL "_law_same" "_law_same" 33 226
def VR:KS:=fB "_law_free" "_law_free" (c_ 34)
def Ie:KS:=cF "_law_free" 485 151 2 0 228 181 488
def AH:KS:=fL "_law_free" "_law_free" 34 231
def VQ:KS:=fB "_law_copied" "_law_copied" (c_ 35)
def Id:KS:=cF "_law_copied" 491 153 1 0 233 181 494
def AG:KS:=fL "_law_copied" "_law_copied" 35 236
def VP:KS:=fB "_law_fit" "_law_fit" (c_ 36)
def Ib:KS:=cF "_law_fit" 497 155 3 0 238 181 500
def AF:KS:=fL "_law_fit" "_law_fit" 36 241
def VO:KS:=fB "_law_less" "_law_less" (c_ 37)
def Ia:KS:=cF "_law_less" 503 164 2 0 243 181 506
def AE:KS:=fL "_law_less" "_law_less" 37 246
def VN:KS:=fB "_law_listing" "_law_listing" (c_ 38)
def HZ:KS:=cF "_law_listing" 509 166 3 0 248 181 512
def AD:KS:=fL "_law_listing" "_law_listing" 38 251
def VM:KS:=tS 518 ["_law_lot","_law_found","_law_k"]
def VL:KS:=fB "_law_factorial" "_law_factorial" (c_ 39)
def HY:KS:=cG "_law_factorial" 515 175 1 0 253 181 521
def AC:KS:=fL "_law_factorial" "_law_factorial" 39 258
def VJ:KS:=tS 527 ["_law_parts","_law_under","_law_part"]
def VI:KS:=fB "_law_ways" "_law_ways" (c_ 40)
def HX:KS:=cG "_law_ways" 524 180 1 0 260 181 530
def AB:KS:=fL "_law_ways" "_law_ways" 40 265
def VH:KS:=tS 536 ["_law_bag_here","_law_places","_law_things","_law_told","_law_thing","_law_at"]
def VG:KS:=fB "_law_scatter" "_law_scatter" (c_ 41)
def HW:KS:=cG "_law_scatter" 533 185 3 0 267 181 542
def AA:KS:=fL "_law_scatter" "_law_scatter" 41 272
def VF:KS:=tS 548 ["_law_bag_here","_law_block","_law_columns","_law_told","_law_way","_law_at","_law_to","_law_base"]
def VE:KS:=fB "_law_tight" "_law_tight" (c_ 42)
def HV:KS:=cG "_law_tight" 545 191 3 0 274 181 556
def z9:KS:=fL "_law_tight" "_law_tight" 42 279
def VC:KS:=fB "_law_nodes" "_law_nodes" (c_ 43)
def HU:KS:=cF "_law_nodes" 559 204 3 0 281 181 562
def z7:KS:=fL "_law_nodes" "_law_nodes" 43 284
def VB:KS:=fB "_law_counted" "_law_counted" (c_ 44)
def HS:KS:=cF "_law_counted" 565 213 3 0 286 181 568
def z6:KS:=fL "_law_counted" "_law_counted" 44 289
def VA:KS:=fB "_law_bent" "_law_bent" (c_ 45)
def HR:KS:=cF "_law_bent" 571 228 3 0 291 181 574
def z5:KS:=fL "_law_bent" "_law_bent" 45 294
def Vz:KS:=tS 580 ["_law_script","_law_bag_here","_law_things","_law_rowsums","_law_columnsums","_law_limits","_law_due","_law_bent_here","_law_told"]
def Vy:KS:=fB "law" "law" (c_ 46)
def HQ:KS:=cG "law" 577 256 1 0 296 181 589
def z0:KS:=fL "law" "law" 46 301
def Vq:KS:=⟨(.type "dict"),JT,(.dict (((mL P).take 9).set 0 (E P "__name__" 165 Uo)).toArray 9),#[]⟩
def JH:KS:=nO []
def Vp:KS:=⟨(.type "dict"),JT,(.dict (((mL P).take 9).set 0 (E P "__name__" 165 Uo)).toArray 9),#[]⟩
def JB:KS:=nT [2,0,20,7,0,40,11,0,60,15,0,80]
def Vj:KS:=⟨(.type "dict"),JT,(.dict (((mL P).take 13).set 0 (E P "__name__" 165 nq)).toArray 13),#[]⟩
noncomputable def JA:KS:=⟨(.type "type"),JT,(.cls ⟨"EdgeError",[(.type "ValueError")],[(.ref 31),(.type "ValueError"),(.type "Exception"),(.type "BaseException"),(.type "object")],30,"EdgeError",JW,[],[(.ref 52),(.ref 72),(.ref 91)],JZ,JT,JZ⟩),#[(on (.ref 15)),JT,(on (.str "EdgeError" 189)),(on (.str "EdgeError" 197)),(on (.builtin "ValueError.__new__")),(on (.bool JW))]⟩
def Jz:KS:=nT [2,0,20,7,0,40,11,0,60,15,0,80,20,0,99,29,0,119,31,0,124,42,0,131,46,0,136,56,0,143,61,0,150,69,0,155,80,0,162,86,0,169,91,0,174,93,0,179,95,0,184,103,0,191,111,0,196,121,0,201,123,0,209,127,0,214,129,0,221,139,0,226,151,0,231,153,0,236,155,0,241,164,0,246]
noncomputable def Vi:KS:=⟨(.type "dict"),JT,(.dict ((mL P).take 42).toArray 42),#[]⟩
def kL:List KS:=[b0 P,b1 P,b2,b3 P,b4,b5,b6,b7,b8,b9,b10,b7,Yr,Yq,Yp,Yo,Ub,Yn P,b7,Ym,b20,b21,b7,b8,Yl,b7,Yk,WZ,VD,Yj,WY P,WX,Yi,Yh,Yg,UA,Ub,Ye P,b7,Yd,b40,Yc,Yb,b7,b8,X_,b7,X9,X8,X7,b7,X6 P,X5,X4,X3,UA,Ub,X2 P,b7,X1,X0,XZ,XX,b7,b8,XW,b7,XV,XU,XT,b7,XS P,XR,XQ,XO,UA,Ub,XN P,b7,XM,XJ,XI,b7,b8,XH,b7,XG,XF,XE,XD,XB P,XA,Xz,Xy,UA,Ub,Xx P,b7,Xw,Xv,Wr,Wq,b7,b8,Wp,b7,Wo,Wn,Wm,b7,Wl P,Wk,Wj,Wi,IF,IE P,b7,b8,Wh,ID,BC,b7,b8,Wg,IC,BB,b7,b8,Wf,b7,We,IB,BA,b7,b8,Wd,IA,AZ,b7,b8,Wc,b7,Wb,Iz,AY,b7,b8,Wa,b7,V_,Iy,AX,b7,b8,V9,Ix,AW,b7,b8,V8,b7,V7,Iw,AV,b7,b8,V6,b7,V5,Iu,AU,b7,b8,V4,Ir,AT,b7,b8,V3,Iq,AS,b7,b8,V2,Ip,AQ,b7,b8,V1,b7,V0,Io,AO,b7,b8,VZ,Im,AN,b7,b8,VY,Il,AM,Ik P,b7,b8,VX,b7,VW,Ij,AL,b7,b8,VV,Ii,AK,b7,b8,VU,b7,VT,Ih,AJ,b7,b8,VS,Ig,AI,b7,b8,VR,Ie,AH,b7,b8,VQ,Id,AG,b7,b8,VP,Ib,AF,b7,b8,VO,Ia,AE,b7,b8,VN,HZ,AD,b7,b8,VM,b7,VL,HY,AC,b7,b8,VJ,b7,VI,HX,AB,b7,b8,VH,b7,VG,HW,AA,b7,b8,VF,b7,VE,HV,z9,b7,b8,VC,HU,z7,b7,b8,VB,HS,z6,b7,b8,VA,HR,z5,b7,b8,Vz,b7,Vy,HQ,z0]
def P_:Lj:=⟨⟨((kL P).take 11).set 3 (Vq P)⟩,{}⟩
def Uy:Lj:=⟨⟨(((kL P).take 15).set 3 (Vp P)).set 12 (JH)⟩,{}⟩
def WQ:Lj:=⟨⟨((((kL P).take 94).set 3 (Vj P)).set 12 (JB)).set 31 (JA)⟩,{}⟩
def WP:Lj:=⟨⟨(((kL P).take 248).set 3 (Vi P)).set 12 (Jz)⟩,{}⟩
noncomputable def T6:Lj:=⟨⟨kL P⟩,{}⟩
end
def KH:Rf->Kt:=λP=>
[(2,b2),(3,b3 P),(27,WZ),(28,VD),(30,WY P),(31,WX),(114,IF),(115,IE P),(119,ID),(120,BC),(124,IC),(125,BB),(131,IB),(132,BA),(136,IA),(137,AZ),(143,Iz),(144,AY),(150,Iy),(151,AX),(155,Ix),(156,AW),(162,Iw),(163,AV),(169,Iu),(170,AU),(174,Ir),(175,AT),(179,Iq),(180,AS),(184,Ip),(185,AQ),(191,Io),(192,AO),(196,Im),(197,AN),(201,Il),(202,AM),(203,Ik P),(209,Ij),(210,AL),(214,Ii),(215,AK),(221,Ih),(222,AJ),(226,Ig),(227,AI),(231,Ie),(232,AH),(236,Id),(237,AG),(241,Ib),(242,AF),(246,Ia),(247,AE),(251,HZ),(252,AD),(258,HY),(259,AC),(265,HX),(266,AB),(272,HW),(273,AA),(279,HV),(280,z9),(284,HU),(285,z7),(289,HS),(290,z6),(294,HR),(295,z5),(301,HQ),(302,z0)]
noncomputable def aH:List JY:=[2,3,27,28,30,31,114,115,119,120,124,125,131,132,136,137,143,144,150,151,155,156,162,163,169,170,174,175,179,180,184,185,191,192,196,197,201,202,203,209,210,214,215,221,222,226,227,231,232,236,237,241,242,246,247,251,252,258,259,265,266,272,273,279,280,284,285,289,290,294,295,301,302]
theorem eH:∀P,aH=(KH P).map (·.1):=λ_=>by kernel_rfl
noncomputable def qH:KF:={PySem.Challenge.pw_edgetally_k21_papers_of_no_table with main:={PySem.Challenge.pw_edgetally_k21_papers_of_no_table.main with body:=[c_ 1,c_ 2,c_ 3,c_ 4,c_ 5,c_ 7,c_ 8,c_ 9,c_ 10,c_ 12,c_ 13,c_ 14,c_ 16,c_ 17,c_ 18,c_ 20,c_ 21,c_ 22,c_ 23,c_ 24,c_ 25,c_ 26,c_ 27,c_ 28,c_ 31,c_ 32,c_ 33,c_ 34,c_ 35,c_ 36,c_ 37,c_ 38,c_ 39,c_ 40,c_ 41,c_ 42,c_ 43,c_ 44,c_ 45,c_ 46]}}
noncomputable abbrev lvH:List (K2×PySem.W.WData):=[("FREE",PySem.W.WData.tuple [Ra 0,Ra 40])]
noncomputable abbrev loH:List K2:=["BadSums","BadBounds","BadNumber","FREE","free","net_holds"]
abbrev hkH:=PySem.W.kHook KH aH eH
def xtH(s:J4):Bool:=PySem.W.xlAt qH lvH s&&PySem.W.recOk (PySem.W.RowW.records (Ml (ME KP))) s
noncomputable abbrev pH:KF:=Rg (Ml (ME KP))
noncomputable def S_:List LM:=PySem.W.behindTheImports pH
noncomputable def TV:Q6:={scope:=pH.main.scope,locals:=mainNs,globals:=mainNs,cells:=[],code:=(.ref 13),frame:=(on 14)}
def cH:Code:= .body S_ TV
noncomputable abbrev TM:List Frame:=[PySem.W.topFrame ⟨0,0,0,0⟩]
theorem Xf(w:K1):(PySem.W.fencedOpening Mq pH w 4584).map (λs=>(s.heap,s.gens,s.drawn,s.toks))=on (P_ w.params,#[],{},181):=by kernel_rfl
theorem W9(w:K1):((P_ w.params).isNs Mj&&(#[]:Array GenState).size==0,(P_ w.params).objs.size,(P_ w.params).nsMap Mj "__annotations__")=(JW,11,(on (.ref 6))):=by kernel_rfl
theorem Xe(w:K1)(os:Qp):PySem.W.topGo Mq pH w 11 (on (.ref 6)) 12 ⟨P_ w.params,#[],{},181,os⟩ (S6 pH)=on (⟨Uy w.params,#[],{},187,os⟩,⟨denote Mq (.body S_ TV),cH,⟨0,0,0,0⟩,TM⟩):=by kernel_rfl
theorem Xd(w:K1)(os:Qp):PH Mq pH w 11 (on (.ref 6)) 1 1 ⟨Uy w.params,#[],{},187,os⟩ (PySem.W.blockOf S_ TV cH ⟨0,0,0,0⟩ TM)=on (.next,⟨Uy w.params,#[],{},187,os⟩,cH,⟨0,0,0,0⟩):=by kernel_rfl
theorem Xs(w:K1)(os:Qp):PH Mq pH w 11 (on (.ref 6)) 1 966 ⟨Uy w.params,#[],{},187,os⟩ (Qk (S_.take 5) TV cH ⟨0,0,0,0⟩ TM)=on (.next,⟨WQ w.params,#[],{},292,os⟩,cH,⟨15,0,19,24⟩):=by kernel_rfl
theorem Xr(w:K1)(os:Qp):PH Mq pH w 11 (on (.ref 6)) 1 992 ⟨WQ w.params,#[],{},292,os⟩ (Qk ((S_.drop 5).take 33) TV cH ⟨15,0,19,24⟩ TM)=on (.next,⟨WP w.params,#[],{},509,os⟩,cH,⟨164,0,165,93⟩):=by kernel_rfl
theorem Xq(w:K1)(os:Qp):PH Mq pH w 11 (on (.ref 6)) 1 274 ⟨WP w.params,#[],{},509,os⟩ (Qk (((S_.drop 5).drop 33).take 9) TV cH ⟨164,0,165,93⟩ TM)=on (.next,⟨T6 w.params,#[],{},592,os⟩,cH,⟨256,0,269,59⟩):=by kernel_rfl
theorem Xo:(((S_.drop 5).drop 33).drop 9)=[]:=by kernel_rfl
theorem Xc(w:K1)(os:Qp):Ts Mq pH w 11 (on (.ref 6)) 2 ⟨T6 w.params,#[],{},592,os⟩ ⟨PySem.W.doneF .next,cH,⟨256,0,269,59⟩,TM⟩=on ⟨T6 w.params,#[],{},592,os⟩:=by kernel_rfl
theorem Xb(w:K1)(os:Qp):Ts Mq pH w 11 (on (.ref 6)) (12+(1+(966+(992+(274+2))))) ⟨P_ w.params,#[],{},181,os⟩ (S6 pH)=on ⟨T6 w.params,#[],{},592,os⟩:=PySem.W.go_top (Xe w os) (PySem.W.piece_block (Xd w os) (md 5 (Xs w os) (md 33 (Xr w os) (md 9 (Xq w os) (zK Xo (Xc w os))))))
theorem hlH:PySem.W.LeftO pH qH loH xtH (PySem.W.Hook.obs hkH) (PySem.W.Hook.val hkH) 4584:=PySem.W.LeftO.of_pieces (H₀:=P_) (H₁:=T6) Xf W9 Xb (by decide +kernel) λw=>by kernel_rfl
theorem wsH:PySem.W.OpenLaw.wellSaid KP=JW:=by decide +kernel
theorem okH:(PySem.W.chainsOk qH&&PySem.W.opensWell (Rg (Ml (ME KP)))&&(PySem.W.frees (Ml (ME KP))&&(PySem.W.RowW.within (Ml (ME KP))).isEmpty))=JW:=by decide +kernel
abbrev Wu:Ad:={Aa:=31,Ab:=28,Ac:=fD VD,Ae:=120,Af:=fD BC,Ag:=125,Ah:=fD BB,Ai:=132,Aj:=fD BA,Ak:=137,Al:=fD AZ,Am:=144,An:=fD AY,Ao:=151,Aq:=fD AX,Ar:=156,As:=fD AW,At:=163,Au:=fD AV,Av:=170,Aw:=fD AU,Ax:=175,Ay:=fD AT,Az:=180,A0:=fD AS,A1:=185,A2:=fD AQ,A3:=192,A4:=fD AO,A5:=197,A6:=fD AN,A7:=202,A8:=fD AM,A9:=210,Ba:=fD AL,Bb:=215,Bc:=fD AK,Bd:=222,Be:=fD AJ,Bf:=227,Bh:=fD AI,Bi:=232,Bj:=fD AH,Bk:=237,Bl:=fD AG,Bm:=242,Bn:=fD AF,Bo:=247,Bp:=fD AE,Bq:=252,Br:=fD AD,Bs:=259,Bt:=fD AC,Bu:=266,Bv:=fD AB,Bw:=273,Bx:=fD AA,By:=280,Bz:=fD z9,B0:=285,B4:=fD z7,B5:=290,B7:=fD z6,B8:=295,Ca:=fD z5,Cb:=302,Cc:=fD z0}
section
variable{P:Rf}{h:Lj}{mg:K2->Option J0}
theorem fH{x q:K2}{s:LM}{f:JY}{a b d e cd ct:J0}{g:Option JY}(l:(KH P).lookup f=on (fO (FN x q s a b d e g cd ct)):=by kernel_rfl)(c:Ov (KH P) cd q=JW:=by kernel_rfl)(k:Oz (KH P) (.ref f)=JW:=by kernel_rfl):dv (KH P) x q s f (FN x q s a b d e g cd ct):=FO l c k
theorem mO(X:(KH P).In h)(G:h.Ns Mj mg){n:K2}{v:J0}(e:PySem.W.nsIn (KH P) Mj n=on (on v):=by kernel_rfl):mg n=on v:=mg_of X G e
theorem mN(X:(KH P).In h)(G:h.Ns Mj mg){n:K2}(e:PySem.W.nsIn (KH P) Mj n=on JT:=by kernel_rfl):mg n=JT:=PySem.W.mg_none_of X G e
theorem nH(X:(KH P).In h)(G:h.Ns Mj mg):y_ (KH P) mg Wu where
 Cd:=mN X G
 Cf:=mN X G
 Cg:=mN X G
 Ch:=mN X G
 Ci:=mN X G
 Cj:=mN X G
 Ck:=mN X G
 Cl:=mN X G
 Cm:=mN X G
 Cn:=mN X G
 Co:=mN X G
 Cp:=mN X G
 Cq:=mN X G
 Cr:=mN X G
 Cs:=mN X G
 Ct:=mN X G
 Cu:=mN X G
 Cv:=mN X G
 Cw:=nK (u:=(.int 40 319)) (mO X G) kK
 Cy:=nK (u:=(.int 6 323)) (mO X G) kK
 Cz:=nK (u:=(.int 4 321)) (mO X G) kK
 C0:=nK (u:=(.int 500 383)) (mO X G) kK
 C2:=fH
 C3:=mO X G
 C4:=HL (us:=[(.ref 114)]) 2 rfl (λs us a b=>by obtain⟨c,d,rfl⟩:=Vg b;exact PySem.W.kp_binds a λS=>by kernel_rfl) (FS (DJ (p:=114) (q1:=(.type "tuple")) (q2:=JT) (q3:=#[(.int 0 325),(.int 40 319)]) (q4:=0) (q5:=#[]) (by kernel_rfl) rfl (by decide) (by repeat (first|exact trivial|refine⟨rfl,?_⟩))) HJ)
 C5:=fH
 C6:=mO X G
 C7:= .all (TX λ_ _=>rfl)
 C8:=fH
 C9:=mO X G
 Da:= .all (I1 λ_=>rfl)
 Db:=fH
 Dc:=mO X G
 Dd:= .all (r_ λ_ _ _=>rfl)
 Df:=fH
 Dg:=mO X G
 Dh:= .all (I1 λ_=>rfl)
 Di:=fH
 Dj:=mO X G
 Dl:= .all (I1 λ_=>rfl)
 Dm:=fH
 Do:=mO X G
 Dp:= .all (r_ λ_ _ _=>rfl)
 Dq:=fH
 Dr:=mO X G
 Dt:= .all (I1 λ_=>rfl)
 Du:=fH
 Dv:=mO X G
 Dw:= .all (r_ λ_ _ _=>rfl)
 Dx:=fH
 Dy:=mO X G
 Dz:= .all (Xu λ_ _ _ _=>rfl)
 D0:=fH
 D3:=mO X G
 D4:= .all (TX λ_ _=>rfl)
 D5:=fH
 D6:=mO X G
 D7:= .all (r_ λ_ _ _=>rfl)
 D8:=fH
 D9:=mO X G
 Ea:= .all (r_ λ_ _ _=>rfl)
 Eb:=fH
 Ec:=mO X G
 Ed:= .all (r_ λ_ _ _=>rfl)
 Ee:=fH
 Ef:=mO X G
 Eg:= .all (I1 λ_=>rfl)
 Eh:=fH
 Ei:=mO X G
 Ej:=Jy (sv:=[.kw 0]) (.kw .nil) rfl (by decide) λs us g a e f=>by obtain⟨c,d,i,rfl⟩:=Vf e;obtain⟨j,rfl⟩:=Vh f;exact .of_eq rfl
 Ek:=fH
 El:=mO X G
 Em:= .all (I1 λ_=>rfl)
 En:=fH
 Eo:=mO X G
 Ep:= .all (TX λ_ _=>rfl)
 Er:=fH
 Es:=mO X G
 Et:= .all (TX λ_ _=>rfl)
 Eu:=fH
 Ev:=mO X G
 Ew:= .all (TX λ_ _=>rfl)
 Ex:=fH
 Ey:=mO X G
 Ez:= .all (I1 λ_=>rfl)
 E2:=fH
 E3:=mO X G
 E4:= .all (r_ λ_ _ _=>rfl)
 E5:=fH
 E6:=mO X G
 E7:= .all (TX λ_ _=>rfl)
 E8:=fH
 E9:=mO X G
 Fa:= .all (r_ λ_ _ _=>rfl)
 Fb:=fH
 Fc:=mO X G
 Fd:= .all (I1 λ_=>rfl)
 Fe:=fH
 Ff:=mO X G
 Fg:= .all (I1 λ_=>rfl)
 Fh:=fH
 Fi:=mO X G
 Fj:= .all (r_ λ_ _ _=>rfl)
 Fk:=fH
 Fl:=mO X G
 Fm:= .all (r_ λ_ _ _=>rfl)
 Fn:=fH
 Fo:=mO X G
 Fp:= .all (r_ λ_ _ _=>rfl)
 Fq:=fH
 Fs:=mO X G
 Ft:= .all (r_ λ_ _ _=>rfl)
 Fu:=fH
 Fv:=mO X G
 Fw:= .all (r_ λ_ _ _=>rfl)
 Fy:=fH
 Fz:= .all (r_ λ_ _ _=>rfl)
 F4:=mO X G
 F5:=⟨by kernel_rfl,by kernel_rfl,by kernel_rfl,by kernel_rfl⟩
theorem wlkH:PySem.W.WalkO qH loH (PySem.W.XL qH lvH) (PySem.W.Hook.says hkH) (Ml (ME KP)) (Option.get (PySem.W.defOf qH "law") rfl).1 [] (λf vs=>SH f vs):=
 L2.walk_of (n:=63) (k:=8) (x:="_law_script") (CX:=λw=>iv _ w) (sp:=λw=>BX (KH w.params)) rfl (by decide) rfl ⟨rfl,by decide,by decide,rfl⟩ (λw h Y=>PySem.W.kIn_of Y) (λw mg i h c G b=>by
  have e:=b.symm.trans (mg_of c G (v:= .ref 302) (by kernel_rfl));cases e;exact⟨FN "law" "law" (c_ 46) .none .none .none (.str "law_edgetally_k21_papers_of_no_table" 460) JT (.ref 301) .none,λs v=> .of_eq rfl,λbase _ _=>Hc _ _ _ (a:=Wu) (fH (by kernel_rfl) (by kernel_rfl) (by kernel_rfl)) (nH c G) λβ ok=>zy (K:=KH w.params) (a:=Wu)  β ok⟩) (λ_ _ a ns d _ g=>⟨a,ns,rfl,g,d,λ_=>rfl⟩) λ_ _ _ _ _ h=>by obtain⟨x,C,j,_,fl⟩:=h;obtain⟨_,_,z⟩:=fl.wish;all_goals exact z
end
end Law
open PySem PySem.W PyProof.Rows
set_option maxHeartbeats 0 in
theorem PySem.Challenge.cw_edgetally_k21_papers_of_no_table_holds : PySem.Challenge.rw_edgetally_k21_papers_of_no_table.Holds := by
 w_on
 refine holds_law Law.wsH λsaid=>?_;refine holds_open (q:=Law.qH) (loose:=Law.loH) (Xt:=Law.xtH) (XP:=XL Law.qH Law.lvH) (Yf:=Hook.obs Law.hkH) (Ya:=Hook.val Law.hkH) (YP:=Hook.says Law.hkH) (N:=4584) Law.hlH (Hook.of Law.hkH) (Hook.keeps Law.hkH) (λs e=>xl_of s (Sc.mp e).1) XL.keeps (by rfl) (by rfl) (by rfl) (λs e=>recFacts_of (Sc.mp e).2) (by rfl) said Law.okH ⟨rfl,rfl,rfl,rfl,rfl,by decide +kernel⟩ ?hw ?hc
 case hw=>w_witness2
 exact Law.wlkH
