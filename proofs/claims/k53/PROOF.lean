import PyProof.Rows.All
import Wide.All
import OpenK.AllK
import Wide.FinOn
import Lean
import PyProof.EqAt
import PyProof.EqKinds
import PyProof.TupleCall
import PyProof.NsDelKeeps
import PyProof.ListRange
import PyProof.ExcArgsOwn
import PySem.Challenge.RW_edgetally_k53_whole_joined_shares
set_option Elab.async false
set_option linter.all false
set_option genSizeOf false
set_option compiler.extract_closed false
set_option bootstrap.genMatcherCode false
set_option maxHeartbeats 8000000
set_option maxRecDepth 100000
noncomputable section
open And renaming intro->YL
open Array renaming length_toList->R0,getElem?_eq_some_iff->SC,getD->Ug,getElem?_eq_none->Ut,getElem?_toList->UC,forIn_toList->U2,getElem_toList->Vp,getElem?_eq_getElem->V2,getElem?_extract->YC,getElem?_push->Zj,append_assoc->Zs,size_extract->Zt,toList_push->ZN
open Bool renaming true->Q4,false->Q9,false_ne_true->Ri,false_eq_true->RC,and_eq_true->RZ,not_true->TZ,true_and->Wh,eq_iff_iff->WM,false_and->WX,and_self->Xa,not_false->Yg,and_eq_true_iff->Zk
open Classical renaming byContradiction->UG
open Except renaming ok->SW
open False renaming elim->Tu
open ForInStep renaming yield->Wl
open Function renaming comp->VY
open Int renaming toNat_natCast->SQ,zero_add->UQ,emod_nonneg->VE,emod_lt_of_pos->V5,natAbs_natCast->Xi,natCast_add->X3,fdiv_eq_ediv_of_nonneg->Yo,le_refl->Zx
open List renaming length_map->QX,getD_eq_getElem?_getD->QZ,mem_cons_of_mem->Q1,getElem?_eq_getElem->Q2,getElem?_map->Q5,mem_cons_self->Q7,map_map->Rc,range->Re,sum_cons->Rh,getElem?_eq_some_iff->Rj,map_cons->Rk,length_cons->Rl,length_append->Ro,mem_map->Rp,mem_cons->Rq,replicate->Rr,size_toArray->Rx,length_range->Ry,mem_range->Rz,map_congr_left->RE,mem_of_getElem?->RK,mem_singleton->RP,map_append->RU,length_set->RV,append_nil->RX,getElem_mem->R1,getElem?_set->R4,flatMap_cons->R6,drop_eq_getElem_cons->R7,mem_append_right->Sa,nodup_cons->Sb,length_singleton->Sd,getElem?_range->Se,map->Sj,append_assoc->Sm,sum->SF,mem_filter->SI,map_replicate->SJ,replicate_succ->SN,not_mem_nil->SO,mem_flatMap->SV,mem_append->S4,drop_eq_nil_of_le->S5,length_take->S6,filterMap_cons->S8,flatMap_append->S9,length_replicate->Td,zip_cons_cons->Tk,ext_getElem->Tq,getElem?_replicate->Ts,map_flatMap->Tt,getElem?_append_right->Tv,mem_or_eq_of_mem_set->Tw,getElem_map->TF,mem_replicate->TH,take_length->TK,take_of_length_le->TY,drop_length->T1,take_append_drop->T4,pairwise_iff_getElem->T8,length_zip->Ua,nil_append->Ub,range_succ->Uc,flatten_cons->Ud,map_nil->Ue,mem_append_left->Uf,filter_cons->Ul,flatMap_eq_nil_iff->Um,pairwise_singleton->Uo,getElem_range->Uu,map_set->Uv,find?_cons->UA,forIn_cons->UB,forIn_nil->UJ,exists_cons_of_length_eq_add_one->UO,getElem?_append_left->UR,filter_sublist->UT,pairwise_cons->U7,take_add_one->Vf,getElem?_eq_none->Vk,all_eq_true->Vl,cons_append->Vm,flatMap_map->Vn,flatMap_nil->Vo,map_drop->Vr,lookup->Vx,of_mem_zip->VD,getElem_of_mem->VF,length_zipWith->VG,sum_nil->VO,zipWith->VP,length_eraseIdx_of_lt->VZ,map_inj_right->V0,mem_filterMap->V1,getElem?_eq_none_iff->Wb,pairwise_map->We,reverse_cons->Wf,any_cons->Wm,mem_of_mem_eraseIdx->Wn,length_eq_zero_iff->Wx,lookup_cons->Wz,nodup_range->WA,filter_eq_nil_iff->WI,filter_map->WO,getElem?_toArray->WU,getElem?_append->WZ,take_zero->W1,filter_flatMap->W8,all_cons->Xc,map_take->Xd,any_eq_false->Xu,nodup_append->Xv,zip_nil_left->Xw,any_eq_true->XD,length_drop->XE,length->XJ,length_nil->XV,map_const'->XW,sum_append->XX,getElem?_take_of_lt->Yw,eraseIdx_cons_succ->YE,eraseIdx_cons_zero->YF,getElem?_cons_succ->YG,any_map->YR,flatMap->YS,getElem?_set_self->YT,length_pos_of_mem->YU,range_succ_eq_map->YV,getElem?_zipWith->YX,pairwise_flatMap->YY,getElem?_set_ne->Zn,getElem_reverse->Zo,map_id->Zp,mem_of_mem_take->Zq,length_reverse->Zy,filter_append->ZP,foldl->ZQ,getElem?_drop->ZR
open List.Pairwise renaming nil->WN
open List.Perm renaming of_eq->Xj
open List.Sublist renaming refl->Vz
open List.cons renaming inj->Us,injEq->UN
open Min renaming min->UL
open Nat renaming le_refl->Rf,le_trans->Ru,lt_of_lt_of_le->RH,lt_irrefl->Sf,ne_of_lt->Sg,zero_add->Sn,zero_le->Ss,mul_assoc->Sx,mul_comm->SD,lt_of_le_of_lt->Tl,mul_left_comm->TW,not_lt_zero->TX,le_add_right->Uq,add_zero->Ux,ne_of_gt->Uy,lt_trichotomy->UH,add_sub_cancel_left->Vd,mul_le_mul_right->VA,pow_le_pow_right->VB,lt_or_ge->VU,lt_trans->VV,sub_self->VW,eq_of_mul_eq_mul_right->V6,le_succ->Wo,lt_succ_of_lt->Wp,le_mul_of_pos_right->WE,lt_succ_self->WF,add_comm->WP,le_of_lt->WQ,add_le_add->W2,mul_le_mul_left->Xe,mod_lt->Xk,min_self->Xz,div_le_self->X4,strongRecOn->X5,div_div_eq_div_mul->YZ,pow_succ->Y0,sub_zero->Y1,succ_mul->Y2,zero_mul->Y3,add_mul->Zz,mul_add->ZA,one_mul->ZB,add_le_add_left->ZT
open Option renaming some->on,none->QY,map_some->SY,map_eq_some_iff->WB,bind_some->Xx,isSome_iff_exists->Yk,getD_none->ZU,getD_some->ZV
open Option.some renaming inj->RO,injEq->Yx
open Or renaming inl->Tg,inr->T5
open Prod renaming ext->Vg,ext_iff->VQ
open Pure renaming pure->T0
open PyProof.Rows renaming callWith_type1->SR,seqObj->UM,envOfC->VL,AllBare->Wc,listUpdate_at->WT,subscriptTail_builtinR->W5,IntsAre->YQ,subscriptTail->ZK
open PySem renaming wpAny_bind->My,wpAny_pure->Q0,Addr->Q6,Value->Ra,Shared->Rg,starEach->Rm,wpAny->Rt,Obj->RA,sizeLine->RF,FuncData->RG,model->RN,Program->RT,Str->R3,World->R8,wpAny_call_entry->Sc,wpAny_mono->Sh,SetTable->Si,foldedSetIterable->Su,eval->Sw,Stmt->Sy,Around->SB,Heap->SE,compareOp->SH,wpAny_newObj_type->SK,wpAny_truthy_bool->SL,mem_of_lookup->SM,wpAny_field->SS,wpAny_setField_rec->SU,wpAny_holding->SX,Comprehension->S7,cellsFrom->Tc,treeTable->Tf,keywordEach->Th,wpAny_setState_of->Ti,wpAny_seqItems->Tp,backTo->Tx,mainGlobals->TL,sizeLine_eq->TM,wpAny_standAt->T6,wpAny_isInstance->T7,wpAny_specialOf->Uh,backToKw->Uj,binaryOp->Uk,wpAny_comprehension_free->Ur,IsPair->Uw,wpAny_typeNameOfWhole_itemiter->Uz,standAt->UF,wpAny_passesOwn->UI,NameKind->UV,sliceBounds->UX,wpAny_of_eq->UY,wpAny_rule->UZ,DictEntry->U3,bootBuiltins->U5,holding->U6,wpAny_typeNameOf_itemiter->U9,attributeBase->Ve,codeAny->Vh,codeAny_mono->Vs,firstArgMember->Vt,pyNext->Vu,rawInt->Vv,wpAny_setField->Vw,Pos->Vy,swapsWith->VM,wpAny_askSetting->VN,behindInMarks->VS,wpAny_attempt->VT,assign->V9,letOwnedTupleGo->Wa,getMethod->Wq,IsItemIter->Wr,Fin->Wt,cLine->Wu,isSubtype_type->Wv,wpAny_Call_Name_kw->Ww,IsZip->WG,Keyword->WH,OsState->WJ,wpAny_pyIter_list->WK,wpAny_pyIter_slot->WL,wpAny_forIn_list->WW,assignEach->W3,intKind->W4,wpAny_isOneOf_itemiter->W6,wpAny_pyIter_rangeiter->W7,wpAny_execs_nil->W9,builtinLookup_eq_fast->Xf,isSubtype_tuple_tuple->Xg,Within->Xl,pyIter->Xn,wpAny_fieldsOf->Xo,wpAny_updateSeq_pair->Xp,BindsTo->Xq,wpAny_setEntries_of->XB,wpAny_onRaise->XG,Paired->XM,call->XN,isInstance->XO,sysModules->XQ,wpAny_pyIter_tuple->XR,wpAny_tupleItemsOf->XS,callWith->X7,callerA->X8,ofAClassStatement->X9,searchCouldBeSeen->Yc,wpAny_assign_Name->Yd,wpAny_dictEntries->Ye,Env->Yi,Params->Yp,noFill_tuple_add->Yr,pickOrder->Ys,Draws->Yt,IsRangeIter->Yv,again->Yz,atKey->YA,wpAny_letGo->YB,codeAny_builtin->YI,typeLookup_type->YJ,wpAny_dictEpoch->YK,PyData->Y4,builtinsNs->Y7,call_meets->Y8,compPost->Za,entryFor_alias->Zb,intItems->Zc,isSubtype_stop->Zd,newFunctionEnv->Ze,setField->Zf,wpAny_call->Zh,wpAny_newTuple->Zi,call->ZG,evalPart_none->ZH,seq_tuple_add->ZJ,wpAny_getItem_list_slice->ZL,wpAny_handled->ZM,PassesOwn->ZW,list_append->Z0,bindC->Z2,bindL->Z3,eqIsQuiet->Z4,field->Z5,lastMarks->Z6,slicePick->Z7
open PySem.Around renaming under->Xh,under_plainId->YM
open PySem.Builtin.Dict renaming showsAll->XH
open PySem.Builtin.Dict_items renaming ownsTuple->U1,ownedTupleFields->V3,ownedTupleIsFree->V4,pairFromOwner->Wj
open PySem.Builtin.Int renaming intBits->Yh
open PySem.Builtin.List renaming listTooLong->VC,listExtendWith->Xb,listSameRef->Xr
open PySem.Builtin.Range renaming rangeFitsLong->SG,rangeSize->Xs
open PySem.Builtin.SmallTypes renaming nextOf->Tj,ownedTupleIsFree->Tz,ownedTupleHandOut->VX,refuseKeywords->Wd
open PySem.Builtin.Tuple renaming tupleHashOf->Vq
open PySem.Calls renaming callWith_builtin->WD,Name_function_global->X1,evalArgs_plain->YW,spliced_cons->Zu,spliced_nil->ZO
open PySem.Challenge renaming rw_edgetally_k53_whole_joined_shares->RW
open PySem.Code renaming isFrame->YN
open PySem.Draws renaming list->Zv
open PySem.F renaming slot_dict_itemiterator_next->Te,slot_list_append->TC,type_list_append->TD,plainAttrs_list->TV,slot_tuple_iterator_next->UP,args_tuple_add_2->V8,entry_tuple_add->Wg,slot_tuple_add->Ws,slot_zip_next->WY,args_dict_itemiterator_next_1->XT,entry_dict_itemiterator_next->X2,slot_dict_itemiterator_iter->Yj,plainAttrs_dict->Yl,args_tuple_iterator_next_1->Yn,entry_tuple_iterator_next->Yu,slot_dict_get->Yy,slot_dict_items_iter->Zw,args_list_append_2->Z8
open PySem.Heap renaming get?_push_of_some->Q3,get?_push_size->Rw,lt_size->RM,SameBut->RQ,size_push->S3,get?_update_ne->Ui,get?_update_self->UE,ExtBut->XI,get?_update_other->YO,get?_none_of_le->Zl,get?_push_ne->Z9
open PySem.Heap.IsSliceOf renaming new->XU
open PySem.Heap.SameBut renaming update->SZ
open PySem.IntMulOk renaming of_bits->Zm
open PySem.IsTupleKey renaming typeIs->YD
open PySem.Manifest renaming find?->ZS
open PySem.NameKind renaming free->T9,cell->XZ
open PySem.Obj renaming mapSeq->Ta,data_mapFields->TN,putSet->WR,isFreed_of_fields->WV,cls_mapFields->XA
open PySem.P renaming add_list->ZD
open PySem.PyData renaming depth->UK,eqvAll->UU,eqv->VR,list->V7,int->WC,depthAll->XF,canLayAll0->ZC
open PySem.SeqAt renaming shaped->VI
open PySem.SetTable renaming fits->X0,fresh->Z1
open PySem.Str renaming ofString->TU,empty->US
open PySem.Value renaming ref->RI,none->Sv,type->U4,int->U8,isInt_shape->Xm,bool->X6,isInt->Y6
open PySem.W renaming Frag->RB,fnOf->Va,segRun->Vb,findIn->Vc,piecesOf->Vi,codeIn->VH,emptyDict->VJ,keepIn->WS,instObj->Xy,of_hideAll->Y5,cellsFrom_some->Y9,topFrame->Zg,plainOver->Zr,handedIn->ZE,kp_binds->ZF,methodCall_KW->ZI,makesIn->ZX,takesIn->ZY,topStub->ZZ
open PySem.W.OpenLaw renaming row->T3
open PySem.W.OpenRow renaming toRowW->TR
open PySem.W.RowW renaming prog->Yq
open PySem.W.WData renaming int->Ym
open PySem.pickOrder renaming go->Yb
abbrev Q8:=@if_neg
abbrev Rb:=@if_pos
abbrev Rv:=@decide_eq_true
abbrev RJ:=@absurd
abbrev RY:=@decide_eq_false
abbrev R5:=@decide_eq_true_eq
abbrev R9:=@congrArg
abbrev Sk:=@of_decide_eq_true
abbrev Sz:=@if_false
abbrev SA:=@if_true
abbrev UD:=@bne_self_eq_false
abbrev UW:=@beq_iff_eq
abbrev Vj:=@or_false
abbrev YH:=@beq_eq_false_iff_ne
open PySem.W (Frag instObj methodObj hideAll hideAll_get hideAll_none lookIn plainGet hasDictIn findIn plainGet_of isFn takerIn emptyDict keepIn specialIn callWith_K methodCall_KW cellsFrom_some mg_of)
abbrev LI:=List (List Int)
abbrev LP:=List (List (Int×Int))
--CHANGE:your row's module here,as the last of these a_
namespace L2
open PySem PySem.Spec PyProof.Rows
inductive V where
 |non|bl (b:Bool)|int (i:Int)|str (x:R3)|ref (a:Q6)|ty (n:String)
 deriving DecidableEq
def aT:V->Ra->Prop
 | .non,u=>u=Sv
 | .bl b,u=>u=X6 b
 | .int i,u=>∃t,u=U8 i t
 | .str x,u=>∃t,u=Value.str x t
 | .ref a,u=>u=RI a
 | .ty n,u=>u=U4 n
abbrev au:List V->List Ra->Prop:=XM aT
theorem au.length{xs:List V}{us:List Ra}(r:au xs us):xs.length=us.length:=Paired.length r
theorem au.get:∀{xs:List V} {us:List Ra} {i:Nat} {x:V},au xs us->xs[i]?=on x->∃u,us[i]?=on u/\aT x u
 |_,_,_,_,.nil,e=>by simp at e
 |_,_,0,_,.cons r _,e=>by simp at e;subst e;exact⟨_,rfl,r⟩
 |_,_,i+1,x,.cons _ t,e=>by
  obtain⟨u,a,b⟩:=au.get (i:=i) (x:=x) t (by simpa using e);exact⟨u,by simpa using a,b⟩
theorem au.set(r:aT x u):∀{xs:List V} {us:List Ra} (i:Nat),au xs us->au (xs.set i x) (us.set i u)
 |_,_,_,.nil=> .nil
 |_,_,0,.cons _ t=> .cons r t
 |_,_,i+1,.cons q t=> .cons q (au.set r i t)
theorem au.append:∀{xs ys:List V} {us a:List Ra},au xs us->au ys a->au (xs++ys) (us++a)
 |_,_,_,_,.nil,s=>s
 |_,_,_,_,.cons r t,s=> .cons r (au.append t s)
theorem au.take:∀{xs:List V} {us:List Ra} (n:Nat),au xs us->au (xs.take n) (us.take n)
 |_,_,0,_=> .nil
 |_,_,_+1,.nil=> .nil
 |_,_,n+1,.cons r t=> .cons r (au.take n t)
theorem au.drop:∀{xs:List V} {us:List Ra} (n:Nat),au xs us->au (xs.drop n) (us.drop n)
 |_,_,0,r=>r
 |_,_,_+1,.nil=> .nil
 |_,_,n+1,.cons _ t=>au.drop n t
def ij:Option V->Option Ra->Prop
 |some v,on u=>aT v u
 |none,QY=>True
 |_,_=>False
inductive HO where
 |lst (xs:List V)
 |tup (xs:List V)
 |ins (C dx:Q6) (fs:List (R3×V))
 |own (x:Q6)
 |xd (fs:List (R3×V))
 |met (f x:Q6)
 |rng (lo hi:Int)
 |frz (o:RA) (u:HO)
 |tbl (ps:Array Ra)
 |ext (φ:SE->Prop)
abbrev Hp:=Q6->Option HO
noncomputable def upd(H:Hp)(a:Q6)(o:HO):Hp:=λb=>if b=a then on o else H b
theorem aq:upd H a o a=on o:=by unfold upd;rw[Rb rfl]
theorem b_(h:b≠a):upd H a o b=H b:=by unfold upd;rw[Q8 h]
theorem Qh{H:Hp}{a b:Q6}{o u:HO}(h:H a=on o)(h':H b=on u)(d:o≠u):a≠b:=by
 intro e;subst e;rw[h]at h';exact d (RO h')
theorem az{H:Hp}{a b:Q6}{o:HO}(h:H a=on o)(h':H b=QY):a≠b:=by
 intro e;subst e;rw[h]at h';cases h'
section
variable(P:RT)(w:R8)
def cL(P:RT)(w:R8)(H:Hp)(h:SE)(a:Q6):HO->Prop
 | .lst xs=>xs.length<=RF/\∃(its:List Ra) (n:Nat),au xs its/\h.get? a=on {cls:= .type "list",data:= .seq its.toArray n}
 | .tup xs=>xs.length<=RF/\∃its:List Ra,au xs its/\IsTup h a its.toArray
 | .ins C dx fs=>H dx=on (.own a)/\fs.length<=1000/\dx≠a/\h.get? a=on (Xy C dx)/\
   ∃b,h.Ns1 dx b/\(∀f,ij (fs.lookup f) (b f))/\Xl b (fs.map (·.1))
 | .own _=>∃o,h.get? a=on o
 | .xd fs=>∃b,h.Ns1 a b/\∀f,ij (fs.lookup f) (b f)
 | .rng lo hi=>∃t u v,h.get? a=on {cls:= .type "range",data:= .fields #[.int lo t,.int hi u,.int 1 v]}
 | .frz o u=>h.get? a=on o/\cL P w H h a u
 | .tbl ps=>h.get? a=on {cls:= .none,data:= .fields ps}
 | .met f x=>h.get? a=on (methodObj (.ref f) (.ref x))
 | .ext φ=>φ h/\(∃o,h.get? a=on o)/\∀c d:SE,φ c->(∀o,c.get? a=on o->d.get? a=on o)->φ d
def lb(H:Hp)(h:SE):Prop:=∀a o,H a=on o->cL P w H h a o
end
section
variable{P:RT}{w:R8}{H H':Hp}{h h':SE}{a:Q6}{o:HO}
theorem cL.lt(x:cL P w H h a o):a<h.objs.size:=by
 cases o with
 |lst xs=>obtain⟨_,_,_,_,e⟩:=x;exact RM e
 |tup xs=>obtain⟨_,_,_,p⟩:=x;exact p.lt
 |ins C dx fs=>obtain⟨_,_,_,e,_⟩:=x;exact RM e
 |own y=>obtain⟨_,e⟩:=x;exact RM e
 |xd fs=>obtain⟨_,⟨_,_,_,e,_⟩,_⟩:=x;exact RM e
 |rng lo hi=>obtain⟨_,_,_,e⟩:=x;exact RM e
 |frz ob u=>obtain⟨e,_⟩:=x;exact RM e
 |tbl ps=>exact RM (show h.get? a=on _ from x)
 |met f y=>exact RM (show h.get? a=on _ from x)
 |ext φ=>obtain⟨_,⟨_,e⟩,_⟩:=x;exact RM e
theorem cL.stay(x:cL P w H h a o)(k:∀b u,(b=a\/H b=on (.own a))->h.get? b=on u->h'.get? b=on u)
  (l:∀b,H b=on (.own a)->H' b=on (.own a)) (A:∀b xs,H b=on (.tup xs)->H' b=on (.tup xs)):cL P w H' h' a o:=by
 induction o with
 |lst xs=>obtain⟨z,its,n,r,e⟩:=x;exact⟨z,its,n,r,k _ _ (.inl rfl) e⟩
 |tup xs=>obtain⟨z,its,r,g,e,c⟩:=x;exact⟨z,its,r,g,k _ _ (.inl rfl) e,c⟩
 |ins C dx fs=>
  obtain⟨d,z,ne,e,i,⟨j,es,ep,m,c⟩,r⟩:=x;exact⟨l _ d,z,ne,k _ _ (.inl rfl) e,i,⟨j,es,ep,k _ _ (.inr d) m,c⟩,r⟩
 |own y=>obtain⟨g,e⟩:=x;exact⟨g,k _ _ (.inl rfl) e⟩
 |xd fs=>obtain⟨i,⟨j,es,ep,e,c⟩,r⟩:=x;exact⟨i,⟨j,es,ep,k _ _ (.inl rfl) e,c⟩,r⟩
 |rng lo hi=>obtain⟨t,u,v,e⟩:=x;exact⟨t,u,v,k _ _ (.inl rfl) e⟩
 |frz g u ih=>obtain⟨e,q⟩:=x;exact⟨k _ _ (.inl rfl) e,ih q⟩
 |tbl ps=>
  have e:h.get? a=on {cls:= .none,data:= .fields ps}:=x;show h'.get? a=on {cls:= .none,data:= .fields ps};exact k a _ (.inl rfl) e
 |met f y=>
  have e:h.get? a=on (methodObj (.ref f) (.ref y)):=x;show h'.get? a=on (methodObj (.ref f) (.ref y));exact k a _ (.inl rfl) e
 |ext φ=>obtain⟨p,⟨o,e⟩,st⟩:=x;exact⟨st _ _ p λo q=>k _ _ (.inl rfl) q,⟨o,k _ _ (.inl rfl) e⟩,st⟩
theorem lb.lt(x:lb P w H h)(e:H a=on o):a<h.objs.size:=(x a o e).lt
theorem lb.fresh(x:lb P w H h)(e:h.objs.size<=a):H a=QY:=by
 cases q:H a with
 |none=>rfl
 |some u=>exact RJ (RH (x.lt q) e) (Sf _)
theorem lb.kept(x:lb P w H h)(k:∀b u,h.get? b=on u->h'.get? b=on u):lb P w H h':=λa o e=>
 (x a o e).stay (λb u _ q=>k b u q) (λ_ q=>q) λ_ _ q=>q
theorem lb.laid(x:lb P w H h)(k:∀b u,h.get? b=on u->h'.get? b=on u)(f:h.objs.size<=a)(new:cL P w (upd H a o) h' a o):lb P w (upd H a o) h':=λb u e=>by
 have hn:=x.fresh f;by_cases d:b=a
 .subst d;rw[aq]at e;cases e;exact new
 .rw[b_ d]at e
  exact(x b u e).stay (λc v _ q=>k c v q) (λc q=>by rw[b_ (az q hn)];exact q) λc xs q=>by rw[b_ (az q hn)];exact q
def Rd(H:Hp)(a:Q6)(u:HO):Prop:=H a=on u\/∃o,H a=on (.frz o u)
theorem Rd.ok{P:RT}{w:R8}{H:Hp}{h:SE}{a:Q6}(r:Rd H a u)(x:lb P w H h):cL P w H h a u:=by
 rcases r with r|⟨o,r⟩
 .exact x a u r
 .obtain⟨_,q⟩:=x a _ r
  exact q
def Mut:Option HO->Prop
 |some (.lst _)=>True
 |some (.ins _ _ _)=>True
 |some (.ext _)=>True
 |_=>False
variable{x e:Q6}{o':HO}
theorem lb.write(ok:lb P w H h)(mu:Mut (H x))(l:e=x\/H e=on (.own x))(k:∀b u,b≠e->h.get? b=on u->h'.get? b=on u)(j:∃u,h'.get? e=on u)
  (new:cL P w (upd H x o') h' x o'):lb P w (upd H x o') h':=λb u q=>by
 have f:∀c y,H c=on (.own y)->c≠x:=λc y r z=>by subst z;rw[r]at mu;exact mu
 have g:∀c xs,H c=on (.tup xs)->c≠x:=λc xs r z=>by subst z;rw[r]at mu;exact mu
 by_cases i:b=x
 .subst i;rw[aq]at q;cases q;exact new
 .rw[b_ i]at q
  by_cases d:b=e
  .have m:H b=on (.own x):=by
    rcases l with z|z
    .exact RJ (d.trans z) i
    .rw[d];exact z
   rw[q]at m;cases m;obtain⟨v,n⟩:=j;exact⟨v,by rw[d];exact n⟩
  .refine(ok b u q).stay (λc v hc r=>k c v ?_ r) (λc r=>by rw[b_ (f c b r)];exact r) λc xs r=>by rw[b_ (g c xs r)];exact r
   rcases hc with rfl|hc
   .exact d
   .rintro rfl
    rcases l with z|z
    .exact f c b hc z
    .rw[hc]at z;cases z;exact i rfl
structure Un (fs ex:List Q6) (H H':Hp) (h h':SE):Prop where
 keep:∀b o,h.get? b=on o->H b=QY->b∉fs->b∉ex->h'.get? b=on o
 slot:∀b o,h.get? b=on o->H b=QY->b∈fs->b∉ex->∃sl,h'.get? b=on {o with slots:=sl}
 free:∀b o,h.get? b=on o->H b=QY->b∉ex->H' b=QY
 there:∀b o,h.get? b=on o->b∉ex->∃o',h'.get? b=on o'
 tups:∀b xs,H b=on (.tup xs)->H' b=on (.tup xs)
 frzs:∀b o u,H b=on (.frz o u)->H' b=on (.frz o u)
 tbls:∀b ps,H b=on (.tbl ps)->∃more,H' b=on (.tbl (ps++more))
variable{fs fs' ex ex':List Q6}{H1 H2:Hp}{h1 h2:SE}
theorem Un.any(u:Un fs ex H H1 h h1)(q:h.get? b=on ob)(n:H b=QY)(c:b∉ex):∃f,h1.get? b=on {ob with slots:=f}:=by
 by_cases d:b∈fs
 .exact u.slot b ob q n d c
 .exact⟨ob.slots,u.keep b ob q n d c⟩
theorem Un.trans(a:Un fs ex H H1 h h1)(b:Un fs ex H1 H2 h1 h2):Un fs ex H H2 h h2 where
 keep:=λc d q n i f=>b.keep c d (a.keep c d q n i f) (a.free c d q n f) i f
 slot:=λc d q n i f=>by
  obtain⟨l,g⟩:=a.slot c d q n i f;obtain⟨j,k⟩:=b.slot c _ g (a.free c d q n f) i f;exact⟨j,k⟩
 free:=λc d q n f=>by
  obtain⟨o',g⟩:=a.there c d q f;exact b.free c o' g (a.free c d q n f) f
 there:=λc d q f=>by
  obtain⟨o',g⟩:=a.there c d q f;exact b.there c o' g f
 tups:=λc xs q=>b.tups c xs (a.tups c xs q)
 frzs:=λc d xs q=>b.frzs c d xs (a.frzs c d xs q)
 tbls:=λc ps q=>by
  obtain⟨m1,g⟩:=a.tbls c ps q;obtain⟨m2,k⟩:=b.tbls c _ g;exact⟨m1++m2,by rw[k,Zs]⟩
theorem Un.kept(k:∀b u,h.get? b=on u->h'.get? b=on u):Un fs ex H H h h':=
 ⟨λb c q _ _ _=>k b c q,λb c q _ _ _=>⟨c.slots,k b c q⟩,λ_ _ _ n _=>n,λb c q _=>⟨c,k b c q⟩,λ_ _ q=>q,λ_ _ _ q=>q,λ_ ps q=>⟨#[],by rw[q];simp⟩⟩
theorem Un.refl:Un fs ex H H h h:=Un.kept λ_ _ q=>q
theorem Un.laid(k:∀b u,h.get? b=on u->h'.get? b=on u)(c:h.objs.size<=a)(hn:H a=QY):Un fs ex H (upd H a o) h h' where
 keep:=λb u q _ _ _=>k b u q
 slot:=λb u q _ _ _=>⟨u.slots,k b u q⟩
 free:=λb u q n _=>by rw[b_ (Sg (RH (RM q) c))];exact n
 there:=λb u q _=>⟨u,k b u q⟩
 tups:=λb xs q=>by rw[b_ (az q hn)];exact q
 frzs:=λb u xs q=>by rw[b_ (az q hn)];exact q
 tbls:=λb ps q=>⟨#[],by rw[b_ (az q hn),q];simp⟩
theorem Un.write(mu:Mut (H x))(i:e=x\/H e=on (.own x))(k:∀b u,b≠e->h.get? b=on u->h'.get? b=on u)(d:∃u,h'.get? e=on u):Un fs ex H (upd H x o) h h':=by
 have f:∀b,H b=QY->b≠x:=λb n z=>by subst z;rw[n]at mu;exact mu
 have g:∀b,H b=QY->b≠e:=λb n z=>by
  subst z;rcases i with r|r
  .exact f b n r
  .rw[n]at r;cases r
 have hm:∀b u,H b=on u->¬Mut (on u)->b≠x:=λb u q j z=>by subst z;rw[q]at mu;exact j mu
 refine⟨λb u q n _ _=>k b u (g b n) q,λb u q n _ _=>⟨u.slots,k b u (g b n) q⟩,λb u q n _=>by rw[b_ (f b n)];exact n,λb u q _=>?_,
  λb xs q=>by rw[b_ (hm b _ q λz=>z)];exact q,λb u xs q=>by rw[b_ (hm b _ q λz=>z)];exact q,λb ps q=>⟨#[],by rw[b_ (hm b _ q λz=>z),q];simp⟩⟩
 by_cases c:b=e
 .subst c;exact d
 .exact⟨u,k b u c q⟩
theorem Un.mono(u:Un fs ex H H1 h h1)(hs:∀b∈fs,b∈fs')(f:∀b∈ex,b∈ex'):Un fs' ex' H H1 h h1:=
 ⟨λb d q n g c=>u.keep b d q n (λz=>g (hs b z)) λz=>c (f b z),λ_ _ q n _ c=>u.any q n λz=>c (f _ z),λb d q n c=>u.free b d q n λz=>c (f b z),λb d q c=>u.there b d q λz=>c (f b z),u.tups,u.frzs,u.tbls⟩
noncomputable def trk(h:SE)(H:Hp):List Q6:=(Re h.objs.size).filter λa=>(H a).isSome
noncomputable def lf(h:SE)(H:Hp):SE:=hideAll h (trk h H)
theorem BP(h:SE)(H:Hp):(lf h H).objs.size=h.objs.size:=PySem.W.hideAll_size _ _
theorem FT{h:SE}{H:Hp}{o:RA}(e:h.get? b=on o)(n:H b=QY):(lf h H).get? b=on o:=
 hideAll_get _ e λhm=>by
  have q:(H b).isSome=Q4:=(SI.mp hm).2;rw[n]at q;simp at q
theorem LH{h:SE}{H:Hp}{o:RA}(e:(lf h H).get? b=on o):h.get? b=on o/\H b=QY:=by
 have c:h.get? b=on o:=Y5 (trk h H) e;refine⟨c,?_⟩;cases q:H b with
 |none=>rfl
 |some x=>
  have hm:b∈trk h H:=SI.mpr ⟨Rz.mpr (RM c),by simp[q]⟩;have z:(lf h H).get? b=QY:=hideAll_none (trk h H) hm;rw[z]at e;cases e
structure Mod (K:RB) (mg:R3->Option Ra) (base:SE):Prop where
 kin:K.In base
 glob:base.Ns TL mg
 blt:∃mb,base.Ns Y7 mb/\∀x:R3,x≠"__name__"->mb x=U5 x
 nolimit:base.NoLimit
structure Cx where
 prog:RT
 w:R8
 K:RB
 mg:R3->Option Ra
 base:SE
 A:SB
 N:List R3
 s₀:Rg
 H₀:Hp
 env:Yi
 outer:List Yi
 stack:List Yi
 ex:List Q6
 fn:R3->Bool
 calm:Bool
 pn:List (Q6×RA)
 xe:Ra->Rg->Prop
noncomputable def g_(l:List Yi):List Q6:=l.filterMap (·.frame)
end
noncomputable abbrev Cx.fs(X:Cx):List Q6:=g_ X.outer
def Vis(a:Scope)(x:R3):Prop:=a.names.lookup x=on .local\/a.names.lookup x=on .cell\/a.names.lookup x=on .free
def y4(a:Scope)(x:R3):Prop:=a.names.lookup x=on .local\/a.names.lookup x=on .cell
def Look(env:Yi)(h:SE)(m:R3->Option Ra)(x:R3)(u:Ra):Prop:=
 (env.kindOf x=on .local/\m x=on u)\/((env.kindOf x=on .cell\/env.kindOf x=on .free)/\∃c,env.cells.lookup x=on c/\h.IsCell c (on u))
structure Cx.Ok (X:Cx):Prop where
 mod:Mod X.K X.mg X.base
 kind:X.env.scope.kind= .function
 glob:X.env.globals=TL
 blt:X.env.builtins=Y7
 above:X.s₀.heap.objs.size<=X.env.locals
 inj:∀x y c,X.env.cells.lookup x=on c->X.env.cells.lookup y=on c->x=y
 has:∀x,(X.env.kindOf x=on .cell\/X.env.kindOf x=on .free)->∃c,X.env.cells.lookup x=on c
 cab:∀x c,X.fn x=Q4->X.env.cells.lookup x=on c->X.s₀.heap.objs.size<=c
 hd:X.calm=Q4->X.A.handled=QY
 frames:X.A.frames=on X.stack
 stk:X.stack=X.outer\/(X.stack=X.env::X.outer/\X.env.frame=on X.env.locals)
 exf:∀b∈X.ex,b≠X.env.locals/\∀x c,X.env.cells.lookup x=on c->c≠b
 bs:∀b o,X.base.get? b=on o->X.s₀.heap.get? b=on o/\X.H₀ b=QY
 bsz:X.base.objs.size<=X.s₀.heap.objs.size
 noex:∀b o,X.base.get? b=on o->b∉X.ex
 exfs:∀b∈X.ex,b∉X.fs
 funs:X.s₀.heap.FunFrames X.base X.outer
 frf:∀b∈X.fs,X.H₀ b=QY
structure cy (X:Cx) (ba:List (Q6×RA)) (σ:List (Option V)) (H:Hp) (s:Rg):Prop where
 ok:X.Ok
 os:s.os=X.s₀.os
 bare:Wc s.gens
 base:Un X.fs X.ex X.H₀ H X.s₀.heap s.heap
 loc:∃m,s.heap.Ns X.env.locals m/\∀(i:Nat) (x:R3) (v:V),X.N[i]?=on x->σ[i]?=on (on v)->Vis X.env.scope x->∃u,aT v u/\Look X.env s.heap m x u
 cell:∀x c,X.env.cells.lookup x=on c->∃v,s.heap.IsCell c v
 free:H X.env.locals=QY
 freeC:∀x c,X.env.cells.lookup x=on c->H c=QY
 pin:∀p∈X.pn++ba,s.heap.get? p.1=on p.2/\H p.1=QY/\p.1≠X.env.locals/\p.1∉X.fs/\∀v,p.2.data≠ .cell v
 hok:lb X.prog X.w H s.heap
 len:σ.length=X.N.length
section
variable{X:Cx}{ba:List (Q6×RA)}{σ:List (Option V)}{H H':Hp}{s:Rg}{h':SE}
theorem Cx.Ok.nofr(ok:X.Ok)(e:X.base.get? b=on o):b∉X.fs:=λa=>by
 have:=(ok.funs.mem a).1;rw[e]at this;cases this
theorem cy.bs(I:cy X ba σ H s):∀b o,X.base.get? b=on o->s.heap.get? b=on o/\H b=QY:=λb o e=>
 ⟨I.base.keep b o (I.ok.bs b o e).1 (I.ok.bs b o e).2 (I.ok.nofr e) (I.ok.noex b o e),I.base.free b o (I.ok.bs b o e).1 (I.ok.bs b o e).2 (I.ok.noex b o e)⟩
theorem cy.bk(I:cy X ba σ H s):∀b o,X.base.get? b=on o->s.heap.get? b=on o:=λb o e=>(I.bs b o e).1
theorem cy.mod(I:cy X ba σ H s):Mod X.K X.mg X.base:=I.ok.mod
theorem cy.kIn(I:cy X ba σ H s):X.K.In s.heap:=I.ok.mod.kin.keeps I.bk
theorem cy.lt(I:cy X ba σ H s):X.env.locals<s.heap.objs.size:=let ⟨_,hn,_⟩:=I.loc;hn.lt
theorem cy.sz(I:cy X ba σ H s):X.s₀.heap.objs.size<=s.heap.objs.size:=Ru I.ok.above (WQ I.lt)
theorem cy.nofs(I:cy X ba σ H s){a:Q6}(h:s.heap.objs.size<=a):a∉X.fs:=λb=>by
 obtain⟨_,o,c,_⟩:=I.ok.funs.mem b;exact RJ (RH (RM c) (Ru I.sz h)) (Sf _)
theorem cy.cne(I:cy X ba σ H s):∀x c,X.env.cells.lookup x=on c->c≠X.env.locals:=λx c e z=>by
 obtain⟨v,o,d,hd⟩:=I.cell x c e;obtain⟨m,⟨f,es,ep,a,b,_⟩,_⟩:=I.loc;rw[z,a]at d;cases d;rw[b]at hd;cases hd
theorem cy.funs(I:cy X ba σ H s):s.heap.FunFrames X.base X.outer:=by
 have all:∀(l:List Yi),(∀b∈g_ l,b∈X.fs)->X.s₀.heap.FunFrames X.base l->s.heap.FunFrames X.base l:=by
  intro l
  induction l with
  |nil=>intro _ _;trivial
  |cons env r ih=>
   intro hs f;obtain⟨g,⟨L,o,a,hn,h,hd⟩,i⟩:=f;have c:L∈X.fs:=hs L (by unfold g_;rw[S8,a];exact Q7);obtain⟨j,e⟩:=I.base.slot L o h (I.ok.frf L c) c λz=>I.ok.exfs L z c;exact⟨g,⟨L,_,a,hn,e,hd⟩,ih (λb d=>hs b (by unfold g_;rw[S8,a];exact Q1 _ d)) i⟩
 exact all X.outer (λ_ d=>d) I.ok.funs
theorem cy.stack(I:cy X ba σ H s):s.heap.FunFrames X.base X.stack:=by
 rcases I.ok.stk with e|⟨e,a⟩
 .rw[e];exact I.funs
 .rw[e]
  obtain⟨m,hn,_⟩:=I.loc;refine .cons (by rw[I.ok.kind];decide) a hn ?_ I.funs;exact Zl (Ru I.ok.bsz I.ok.above)
theorem cy.stkSub(I:cy X ba σ H s):∀b∈g_ X.stack,b∈X.env.locals::X.fs:=λb a=>by
 rcases I.ok.stk with e|⟨e,c⟩
 .rw[e]at a;exact Q1 _ a
 .rw[e]at a
  unfold g_ at a;rw[S8,c]at a;exact a
theorem cy.stkFree(I:cy X ba σ H s):∀b∈g_ X.stack,H b=QY:=λb hb=>by
 rcases Rq.mp (I.stkSub b hb)with e|hb
 .rw[e];exact I.free
 .obtain⟨_,o,a,_⟩:=I.ok.funs.mem hb
  exact I.base.free b o a (I.ok.frf b hb) λz=>I.ok.exfs b z hb
theorem cy.step{ch:List Q6}(I:cy X ba σ H s)
  (f:∀b∈ch,(b∈X.ex\/X.s₀.heap.objs.size<=b)/\b≠X.env.locals/\(∀x c,X.env.cells.lookup x=on c->c≠b)/\∀p∈X.pn++ba,p.1≠b)
  (keep:∀b o,b≠X.env.locals->b∉X.fs->b∉ch->s.heap.get? b=on o->H b=QY->h'.get? b=on o)
  (slot:∀b o,b≠X.env.locals->b∈X.fs->b∉ch->s.heap.get? b=on o->H b=QY->∃J,h'.get? b=on {o with slots:=J}) (free:∀b o,b∉ch->s.heap.get? b=on o->H b=QY->H' b=QY)
  (there:∀b o,b∉ch->s.heap.get? b=on o->∃B,h'.get? b=on B)
  (tups:∀b xs,H b=on (.tup xs)->H' b=on (.tup xs)) (frzs:∀b o u,H b=on (.frz o u)->H' b=on (.frz o u)) (tbls:∀b ps,H b=on (.tbl ps)->∃more,H' b=on (.tbl (ps++more)))
  (ns:∀m,s.heap.Ns X.env.locals m->h'.Ns X.env.locals m) (hok:lb X.prog X.w H' h') (P:Wc g'):
  cy X ba σ H' {s with heap:=h',gens:=g',drawn:=d',toks:=t'}:=by
 have C:∀b o,X.s₀.heap.get? b=on o->b≠X.env.locals:=λb o e=>Sg (RH (RM e) I.ok.above);have j:∀b o,X.s₀.heap.get? b=on o->b∉X.ex->b∉ch:=λb o e a y=>by
  rcases(f b y).1 with z|z
  .exact a z
  .exact RJ (RH (RM e) z) (Sf _)
 have g:∀x c,X.env.cells.lookup x=on c->∀v,s.heap.IsCell c v->h'.IsCell c v:=λx c e v ⟨o,A,hd⟩=>by
  have h:c∉ch:=λz=>(f c z).2.2.1 x c e rfl;by_cases N:c∈X.fs
  .obtain⟨J,q⟩:=slot c o (I.cne x c e) N h A (I.freeC x c e)
   exact⟨_,q,hd⟩
  .exact⟨o,keep c o (I.cne x c e) N h A (I.freeC x c e),hd⟩
 refine⟨I.ok,I.os,P,⟨λb o e n y a=>?_,λb o e n y a=>?_,λb o e n a=>?_,λb o e a=>?_,λb xs e=>tups b xs (I.base.tups b xs e),λb o xs e=>frzs b o xs (I.base.frzs b o xs e),λb ps e=>?_⟩,?_,λx c e=>?_,?_,λx c e=>?_,λp O=>?_,hok,I.len⟩
 .exact keep b o (C b o e) y (j b o e a) (I.base.keep b o e n y a) (I.base.free b o e n a)
 .obtain⟨J,t⟩:=I.base.slot b o e n y a
  obtain⟨L,F⟩:=slot b _ (C b o e) y (j b o e a) t (I.base.free b o e n a);exact⟨L,F⟩
 .obtain⟨B,t⟩:=I.base.there b o e a
  exact free b B (j b o e a) t (I.base.free b o e n a)
 .obtain⟨B,t⟩:=I.base.there b o e a
  exact there b B (j b o e a) t
 .obtain⟨m1,t⟩:=I.base.tbls b ps e
  obtain⟨m2,F⟩:=tbls b _ t;exact⟨m1++m2,by rw[F,Zs]⟩
 .obtain⟨m,hn,Q⟩:=I.loc
  refine⟨m,ns m hn,λi x v t F R=>?_⟩;obtain⟨u,r,l⟩:=Q i x v t F R;refine⟨u,r,?_⟩;rcases l with l|⟨k,c,e,z⟩
  .exact .inl l
  .exact .inr ⟨k,c,e,g x c e _ z⟩
 .obtain⟨v,z⟩:=I.cell x c e
  exact⟨v,g x c e v z⟩
 .obtain⟨m,⟨o,_,_,A,_⟩,_⟩:=I.loc
  exact free _ o (λz=>(f _ z).2.1 rfl) A I.free
 .obtain⟨v,o,A,hd⟩:=I.cell x c e
  exact free c o (λz=>(f c z).2.2.1 x c e rfl) A (I.freeC x c e)
 .obtain⟨e,n,ne,nf,d⟩:=I.pin p O
  have h:p.1∉ch:=λz=>(f p.1 z).2.2.2 p O rfl;exact⟨keep p.1 p.2 ne nf h e n,free p.1 p.2 h e n,ne,nf,d⟩
theorem cy.un(I:cy X ba σ H s)(u:Un X.fs [] H H' s.heap h')(hok:lb X.prog X.w H' h'):cy X ba σ H' {s with heap:=h',toks:=t'}:=by
 obtain⟨m,⟨o,es,ep,g,r⟩,_⟩:=id I.loc;obtain⟨j,h⟩:=u.any g I.free (by simp);exact I.step (g':=s.gens) (d':=s.drawn) (ch:=[]) (λ_ z=>nomatch z) (λb o _ c _ e n=>u.keep b o e n c (by simp)) (λb o _ c _ e n=>u.slot b o e n c (by simp)) (λb o _ e n=>u.free b o e n (by simp)) (λb o _ e=>u.there b o e (by simp)) u.tups u.frzs u.tbls (λk hm=>by
  obtain⟨l,d,f,a,i⟩:=hm;rw[g]at a;cases a;exact⟨_,d,f,h,i⟩) hok I.bare
theorem cy.call{ch:List Q6}(I:cy X ba σ H s)(u:Un (g_ X.stack) ch H H' s.heap h')(hok:lb X.prog X.w H' h')(k:Wc g')
  (d:∀b∈ch,(b∈X.ex\/X.s₀.heap.objs.size<=b)/\b≠X.env.locals/\(∀x c,X.env.cells.lookup x=on c->c≠b)/\∀p∈X.pn++ba,p.1≠b):
  cy X ba σ H' {s with heap:=h',gens:=g',drawn:=d',toks:=t'}:=by
 obtain⟨m,⟨o,es,ep,j,r⟩,_⟩:=id I.loc;obtain⟨t,g⟩:=u.any j I.free λz=>(d _ z).2.1 rfl;exact I.step (ch:=ch) d (λb o g l a e n=>u.keep b o e n (λz=>(Rq.mp (I.stkSub b z)).elim g l) a) (λb o _ _ a e n=>u.any e n a) (λb o a e n=>u.free b o e n a) (λb o a e=>u.there b o e a) u.tups u.frzs u.tbls (λv hm=>by
  obtain⟨y,h,i,f,q⟩:=hm;rw[j]at f;cases f;exact⟨_,h,i,g,q⟩) hok k
theorem cy.turned(I:cy X ba σ H s)(k:∀b o,b≠it->s.heap.get? b=on o->h'.get? b=on o)(hn:H it=QY)(f:it≠X.env.locals)
  (g:it∈X.ex\/X.s₀.heap.objs.size<=it) (h:∀x c,X.env.cells.lookup x=on c->c≠it) (i:∀p∈X.pn++ba,p.1≠it):cy X ba σ H {s with heap:=h',toks:=t'}:=by
 have d:∀b u,H b=on u->b≠it:=λb u e z=>by rw[z,hn]at e;cases e
 refine I.step (g':=s.gens) (d':=s.drawn) (ch:=[it]) (λb j=>?_) (λb o _ _ a e _=>k b o (λz=>a (by simp[z])) e) (λb o _ _ a e _=>⟨o.slots,k b o (λz=>a (by simp[z])) e⟩) (λ_ _ _ _ n=>n)
  (λb o a e=>⟨o,k b o (λz=>a (by simp[z])) e⟩) (λ_ _ e=>e) (λ_ _ _ e=>e) (λb ps e=>⟨#[],by rw[e];simp⟩) (λm hm=>?_) (λb u e=>?_) I.bare
 .have e:b=it:=by simpa using j
  subst e;exact⟨g,f,h,i⟩
 .obtain⟨o,es,ep,l,r⟩:=hm
  exact⟨o,es,ep,k _ o (Ne.symm f) l,r⟩
 .refine(I.hok b u e).stay (λc v a q=>k c v ?_ q) (λ_ q=>q) λ_ _ q=>q
  rcases a with z|z
  .rw[z];exact d b u e
  .exact d c _ z
theorem cy.tok(I:cy X ba σ H s)(t:Nat):cy X ba σ H {s with toks:=t}:=I.un (h':=s.heap) (t':=t) Un.refl I.hok
theorem cy.kept(I:cy X ba σ H s)(k:∀b u,s.heap.get? b=on u->h'.get? b=on u):cy X ba σ H {s with heap:=h',toks:=t'}:=I.un (Un.kept k) (I.hok.kept k)
theorem cy.laid{a:Q6}{o:HO}{t':Nat}(I:cy X ba σ H s)(k:∀b u,s.heap.get? b=on u->h'.get? b=on u)(c:s.heap.objs.size<=a)(new:cL X.prog X.w (upd H a o) h' a o):
  cy X ba σ (upd H a o) {s with heap:=h',toks:=t'}:=I.un (Un.laid k c (I.hok.fresh c)) (I.hok.laid k c new)
theorem cy.write(I:cy X ba σ H s)(mu:Mut (H x))(c:e=x\/H e=on (.own x))(k:∀b u,b≠e->s.heap.get? b=on u->h'.get? b=on u)(a:∃u,h'.get? e=on u)
  (new:cL X.prog X.w (upd H x o) h' x o):cy X ba σ (upd H x o) {s with heap:=h',toks:=t'}:=I.un (Un.write mu c k a) (I.hok.write mu c k a new)
theorem cy.pins_of(I:cy X ba σ H s)(h:∀p∈pins',s.heap.get? p.1=on p.2/\H p.1=QY/\p.1≠X.env.locals/\p.1∉X.fs/\∀v,p.2.data≠ .cell v):cy X pins' σ H s:=
 ⟨I.ok,I.os,I.bare,I.base,I.loc,I.cell,I.free,I.freeC,λp a=>(S4.mp a).elim (λz=>I.pin p (Uf _ z)) (h p),I.hok,I.len⟩
theorem uY{N:List R3}(c:N.Nodup){i j:Nat}{x:R3}(a:N[i]?=on x)(b:N[j]?=on x):i=j:=by
 obtain⟨f,d⟩:=Rj.mp a;obtain⟨g,e⟩:=Rj.mp b;exact(List.getElem_inj c).mp (d.trans e.symm)
theorem l3{M:Model}{E:Ra->Rg->Prop}(I:cy X ba σ H s)(hN:X.N.Nodup)(O:X.N[i]?=on x)(l:y4 X.env.scope x)(r:aT v u)
  (h:∀s',cy X ba (σ.set i (on v)) H s'->(∃a,RQ a s.heap s'.heap/\(a=X.env.locals\/X.env.cells.lookup x=on a))->Q () s') (hf:X.fn x=Q4\/X.env.scope.names.lookup x=on .local:=by first|exact .inl rfl|exact .inr rfl|assumption):Rt M A (storeName X.env x u) Q E s:=by
 obtain⟨m,hn,hl⟩:=id I.loc;have P:(X.env.scope.kind== .class||(X.env.scope.kind== .module&&X.env.locals !=X.env.globals))=Q9:=by rw[I.ok.kind];rfl
 have C:i<σ.length:=by rw[I.len];exact(Rj.mp O).1
 have cne:=I.cne;have f:∀{a:Q6} {h':SE},(∃o,s.heap.get? a=on o/\H a=QY)->RQ a s.heap h'->lb X.prog X.w H h':=λ{a h'} ha hs b ob e=>by
  obtain⟨_,_,t⟩:=ha;refine(I.hok b ob e).stay (λc Y hc q=>(hs.2 c ?_).trans q) (λ_ q=>q) λ_ _ q=>q;rintro rfl;rcases hc with rfl|hc
  .rw[t]at e;cases e
  .rw[t]at hc;cases hc
 rcases l with hk|hk
 .refine wpAny_storeName_local hk hn (λh' hn' hs=>?_) P
  obtain⟨oL,_,_,hoL,_⟩:=id hn;refine h _ ⟨I.ok,I.os,I.bare,⟨λb o e n F l=>?_,λb o e n F l=>?_,I.base.free,λb o e l=>?_,I.base.tups,I.base.frzs,I.base.tbls⟩,⟨_,hn',λj y v' g B e3=>?_⟩,λy c e=>?_,I.free,I.freeC,λp hp=>?_,f ⟨oL,hoL,I.free⟩ hs,by simpa using I.len⟩ ⟨_,hs,.inl rfl⟩
  .exact(hs.2 b (Sg (RH (RM e) I.ok.above))).trans (I.base.keep b o e n F l)
  .obtain⟨sl,g⟩:=I.base.slot b o e n F l
   exact⟨sl,(hs.2 b (Sg (RH (RM e) I.ok.above))).trans g⟩
  .obtain⟨o',g⟩:=I.base.there b o e l
   exact⟨o',(hs.2 b (Sg (RH (RM e) I.ok.above))).trans g⟩
  .by_cases J:j=i
   .subst J
    rw[O]at g;cases g;rw[YT C]at B;cases B;exact⟨u,r,.inl ⟨hk,by simp⟩⟩
   .rw[Zn (Ne.symm J)]at B
    obtain⟨u',r',q⟩:=hl j y v' g B e3;refine⟨u',r',?_⟩;rcases q with⟨k,e⟩|⟨k,c,e,z⟩
    .refine .inl ⟨k,?_⟩
     have:y≠x:=λe=>J (uY hN g (e▸O));simp[this,e]
    .exact .inr ⟨k,c,e,z.sameBut hs (cne y c e)⟩
  .obtain⟨Y,z⟩:=I.cell y c e
   exact⟨Y,z.sameBut hs (cne y c e)⟩
  .obtain⟨e,n,ne,nf,d⟩:=I.pin p hp
   exact⟨(hs.2 p.1 ne).trans e,n,ne,nf,d⟩
 .have L:X.fn x=Q4:=by
   rcases hf with z|z
   .exact z
   .rw[z]at hk;cases hk
  obtain⟨c,hc⟩:=I.ok.has x (.inl hk);obtain⟨Y,z⟩:=I.cell x c hc;refine wpAny_storeName_cell I.ok.kind hk hc z (λh' R hs=>?_);obtain⟨oc,T,U⟩:=id z;refine h {s with heap:=h'} ⟨I.ok,I.os,I.bare,⟨λb o e n F l=>?_,λb o e n F l=>?_,I.base.free,λb o e l=>?_,I.base.tups,I.base.frzs,I.base.tbls⟩,⟨m,hn.sameBut hs (Ne.symm (cne x c hc)),λj y v' g B e3=>?_⟩,λy Z e=>?_,I.free,I.freeC,λp hp=>?_,f ⟨oc,T,I.freeC x c hc⟩ hs,by simpa using I.len⟩ ⟨c,hs,.inr hc⟩
  .exact(hs.2 b (Sg (RH (RM e) (I.ok.cab x c L hc)))).trans (I.base.keep b o e n F l)
  .obtain⟨sl,g⟩:=I.base.slot b o e n F l
   exact⟨sl,(hs.2 b (Sg (RH (RM e) (I.ok.cab x c L hc)))).trans g⟩
  .obtain⟨o',g⟩:=I.base.there b o e l
   exact⟨o',(hs.2 b (Sg (RH (RM e) (I.ok.cab x c L hc)))).trans g⟩
  .by_cases J:j=i
   .subst J
    rw[O]at g;cases g;rw[YT C]at B;cases B;exact⟨u,r,.inr ⟨.inl hk,c,hc,R⟩⟩
   .rw[Zn (Ne.symm J)]at B
    obtain⟨u',r',q⟩:=hl j y v' g B e3;refine⟨u',r',?_⟩;rcases q with q|⟨k,Z,e,z'⟩
    .exact .inl q
    .refine .inr ⟨k,Z,e,z'.sameBut hs ?_⟩
     rintro rfl;exact J (uY hN g (I.ok.inj _ _ _ e hc▸O))
  .by_cases W:Z=c
   .subst W;exact⟨_,R⟩
   .obtain⟨w2,z2⟩:=I.cell y Z e
    exact⟨w2,z2.sameBut hs W⟩
  .obtain⟨e,n,ne,nf,d⟩:=I.pin p hp
   refine⟨(hs.2 p.1 ?_).trans e,n,ne,nf,d⟩;intro q;rw[q,T]at e;have q':oc=p.2:=RO e;exact d Y (by rw[<-q'];exact U)
theorem oN{M:Model}{E:Ra->Rg->Prop}(I:cy X ba σ H s)(a:X.N.Nodup)(b:X.N[i]?=on x)(c:y4 X.env.scope x)(r:aT v u)
  (h:∀s',cy X ba (σ.set i (on v)) H s'->Q () s') (d:X.fn x=Q4\/X.env.scope.names.lookup x=on .local:=by first|exact .inl rfl|exact .inr rfl|assumption):Rt M A (storeName X.env x u) Q E s:=
 l3 I a b c r (λs' e _=>h s' e) d
theorem cy.call'{s':Rg}{ch:List Q6}(I:cy X ba σ H s)(d:s'.os=s.os)(u:Un (g_ X.stack) ch H H' s.heap s'.heap)(hok:lb X.prog X.w H' s'.heap)(f:Wc s'.gens)
  (a:∀b∈ch,(b∈X.ex\/X.s₀.heap.objs.size<=b)/\b≠X.env.locals/\(∀x c,X.env.cells.lookup x=on c->c≠b)/\∀p∈X.pn++ba,p.1≠b):cy X ba σ H' s':=by
 obtain⟨h',g',d',t',g⟩:=s';have e:g=s.os:=d;subst e;exact I.call (g':=g') (t':=t') (d':=d') u hok f a
abbrev XK:=Ra->Option Q6->Hp->Prop
abbrev St:=List (Option V)
abbrev VK:=V->Hp->Prop
abbrev TE:=St->Hp->VK->Prop
abbrev TT:=St->Hp->(Bool->Hp->Prop)->Prop
abbrev TA:=St->Hp->(List V->Hp->Prop)->Prop
structure o_ where
 nx:St->Hp->Prop
 rt:VK
 bk:St->Hp->Prop:=λ_ _=>False
 ct:St->Hp->Prop:=λ_ _=>False
abbrev TS:=o_->St->Hp->Prop
def EP(X:Cx)(ba:List (Q6×RA))(σ:St)(Q:VK)(u:Ra)(s':Rg):Prop:=∃v H',cy X ba σ H' s'/\aT v u/\Q v H'
def TP(X:Cx)(ba:List (Q6×RA))(σ:St)(Q:Bool->Hp->Prop)(b:Bool)(s':Rg):Prop:=∃H',cy X ba σ H' s'/\Q b H'
def AP(X:Cx)(ba:List (Q6×RA))(σ:St)(Q:List V->Hp->Prop)(us:List Ra)(s':Rg):Prop:=∃vs H',cy X ba σ H' s'/\au vs us/\Q vs H'
def SP(X:Cx)(ba:List (Q6×RA))(D:o_)(f:Flow)(s':Rg):Prop:=
 match f with
 | .next=>∃a H',cy X ba a H' s'/\D.nx a H'
 | .brk=>∃a H',cy X ba a H' s'/\D.bk a H'
 | .cont=>∃a H',cy X ba a H' s'/\D.ct a H'
 | .ret u=>∃v a H',cy X ba a H' s'/\aT v u/\D.rt v H'
def PE(X:Cx)(e:Expr)(t:TE):Prop:=
 ∀(ba:List (Q6×RA)) (s:Rg) (σ:St) (H:Hp) (Q:VK),cy X ba σ H s->t σ H Q->Rt (RN X.prog X.w) X.A (Sw e X.env) (EP X ba σ Q) X.xe s
def PT(X:Cx)(e:Expr)(t:TT):Prop:=
 ∀(ba:List (Q6×RA)) (s:Rg) (σ:St) (H:Hp) (Q:Bool->Hp->Prop),cy X ba σ H s->t σ H Q->Rt (RN X.prog X.w) X.A (isTrue e X.env (Sw e X.env)) (TP X ba σ Q) X.xe s
def PW(X:Cx)(e:Expr)(t:TT):Prop:=
 ∀(a:Sem Ra) (ba:List (Q6×RA)) (s:Rg) (σ:St) (H:Hp) (Q:Bool->Hp->Prop),cy X ba σ H s->t σ H Q->Rt (RN X.prog X.w) X.A (isTrue e X.env a) (TP X ba σ Q) X.xe s
theorem PW.pt{X:Cx}(h:PW X e t):PT X e t:=h _
def PA(X:Cx)(es:List Expr)(t:TA):Prop:=
 ∀(pos:Vy) (ba:List (Q6×RA)) (s:Rg) (σ:St) (H:Hp) (Q:List V->Hp->Prop),cy X ba σ H s->t σ H Q->Rt (RN X.prog X.w) X.A (spliced (Tx pos (Rm es X.env))) (AP X ba σ Q) X.xe s
def PS(X:Cx)(st:Sy)(t:TS):Prop:=
 ∀(ba:List (Q6×RA)) (s:Rg) (σ:St) (H:Hp) (D:o_),cy X ba σ H s->t D σ H->Rt (RN X.prog X.w) X.A (exec st X.env) (SP X ba D) X.xe s
def PSs(X:Cx)(st:List Sy)(t:TS):Prop:=
 ∀(ba:List (Q6×RA)) (s:Rg) (σ:St) (H:Hp) (D:o_),cy X ba σ H s->t D σ H->Rt (RN X.prog X.w) X.A (execs st X.env) (SP X ba D) X.xe s
theorem ee{α:Type}{t:Sem α}{Q b:α->Rg->Prop}{M:Model}{A:SB}{E:Ra->Rg->Prop}{s:Rg}(h:Rt M A t Q E s)(c:∀a s,Q a s->b a s):Rt M A t b E s:=Sh h c λ_ _ x=>x
def lY(i:Nat):TE:=λσ H Q=>∃v,σ[i]?=on (on v)/\Q v H
def tC(v:V):TE:=λ_ H Q=>Q v H
theorem Nk(g:X.N[i]?=on x)(j:Vis X.env.scope x)(hd:(x==("__debug__":R3))=Q9:=by decide)(d:(x==("__classdict__":R3))=Q9:=by decide):PE X (.Name x pos) (lY i):=by
 intro ba s σ H Q I h;obtain⟨v,e,h⟩:=h;obtain⟨m,hn,k⟩:=I.loc;obtain⟨u,r,l⟩:=k i x v g e j;have b:EP X ba σ Q u s:=⟨v,H,I,r,h⟩;rcases l with⟨hk,hm⟩|⟨hk,c,f,a⟩
 .exact wpAny_Name (wpAny_loadName_local I.ok.kind hk hn hm b) hd
 .rcases hk with hk|hk
  .exact wpAny_Name (wpAny_loadName_cell I.ok.kind hk f a b) hd
  .exact wpAny_Name (wpAny_loadName_free I.ok.kind hk f a b d) hd
theorem bQ{i j pos}:PE X (.Constant (.int i) j pos) (tC (.int i)):=λ_ _ _ H _ I h=>wpAny_Constant_int ⟨.int i,H,I.tok _,⟨_,rfl⟩,h⟩
theorem Nn{j pos}:PE X (.Constant .none j pos) (tC .non):=λ_ _ _ H _ I h=>Constant_none ⟨.non,H,I,rfl,h⟩
def Gl(X:Cx)(x:R3):Prop:=X.env.kindOf x=on .globalImplicit
theorem rq{E:Ra->Rg->Prop}{ba:List (Q6×RA)}{s:Rg}{σ:St}{H:Hp}(I:cy X ba σ H s)(a:Gl X x)(hm:X.mg x=on u)(h:Q u s)
  (hd:(x==("__debug__":R3))=Q9:=by decide):Rt (RN X.prog X.w) X.A (Sw (.Name x pos) X.env) Q E s:=
 X1 I.ok.kind a (Calls.loadGlobal_global (by rw[I.ok.glob];exact I.mod.glob.keeps I.bk) hm h) hd
theorem gZ{E:Ra->Rg->Prop}{ba:List (Q6×RA)}{s:Rg}{σ:St}{H:Hp}(I:cy X ba σ H s)(a:Gl X x)(hm:X.mg x=QY)(b:U5 x=on u)(h:Q u s)
  (hn:x≠"__name__":=by decide) (hd:(x==("__debug__":R3))=Q9:=by decide):Rt (RN X.prog X.w) X.A (Sw (.Name x pos) X.env) Q E s:=by
 obtain⟨e,c,d⟩:=I.mod.blt;exact X1 I.ok.kind a (Calls.loadGlobal_builtin (by rw[I.ok.glob];exact I.mod.glob.keeps I.bk) hm (by rw[I.ok.blt];exact c.keeps I.bk) ((d x hn).trans b) h) hd
theorem Lz(a:Gl X x)(hm:X.mg x=on u)(r:aT v u)(hd:(x==("__debug__":R3))=Q9:=by decide):PE X (.Name x pos) (tC v):=
 λ_ _ _ H _ I h=>rq I a hm ⟨v,H,I,r,h⟩ hd
variable{a b:Expr}{ta tb:TE}{pos:Vy}
variable{tA tB':TT}{rest:List Expr}
def tOr(t u:TT):TT:=λσ H Q=>t σ H λc d=>if c=Q4 then Q Q4 d else u σ d Q
def tNot(t:TT):TT:=λσ H Q=>t σ H λc d=>Q (!c) d
theorem Nd(ha:PT X a tA):PW X (.BoolOp .Or [a] pos) tA:=by
 intro d ba s σ H Q I h;refine isTrue_or (ee (ha ba s σ H Q I h) λc f e=>?_);cases c with
 |false=>exact isTrue_or_nil e
 |true=>exact e
theorem P6(ha:PT X a tA)(f:PW X (.BoolOp .Or (b::rest) pos) tB'):PW X (.BoolOp .Or (a::b::rest) pos) (tOr tA tB'):=by
 intro g ba s σ H Q I h;refine isTrue_or (ee (ha ba s σ H _ I h) λc i ⟨d,e,q1⟩=>?_);cases c with
 |true=>exact⟨d,e,q1⟩
 |false=>exact f g ba i σ d Q e q1
theorem Ng(ha:PT X a tA):PT X (.UnaryOp .Not a pos) (tNot tA):=by
 intro ba s σ H Q I h;exact isTrue_not (ha ba s σ H (λc d=>Q (!c) d) I h)
def tIf(t:TT)(ta tb:TE):TE:=λσ H Q=>t σ H λc d=>if c=Q4 then ta σ d Q else tb σ d Q
theorem EG(i:PT X c tA)(ha:PE X a ta)(j:PE X b tb):PE X (.IfExp c a b pos) (tIf tA ta tb):=by
 intro ba s σ H Q I h;refine wpAny_IfExp (ee (i ba s σ H _ I h) λd e ⟨f,g,q1⟩=>?_);cases d with
 |true=>exact ha ba e σ f Q g q1
 |false=>exact j ba e σ f Q g q1
def e_(K:RB)(H:Hp)(a:Q6)(xs:List V):Prop:=
 Rd H a (.lst xs)\/
  ∃(o:RA) (its:Array Ra) (n:Nat),K.lookup a=on o/\o.cls= .type "list"/\o.dict=QY/\o.data= .seq its n/\its.size<=RF/\au xs its.toList
def il(K:RB)(H:Hp)(a:Q6)(xs:List V):Prop:=
 Rd H a (.tup xs)\/
  ∃(o:RA) (its:Array Ra) (n:Nat),K.lookup a=on o/\o.cls= .type "tuple"/\o.data= .seq its n/\its.size<=RF/\au xs its.toList
noncomputable def absV:Ra->Option V
 | .none=>on .non
 | .bool b=>on (.bl b)
 | .int i _=>on (.int i)
 | .str x _=>on (.str x)
 | .ref a=>on (.ref a)
 | .type n=>on (.ty n)
 |_=>QY
theorem aT.abs(r:aT x u):absV u=on x:=by
 cases x with
 |non=>cases r;rfl
 |bl _=>cases r;rfl
 |int _=>obtain⟨t,rfl⟩:=r;rfl
 |str _=>obtain⟨t,rfl⟩:=r;rfl
 |ref _=>cases r;rfl
 |ty _=>cases r;rfl
theorem aT.inj(r:aT x u)(q:aT y u):x=y:=RO (r.abs.symm.trans q.abs)
theorem au.inj:∀{xs ys:List V} {us:List Ra},au xs us->au ys us->xs=ys
 |_,_,_,.nil,.nil=>rfl
 |_,_,_,.cons r t,.cons r' t'=>by rw[r.inj r',au.inj t t']
end
section
variable{X:Cx}{ba:List (Q6×RA)}{σ:St}{H:Hp}{s:Rg}{a:Q6}{xs ys:List V}
theorem e_.of{K:RB}(h:H a=on (.lst xs)):e_ K H a xs:= .inl (.inl h)
theorem cy.list(I:cy X ba σ H s)(h:e_ X.K H a xs):∃its:List Ra,au xs its/\PlainL s.heap a its.toArray/\xs.length<=RF:=by
 rcases h with h|⟨o,its,n,b,c,hd,hs,d,r⟩
 .obtain⟨z,its,n,r,e⟩:=h.ok I.hok
  exact⟨its,r,⟨_,n,e,rfl,rfl,rfl⟩,z⟩
 .refine⟨its.toList,r,⟨o,n,I.kIn a o b,c,hd,by simpa using hs⟩,?_⟩
  have e:=r.length;simp only[R0]at e;omega
theorem cy.tuple(I:cy X ba σ H s)(h:il X.K H a xs):∃its:List Ra,au xs its/\IsTup s.heap a its.toArray/\xs.length<=RF:=by
 rcases h with h|⟨o,its,n,b,c,hs,d,r⟩
 .obtain⟨z,its,r,p⟩:=h.ok I.hok
  exact⟨its,r,p,z⟩
 .refine⟨its.toList,r,⟨o,I.kIn a o b,c,n,by simpa using hs⟩,?_⟩
  have e:=r.length;simp only[R0]at e;omega
theorem cy.list_inj(I:cy X ba σ H s)(h:e_ X.K H a xs)(h':e_ X.K H a ys):xs=ys:=by
 obtain⟨its,r,⟨o,n,e,_,_,d⟩,_⟩:=I.list h;obtain⟨its',c,⟨f,g,b,_,_,d'⟩,_⟩:=I.list h';rw[e]at b;cases b;rw[d]at d'
 injection d' with d1 _
 have:its=its':=by simpa using R9 Array.toList d1
 subst this;exact r.inj c
theorem cy.tuple_inj(I:cy X ba σ H s)(h:il X.K H a xs)(h':il X.K H a ys):xs=ys:=by
 obtain⟨its,r,⟨o,e,_,n,d⟩,_⟩:=I.tuple h;obtain⟨its',c,⟨f,b,_,g,d'⟩,_⟩:=I.tuple h';rw[e]at b;cases b;rw[d]at d'
 injection d' with d1 _
 have:its=its':=by simpa using R9 Array.toList d1
 subst this;exact r.inj c
noncomputable abbrev Cx.wish(X:Cx)(E:Ra->Rg->Prop):Cx:={X with xe:=E}
noncomputable abbrev Cx.nox(X:Cx):Cx:=X.wish λ_ _=>False
theorem Cx.Ok.wish{X:Cx}(ok:X.Ok)(E:Ra->Rg->Prop):(X.wish E).Ok:=
 ⟨ok.mod,ok.kind,ok.glob,ok.blt,ok.above,ok.inj,ok.has,ok.cab,ok.hd,ok.frames,ok.stk,ok.exf,ok.bs,ok.bsz,ok.noex,ok.exfs,ok.funs,ok.frf⟩
theorem Cx.Ok.unwish{X:Cx}{E:Ra->Rg->Prop}(ok:(X.wish E).Ok):X.Ok:=
 ⟨ok.mod,ok.kind,ok.glob,ok.blt,ok.above,ok.inj,ok.has,ok.cab,ok.hd,ok.frames,ok.stk,ok.exf,ok.bs,ok.bsz,ok.noex,ok.exfs,ok.funs,ok.frf⟩
variable{E:Ra->Rg->Prop}
theorem cy.wish(I:cy X ba σ H s)(E:Ra->Rg->Prop):cy (X.wish E) ba σ H s:=⟨I.ok.wish E,I.os,I.bare,I.base,I.loc,I.cell,I.free,I.freeC,I.pin,I.hok,I.len⟩
theorem cy.unwish(I:cy (X.wish E) ba σ H s):cy X ba σ H s:=⟨I.ok.unwish,I.os,I.bare,I.base,I.loc,I.cell,I.free,I.freeC,I.pin,I.hok,I.len⟩
theorem SP.unwish{D:o_}(h:SP (X.wish E) ba D f s'):SP X ba D f s':=by
 cases f with
 |next=>obtain⟨b,c,I,q⟩:=h;exact⟨b,c,I.unwish,q⟩
 |brk=>obtain⟨b,c,I,q⟩:=h;exact⟨b,c,I.unwish,q⟩
 |cont=>obtain⟨b,c,I,q⟩:=h;exact⟨b,c,I.unwish,q⟩
 |ret u=>obtain⟨v,b,c,I,r,q⟩:=h;exact⟨v,b,c,I.unwish,r,q⟩
theorem PSs.nox{st:List Sy}(h:PSs X.nox st t):PSs X st t:=λba s σ H D I b=>
 Sh (h ba s σ H D (I.wish _) b) (λ_ _ q=>q.unwish) λ_ _ z=>Tu z
variable{st:Sy}{rest:List Sy}{t u:TS}{e:Expr}{te:TE}{pos:Vy}
noncomputable def PR:TS:=λD σ H=>D.nx σ H
def tSeq(t u:TS):TS:=λD σ H=>t {D with nx:=u D} σ H
theorem rj:PSs X [] PR:=λ_ _ σ H _ I h=>W9 ⟨σ,H,I,h⟩
theorem db(c:PS X st t)(d:PSs X rest u):PSs X (st::rest) (tSeq t u):=by
 intro ba s σ H D I h;refine wpAny_execs_cons (ee (c ba s σ H {D with nx:=u D} I h) λf g q=>?_);cases f with
 |next=>
  obtain⟨b,i,j,q⟩:=q;exact d ba g b i D j q
 |ret v=>exact q
 |brk=>exact q
 |cont=>exact q
theorem nJ(b:PS X st t):PSs X [st] t:=by
 intro ba s σ H D I h;refine wpAny_execs_cons (ee (b ba s σ H D I h) λf c q=>?_);cases f with
 |next=>exact W9 q
 |ret v=>exact q
 |brk=>exact q
 |cont=>exact q
theorem cy.quiet{ba:List (Q6×RA)}{σ:St}{H:Hp}{s:Rg}(I:cy X ba σ H s):interactive X.env=Q9:=by simp[interactive,I.ok.kind]
def xX(te:TE):TS:=λD σ H=>te σ H λ_ b=>D.nx σ b
theorem cJ(b:PE X e te)(hs:VM e QY pos.line X.env=T0 Q9:=by rfl):PS X (.Expr e pos) (xX te):=by
 intro ba s σ H D I h;exact wpAny_Expr_any (ee (b ba s σ H _ I h) λv f ⟨x,c,d,r1,q1⟩=>⟨σ,c,d,q1⟩) I.quiet hs
def ME(te:TE):TS:=λD σ H=>te σ H D.rt
theorem aB(b:PE X e te):PS X (.Return (on e) pos) (ME te):=by
 intro ba s σ H D I h;exact wpAny_Return_some (ee (b ba s σ H _ I h) λv f ⟨x,c,d,r1,q1⟩=>⟨x,σ,c,d,r1,q1⟩)
def tIfS(c:TT)(t u:TS):TS:=λD σ H=>c σ H λb d=>if b=Q4 then t D σ d else u D σ d
theorem JU{a b:List Sy}(j:PT X c tc)(ha:PSs X a t)(k:PSs X b u):PS X (.If c a b pos) (tIfS tc t u):=by
 intro ba s σ H D I h;refine wpAny_If (ee (j ba s σ H _ I h) λd f ⟨g,i,q1⟩=>?_);cases d with
 |true=>exact ha ba f σ g D i q1
 |false=>exact k ba f σ g D i q1
abbrev TG:=V->St->Hp->(St->Hp->Prop)->Prop
abbrev J_:=List V->St->Hp->(St->Hp->Prop)->Prop
def PG(X:Cx)(b:Expr)(t:TG):Prop:=
 ∀(ba:List (Q6×RA)) (s:Rg) (σ:St) (H:Hp) (v:V) (u:Ra) (Q:St->Hp->Prop),cy X ba σ H s->aT v u->t v σ H Q->
  Rt (RN X.prog X.w) X.A (V9 b X.env u) (λ_ s'=>∃c d,cy X ba c d s'/\Q c d) X.xe s
def PGs(X:Cx)(d:List Expr)(t:J_):Prop:=
 ∀(ba:List (Q6×RA)) (s:Rg) (σ:St) (H:Hp) (vs:List V) (us:List Ra) (Q:St->Hp->Prop),cy X ba σ H s->au vs us->t vs σ H Q->
  Rt (RN X.prog X.w) X.A (assignInOrder ((W3 d X.env).map (·.2)) us) (λ_ s'=>∃b c,cy X ba b c s'/\Q b c) X.xe s
abbrev IX:=V->V->V->Hp->(Hp->Prop)->Prop
def Pq(X:Cx)(t:IX):Prop:=
 ∀(ba:List (Q6×RA)) (s:Rg) (σ:St) (H:Hp) (o i v:V) (b c u:Ra) (Q:Hp->Prop),cy X ba σ H s->aT o b->aT i c->aT v u->t o i v H Q->
  Rt (RN X.prog X.w) X.A (setItem b c u) (λ_ s'=>∃d,cy X ba σ d s'/\Q d) X.xe s
abbrev TIp:=V->V->Hp->VK->Prop
def PIp(X:Cx)(op:Operator)(t:TIp):Prop:=
 ∀(ba:List (Q6×RA)) (s:Rg) (σ:St) (H:Hp) (x y:V) (v u:Ra) (Q:VK),cy X ba σ H s->aT x v->aT y u->t x y H Q->
  Rt (RN X.prog X.w) X.A (inplaceOp op v u) (EP X ba σ Q) X.xe s
def fi(i:Nat):TG:=λv σ H Q=>Q (σ.set i (on v)) H
theorem wX(b:X.N.Nodup)(c:X.N[i]?=on x)(d:y4 X.env.scope x)(f:X.fn x=Q4\/X.env.scope.names.lookup x=on .local:=by first|exact .inl rfl|exact .inr rfl|assumption):PG X (.Name x pos) (fi i):=by
 intro ba s σ H v u Q I r h;exact Yd (oN I b c d r (λs' g=>⟨_,H,g,h⟩) f)
noncomputable def gNil:J_:=λvs σ H Q=>vs=[]/\Q σ H
def yN(t:TG)(u:J_):J_:=λvs σ H Q=>∃v r,vs=v::r/\t v σ H λb c=>u r b c Q
theorem br:PGs X [] gNil:=by
 intro ba s σ H vs us Q I r h;obtain⟨e,h⟩:=h;subst e;cases r;exact assignInOrder_nil ⟨σ,H,I,h⟩
theorem aw{e:Expr}{t:TG}{u:J_}(c:PG X e t)(d:PGs X es u)
  (hs:(W3 (e::es) X.env).map (·.2)=V9 e X.env::(W3 es X.env).map (·.2):=by rfl):PGs X (e::es) (yN t u):=by
 intro ba s σ H vs us Q I r h;obtain⟨v,l,f,h⟩:=h;subst f;cases r with
 |cons r g=>
  rw[hs];refine assignInOrder_cons (ee (c ba s σ H _ _ _ I r h) λ_ i ⟨b,j,k,q1⟩=>?_);exact d ba i b j _ _ Q k g q1
def FW(K:RB)(n:Nat)(t:J_):TG:=λv σ H Q=>∃a xs,v= .ref a/\il K H a xs/\xs.length=n/\t xs σ H Q
theorem bB{t:J_}(g:X.calm=Q4)(h:PGs X es t)
  (hn:(W3 es X.env).length=n:=by rfl) (c:(W3 es X.env).findIdx? (·.1)=QY:=by rfl):PG X (.Tuple es k pos) (FW X.K n t):=by
 intro ba s σ H v u Q I r d;obtain⟨a,xs,i,j,l,d⟩:=d;subst i;cases r;obtain⟨its,f,m,w⟩:=I.tuple j;refine assign_Tuple_tuple (I.ok.hd g) m (by simp[hn,<-l,f.length]) c λh' p=>?_;have q:cy X ba σ H {s with heap:=h'}:=I.kept (t':=s.toks) λb o e=>p b o (Sg (RM e)) e;exact h ba _ σ H xs _ Q q (by simpa using f) d
def FX(to b:TE)(t:IX):TG:=λv σ H Q=>to σ H λo c=>b σ c λi d=>t o i v d λf=>Q σ f
theorem mz{t:IX}(d:PE X o to)(f:PE X i ti)(hs:Pq X t)
  (ha:∀v,V9 (.Subscript o i pos) X.env v=(do
   let b <-U6 [v] (Sw o X.env)
   let c <-U6 [v,b] (Sw i X.env)
   UF pos
   U6 [v,b,c] (setItem b c v)
   release [v,b,c] []):=by intro _;rfl):PG X (.Subscript o i pos) (FX to ti t):=by
 intro ba s σ H v u Q I r h;rw[ha];refine My (SX (ee (d ba s σ H _ I h) λb g ⟨x,j,k,r1,q1⟩=>?_));refine My (SX (ee (f ba g σ j _ k q1) λc l ⟨y,m,n,p,q2⟩=>?_));refine My (T6 (My (SX (ee (hs ba l σ m x y v b c u _ n r1 p r q2) λ_ A ⟨q,w,q3⟩=>?_))));exact wpAny_release ⟨σ,q,w,q3⟩
def h9(te:TE)(g:TG):TS:=λD σ H=>te σ H λx b=>g x σ b D.nx
theorem eS{tg e:Expr}{te:TE}(b:PE X e te)(c:PG X tg g)(hs:swapsWithSole [tg] e pos.line X.env=T0 Q9:=by rfl)(d:swappedStores [tg] e X.env=T0 QY:=by rfl)
  (f:(W3 [tg] X.env).map (·.2)=[V9 tg X.env]:=by rfl):PS X (.Assign [tg] e pos) (h9 te g):=by
 intro ba s σ H D I h;refine wpAny_Assign_stores (ee (b ba s σ H _ I h) λv i ⟨x,j,k,r1,q1⟩=>?_) hs d;rw[f];exact ee (c ba i σ j x v _ k r1 q1) λ_ l q=>q
theorem qd{e:Expr}{te:TE}(b:X.N.Nodup)(c:X.N[i]?=on x)(d:y4 X.env.scope x)(f:PE X e te)(hs:VM e (on (.Name x pos')) pos.line X.env=T0 Q9:=by rfl)(g:X.fn x=Q4\/X.env.scope.names.lookup x=on .local:=by first|exact .inl rfl|exact .inr rfl|assumption):
  PS X (.Assign [.Name x pos'] e pos) (h9 te (fi i)):=by
 intro ba s σ H D I h;refine wpAny_Assign_Name (ee (f ba s σ H _ I h) λv m ⟨y,j,k,r1,q1⟩=>?_) hs;exact oN k b c d r1 (λn l=>⟨_,j,l,q1⟩) g
def MK(i:Nat)(te:TE)(b:TIp):TS:=λD σ H=>∃x,σ[i]?=on (on x)/\te σ H λy c=>b x y c λz d=>D.nx (σ.set i (on z)) d
theorem eP{e:Expr}{te:TE}(o:X.N.Nodup)(n:X.N[i]?=on x)(g:y4 X.env.scope x)(p:PE X e te)(q:PIp X op ti)(B:X.fn x=Q4\/X.env.scope.names.lookup x=on .local:=by first|exact .inl rfl|exact .inr rfl|assumption):
  PS X (.AugAssign (.Name x pos') op e pos) (MK i te ti):=by
 intro ba s σ H D I h;obtain⟨v,C,h⟩:=h;obtain⟨m,hn,F⟩:=I.loc;have j:Vis X.env.scope x:=by rcases g with k|k;exact .inl k;exact .inr (.inl k)
 obtain⟨u,r,l⟩:=F i x v n C j;refine wpAny_AugAssign_Name ?_;have go:Rt (RN X.prog X.w) X.A (Sw e X.env) (λw d=>Rt (RN X.prog X.w) X.A (inplaceOp op u w) (λr f=>Rt (RN X.prog X.w) X.A (storeName X.env x r) (λ_=>SP X ba D .next) X.xe f) X.xe d) X.xe s:=by
  refine ee (p ba s σ H _ I h) λw J ⟨y,L,O,r1,q1⟩=>?_;refine ee (q ba J σ L v y u w _ O r r1 q1) λz W ⟨Y,P,Q,R,q2⟩=>?_;exact oN Q o n g R (λZ T=>⟨_,P,T,q2⟩) B
 rcases l with⟨hk,hm⟩|⟨hk,c,U,b⟩
 .exact wpAny_loadName_local I.ok.kind hk hn hm go
 .rcases hk with hk|hk
  .exact wpAny_loadName_cell I.ok.kind hk U b go
  .rcases g with k|k
   .have:X.env.scope.names.lookup x=on .free:=hk
    rw[k]at this;cases this
   .have:X.env.scope.names.lookup x=on .free:=hk
    rw[k]at this;cases this
def ipI(f:Int->Int->Int):TIp:=λx y H Q=>∃i j,x= .int i/\y= .int j/\Q (.int (f i j)) H
theorem kA:PIp X .Add (ipI λi j=>i+j):=by
 intro ba s σ H x y v u Q I r1 b h;obtain⟨i,j,c,d,q⟩:=h;subst c;subst d;obtain⟨t,rfl⟩:=r1;obtain⟨t',rfl⟩:=b;exact iadd_int ⟨.int _,H,I.tok _,⟨_,rfl⟩,q⟩
theorem NT:PIp X .Sub (ipI λi j=>i-j):=by
 intro ba s σ H x y v u Q I r1 b h;obtain⟨i,j,c,d,q⟩:=h;subst c;subst d;obtain⟨t,rfl⟩:=r1;obtain⟨t',rfl⟩:=b;exact isub_int ⟨.int _,H,I.tok _,⟨_,rfl⟩,q⟩
def MD(c:TT)(i:TS):TS:=λD σ H=>∃W:Nat->St->Hp->Prop,(∃m,W m σ H)/\∀m σ H,W m σ H->
 c σ H λb f=>if b=Q4 then ∃N:St->Hp->Prop,(∀d g,N d g->∃h,h<m/\W h d g)/\i {D with nx:=N,ct:=N,bk:=D.nx} σ f else D.nx σ f
theorem DZ(q:ZW (RN X.prog X.w) X.A X.env X.xe)(J:PT X c tc)(L:PSs X body tb):PS X (.While c body [] pos) (MD tc tb):=by
 intro ba s σ H D I h;obtain⟨W,⟨O,P⟩,i⟩:=h;refine wpAny_While (codeAny_whileLoop (λn s'=>∃j r,cy X ba j r s'/\W n j r) ?_ O ⟨σ,H,I,P⟩);rintro n Q ⟨g,y,R,T⟩;refine UI q (ee (J ba Q g y _ R (i n g y T)) λb U ⟨B,C,q2⟩=>?_);cases b with
 |true=>
  obtain⟨N,F,q2⟩:=q2;rw[Rb rfl];refine UI q (ee (L ba U g B _ C q2) λf Y q3=>?_);cases f with
  |next=>
   obtain⟨d,k,l,m⟩:=q3;obtain⟨o,hm,p⟩:=F d k m;exact⟨o,hm,d,k,l,p⟩
  |cont=>
   obtain⟨d,k,l,m⟩:=q3;obtain⟨o,hm,p⟩:=F d k m;exact⟨o,hm,d,k,l,p⟩
  |brk=>exact q3
  |ret v=>exact q3
 |false=>
  rw[Q8 Ri];exact W9 ⟨g,B,C,q2⟩
structure It where
 go:Nat->Hp->Prop
 yld:Nat->Hp->V->Hp->Prop
 stop:Nat->Hp->Prop
def fq(X:Cx)(ba:List (Q6×RA))(H:Hp)(b:Q6):Prop:=
 H b=QY/\b≠X.env.locals/\b∉X.fs/\(b∈X.ex\/X.s₀.heap.objs.size<=b)/\(∀x c,X.env.cells.lookup x=on c->c≠b)/\∀p∈X.pn++ba,p.1≠b
theorem cy.fpOk{X:Cx}{ba:List (Q6×RA)}{σ:St}{H f:Hp}{s:Rg}{b:Q6}(I:cy X ba σ H s)(d:s.heap.objs.size<=b)(hn:f b=QY):fq X ba f b:=by
 refine⟨hn,Uy (RH I.lt d),I.nofs d,.inr (Ru I.sz d),λx c e z=>?_,λp g z=>?_⟩
 .obtain⟨v,q⟩:=I.cell x c e
  exact RJ (RH q.lt (by rw[z];exact d)) (Sf _)
 .exact RJ (RH (RM (I.pin p g).1) (by rw[z];exact d)) (Sf _)
structure ms (P:RT) (w:R8) (K:RB) (tg:Expr) (J:It) (fp:List Q6) (it:Q6) (tn:Nat->SE->Prop):Prop where
 mem:it∈fp
 obj:∀i h,tn i h->∀b∈fp,∃o,h.get? b=on o/\∀v,o.data≠ .cell v
 keep:∀i h h',tn i h->(∀b∈fp,∀o,h.get? b=on o->h'.get? b=on o)->tn i h'
 item:∀(X:Cx),X.prog=P->X.w=w->X.K=K->X.calm=Q4->∀(i:Nat) (ba:List (Q6×RA)) (s:Rg) (σ:St) (H:Hp) (E:Ra->Rg->Prop),cy X ba σ H s->(∀b∈fp,fq X ba H b)->tn i s.heap->J.go i H->
  Rt (RN P w) X.A (Vu (.ref it)) (λr s1=>∃u,r=on u/\
   Rt (RN P w) X.A (Wa tg (.ref it) u) (λ_ s2=>∃x H',cy X ba σ H' s2/\aT x u/\J.yld i H x H'/\tn (i+1) s2.heap/\∀b∈fp,H' b=QY) E s1) E s
 done:∀(X:Cx),X.prog=P->X.w=w->X.K=K->X.calm=Q4->∀(i:Nat) (ba:List (Q6×RA)) (s:Rg) (σ:St) (H:Hp) (E:Ra->Rg->Prop),cy X ba σ H s->(∀b∈fp,fq X ba H b)->tn i s.heap->J.stop i H->
  Rt (RN P w) X.A (Vu (.ref it)) (λr s1=>r=QY/\cy X ba σ H s1) E s
 self:∀(A:SB) (i:Nat) (s:Rg) (Q:Ra->Rg->Prop) (E:Ra->Rg->Prop),tn i s.heap->Q (.ref it) s->Rt (RN P w) A (Xn (.ref it)) Q E s
abbrev TI:=St->Hp->(It->Hp->Prop)->Prop
def PIE(X:Cx)(ba:List (Q6×RA))(σ:St)(tg:Expr)(R:It->Hp->Prop)(c:Ra)(f:Rg):Prop:=
 ∃(it:Q6) (g:List Q6) (h:Nat->SE->Prop) (J:It) (d:Hp),c= .ref it/\cy X ba σ d f/\ms X.prog X.w X.K tg J g it h/\h 0 f.heap/\(∀b∈g,fq X ba d b)/\R J d
def PI(X:Cx)(tg b:Expr)(c:TI):Prop:=
 ∀(ba:List (Q6×RA)) (s:Rg) (σ:St) (H:Hp) (R:It->Hp->Prop),cy X ba σ H s->c σ H R->
  Rt (RN X.prog X.w) X.A (Sw b X.env) (λv d=>Rt (RN X.prog X.w) X.A (Xn v) (PIE X ba σ tg R) X.xe d) X.xe s
theorem t7{M:Model}{E:Ra->Rg->Prop}{s:Rg}{u:Ra}{o:RA}(c:s.heap.get? it=on o)(d:o.cls= .type n)(hd:o.data= .fields vs)
  (hn:["enumerate","zip","dict_itemiterator","dict_reverseitemiterator","odict_iterator","itertools.zip_longest","itertools.pairwise"].contains n=Q9) (b:Q () s):Rt M A (Wa tg (.ref it) u) Q E s:=by
 unfold Wa;cases tg<;>first
  |exact Q0 b
  |(cases u<;>first
   |exact Q0 b
   |(refine My (wpAny_load c ?_)
     rw[d,hd];show Rt M A (if(["enumerate","zip","dict_itemiterator","dict_reverseitemiterator","odict_iterator","itertools.zip_longest","itertools.pairwise"].contains n&&vs[0]?==on (Vv _))=Q4 then _ else _) Q E s;rw[Q8 (by intro h;rw[hn,WX]at h;cases h)];exact Q0 b))
noncomputable def Itl(K:RB)(a:Q6):It:=
 ⟨λi H=>∃xs x,e_ K H a xs/\xs[i]?=on x,λi H x b=>b=H/\∀xs,e_ K H a xs->xs[i]?=on x,λi H=>∃xs,e_ K H a xs/\xs.length<=i⟩
noncomputable def Itt(K:RB)(a:Q6):It:=
 ⟨λi H=>∃xs x,il K H a xs/\xs[i]?=on x,λi H x b=>b=H/\∀xs,il K H a xs->xs[i]?=on x,λi H=>∃xs,il K H a xs/\xs.length<=i⟩
noncomputable def Itr(lo:Int)(n:Nat):It:=⟨λi _=>i<n,λi H x b=>b=H/\x= .int (lo+i),λi _=>n<=i⟩
theorem rV{K:RB}(a it:Q6):ms P w K tg (Itl K a) [it] it (λi h=>h.IsListIter it a i) where
 mem:=by simp
 obj:=λi h st b f=>by
  have e:b=it:=by simpa using f
  subst e;obtain⟨o,e,c,d⟩:=st;exact⟨o,e,λv z=>by rw[d]at z;cases z⟩
 keep:=λi h h' st k=>st.at λo e=>k it (by simp) o e
 item:=by
  intro X m n q L i ba s σ H E I j st r;subst m n q;obtain⟨xs,x,l,y⟩:=r;obtain⟨its,A,p,N⟩:=I.list l;obtain⟨u,O,Q⟩:=A.get y;obtain⟨B,f1,f2,C,F,J⟩:=j it (by simp);refine wpAny_pyNext_list_item st p.isList (x:=u) (by simpa using O) λh' g R=>?_;have T:cy X ba σ H {s with heap:=h'}:=I.turned (t':=s.toks) (λb o f e=>(R.2 b f).trans e) B f1 C F J;obtain⟨o,e,c,d⟩:=id g;exact⟨u,rfl,t7 (s:={s with heap:=h'}) e c d (by decide) ⟨x,H,T,Q,⟨rfl,λys U=>by rw[I.list_inj U l];exact y⟩,g,λb f=>(j b f).1⟩⟩
 done:=by
  intro X m n q L i ba s σ H E I j st r;subst m n q;obtain⟨xs,l,y⟩:=r;obtain⟨its,A,p,N⟩:=I.list l;obtain⟨B,f1,f2,C,F,J⟩:=j it (by simp);have Y:=A.length;exact wpAny_pyNext_list_end (I.ok.hd L) st p.isList (by simp;omega) λh' W=>⟨rfl,I.turned (t':=s.toks) (λb o f e=>W b o f e) B f1 C F J⟩
 self:=λ_ _ _ _ _ st h=>wpAny_pyIter_listiter st h
theorem xR{K:RB}(a it:Q6):ms P w K tg (Itt K a) [it] it (λi h=>h.IsTupleIter it a i) where
 mem:=by simp
 obj:=λi h st b f=>by
  have e:b=it:=by simpa using f
  subst e;obtain⟨o,e,c,d⟩:=st;exact⟨o,e,λv z=>by rw[d]at z;cases z⟩
 keep:=λi h h' st k=>st.at λo e=>k it (by simp) o e
 item:=by
  intro X m n q L i ba s σ H E I j st r;subst m n q;obtain⟨xs,x,l,y⟩:=r;obtain⟨its,A,p,N⟩:=I.tuple l;obtain⟨u,O,Q⟩:=A.get y;obtain⟨B,f1,f2,C,F,J⟩:=j it (by simp);refine wpAny_pyNext_tuple_item st (show s.heap.IsTuple a its.toArray from p) (x:=u) (by simpa using O) λh' g R=>?_;have T:cy X ba σ H {s with heap:=h'}:=I.turned (t':=s.toks) (λb o f e=>(R.2 b f).trans e) B f1 C F J;obtain⟨o,e,c,d⟩:=id g;exact⟨u,rfl,t7 (s:={s with heap:=h'}) e c d (by decide) ⟨x,H,T,Q,⟨rfl,λys U=>by rw[I.tuple_inj U l];exact y⟩,g,λb f=>(j b f).1⟩⟩
 done:=by
  intro X m n q L i ba s σ H E I j st r;subst m n q;obtain⟨xs,l,y⟩:=r;obtain⟨its,A,p,N⟩:=I.tuple l;obtain⟨B,f1,f2,C,F,J⟩:=j it (by simp);have Y:=A.length;exact wpAny_pyNext_tuple_end (I.ok.hd L) st (show s.heap.IsTuple a its.toArray from p) (by simp;omega) λh' W=>⟨rfl,I.turned (t':=s.toks) (λb o f e=>W b o f e) B f1 C F J⟩
 self:=λ_ _ _ _ _ st h=>wpAny_pyIter_tupleiter st h
theorem xS{K:RB}(it:Q6)(lo:Int)(n:Nat):ms P w K tg (Itr lo n) [it] it (λi h=>Yv h it (lo+(i:Nat)*1) ((n:Int)-(i:Nat)) 1) where
 mem:=by simp
 obj:=λi h st b c=>by
  have e:b=it:=by simpa using c
  subst e;exact⟨_,st,λv z=>by
   have C:Data.fields _=Data.cell v:=z;cases C⟩
 keep:=λi h h' st k=>k it (by simp) _ st
 item:=by
  intro X g j l m i ba s σ H E I f st p;subst g j l;obtain⟨q,f1,f2,r,y,A⟩:=f it (by simp);have W:=Walks.range (prog:=X.prog) (w:=X.w) (I.ok.hd m) it lo 1 n;refine W.item i s _ _ p st λv h' B F d J=>?_;obtain⟨t,rfl⟩:=F;have L:cy X ba σ H {s with heap:=h',toks:=B}:=I.turned (λb o c e=>J b o (by simpa using c) e) q f1 r y A;refine⟨_,rfl,t7 (s:={s with heap:=h',toks:=B}) (n:="range_iterator") d rfl rfl (by decide) ⟨.int (lo+i),H,L,⟨t,?_⟩,⟨rfl,rfl⟩,d,λb c=>(f b c).1⟩⟩;rw[Int.mul_one]
 done:=by
  intro X g j l m i ba s σ H E I f st p;subst g j l;obtain⟨q,f1,f2,r,y,A⟩:=f it (by simp);exact wpAny_pyNext_range_end (I.ok.hd m) st (by have:n<=i:=p;omega) λh' N=>⟨rfl,I.turned (t':=s.toks) (λb o c e=>N b o c e) q f1 r y A⟩
 self:=λ_ _ _ _ _ st h=>W7 st h
variable{tg:Expr}
def QE(K:RB)(c:TE):TI:=λσ H R=>c σ H λx b=>∃a,x= .ref a/\(∃xs,e_ K b a xs)/\R (Itl K a) b
theorem Ls(f:PE X l tl):PI X tg l (QE X.K tl):=by
 intro ba s σ H R I h;refine ee (f ba s σ H _ I h) λv c ⟨x,g,d,r1,q1⟩=>?_;obtain⟨a,e,⟨xs,i⟩,q⟩:=q1;subst e;cases r1;obtain⟨its,k,p,m⟩:=d.list i;refine WK p.isList ?_;refine⟨c.heap.objs.size,[c.heap.objs.size],_,_,g,rfl,d.kept (t':=c.toks) λb o e=>Q3 _ e,rV a _,⟨_,Rw _ rfl,rfl,rfl⟩,λb j=>?_,q⟩;have e:b=c.heap.objs.size:=by simpa using j
 subst e;exact d.fpOk (Rf _) (d.hok.fresh (Rf _))
theorem uL{ba:List (Q6×RA)}{σ:St}{H:Hp}{s:Rg}{E:Ra->Rg->Prop}{lo c:Int}{t u v:Tok}(I:cy X ba σ H s)(f:-(2^62)<=lo)(g:lo<2^62)(h:-(2^62)<=c)(i:c<2^62)
  (q:R (Itr lo (c-lo).toNat) H):Rt (RN X.prog X.w) X.A (Xn (.ref s.heap.objs.size)) (PIE X ba σ tg R) E {s with heap:=s.heap.push {cls:= .type "range",data:= .fields #[.int lo t,.int c u,.int 1 v]},toks:=tk}:=by
 refine wpAny_pyIter_range (IsRange.new ..) (small_one f g h i) ?_;have d:cy X ba σ H {s with heap:=s.heap.push {cls:= .type "range",data:= .fields #[.int lo t,.int c u,.int 1 v]},toks:=tk}:=I.kept λb o e=>Q3 _ e;refine⟨(s.heap.push {cls:= .type "range",data:= .fields #[.int lo t,.int c u,.int 1 v]}).objs.size,[(s.heap.push {cls:= .type "range",data:= .fields #[.int lo t,.int c u,.int 1 v]}).objs.size],_,_,H,rfl,
  d.kept (t':=tk) λb o e=>Q3 _ e,xS _ lo (c-lo).toNat,?_,λb j=>?_,q⟩
 .have k:lo+((0:Nat):Int)*1=lo:=by simp
  have l:(((c-lo).toNat:Nat):Int)-((0:Nat):Int)=Xs lo c 1:=by rw[rangeSize_one];split<;>omega
  show Yv _ _ (lo+((0:Nat):Int)*1) ((((c-lo).toNat:Nat):Int)-((0:Nat):Int)) 1;rw[k,l];exact Rw _ rfl
 .have e:b=(s.heap.push {cls:= .type "range",data:= .fields #[.int lo t,.int c u,.int 1 v]}).objs.size:=by simpa using j
  subst e;exact d.fpOk (Rf _) (d.hok.fresh (Rf _))
def QC(b:TA):TI:=λσ H R=>b σ H λvs c=>∃j:Int,vs=[.int j]/\-(2^62)<=j/\j<2^62/\R (Itr 0 j.toNat) c
def QB(b:TA):TI:=λσ H R=>b σ H λvs c=>∃i j:Int,vs=[.int i,.int j]/\(-(2^62)<=i/\i<2^62/\-(2^62)<=j/\j<2^62)/\R (Itr i (j-i).toNat) c
theorem AD{a:Expr}{p pos:Vy}(b:Gl X "range")(hm:X.mg "range"=QY)(ha:PA X [a] ta)(hs:Rm [a] X.env=[(Q9,Sw a X.env)]:=by rfl):PI X tg (.Call (.Name "range" p) [a] [] pos) (QC ta):=by
 intro ba s σ H R I h;refine Call_ (gZ I b hm boot_range (SR (ee (ha pos ba s σ H _ I h) λus f ⟨vs,g,c,r1,q1⟩=>?_) hs rfl));obtain⟨j,e,q1,q2,q⟩:=q1;subst e;cases r1 with
 |cons r d=>
  cases d;obtain⟨t,rfl⟩:=r;exact call_range_1 (uL c (by omega) (by omega) q1 q2 (by simpa using q))
theorem AC{a b:Expr}{p pos:Vy}(f:Gl X "range")(hm:X.mg "range"=QY)(ha:PA X [a,b] ta)(hs:Rm [a,b] X.env=[(Q9,Sw a X.env),(Q9,Sw b X.env)]:=by rfl)(c:Rm [b] X.env=[(Q9,Sw b X.env)]:=by rfl):
  PI X tg (.Call (.Name "range" p) [a,b] [] pos) (QB ta):=by
 intro ba s σ H R I h;refine Call_ (gZ I f hm boot_range (SR (ee (ha pos ba s σ H _ I h) λus l ⟨vs,m,g,r1,q1⟩=>?_) (by rw[hs,c]) (by rw[c];rfl)));obtain⟨i,j,e,⟨q1,q2,q3,q4⟩,q⟩:=q1;subst e;cases r1 with
 |cons r d=>
  cases d with
  |cons k d=>
   cases d;obtain⟨t,rfl⟩:=r;obtain⟨t',rfl⟩:=k;exact call_range_2 (uL g q1 q2 q3 q4 q)
def MJ(h:TI)(g:TG)(j:TS):TS:=λD σ H=>h σ H λJ k=>∃W:Nat->Nat->St->Hp->Prop,(∃m,W 0 m σ k)/\∀i m σ H,W i m σ H->
 (J.stop i H/\D.nx σ H)\/(J.go i H/\∃N:St->Hp->Prop,(∀b c,N b c->∃f,f<m/\W (i+1) f b c)/\∀x c,J.yld i H x c->g x σ c λd l=>j {D with nx:=N,ct:=N,bk:=D.nx} d l)
noncomputable def my(c:List Q6)(h:SE):List (Q6×RA):=c.filterMap λb=>(h.get? b).map λo=>(b,o)
theorem iA{h:SE}(c:b∈fp)(e:h.get? b=on o):(b,o)∈my fp h:=V1.mpr ⟨b,c,by rw[e];rfl⟩
theorem AH{h:SE}{p:Q6×RA}(c:p∈my fp h):p.1∈fp/\h.get? p.1=on p.2:=by
 obtain⟨b,d,e⟩:=V1.mp c;cases q:h.get? b with
 |none=>rw[q]at e;cases e
 |some o=>
  rw[q]at e;have f:(b,o)=p:=RO e;subst f;exact⟨d,q⟩
theorem cy.pinned{ba:List (Q6×RA)}{σ:St}{H:Hp}{s:Rg}(I:cy X ba σ H s)(g:∀b∈fp,fq X ba H b)(h:∀b∈fp,∃o,s.heap.get? b=on o/\∀v,o.data≠ .cell v):cy X (ba++my fp s.heap) σ H s:=
 I.pins_of λp i=>(S4.mp i).elim (λz=>I.pin p (Sa _ z)) λz=>by
  obtain⟨c,e⟩:=AH z;obtain⟨j,f1,f2,_⟩:=g p.1 c;obtain⟨o,f,d⟩:=h p.1 c;rw[e]at f;cases f;exact⟨e,j,f1,f2,d⟩
theorem cy.unpinned{ba pl:List (Q6×RA)}{σ:St}{H:Hp}{s:Rg}(I:cy X (ba++pl) σ H s):cy X ba σ H s:=I.pins_of λp b=>I.pin p (Sa _ (Uf _ b))
theorem bA{pos:Vy}(L:ZW (RN X.prog X.w) X.A X.env X.xe)(hc:X.calm=Q4)(hi:PI X tg iter wi)(hg:PG X tg g)(j:PSs X body tb)
  (hs:∀x,Su iter X.env x=T0 x:=by intro _;rfl):PS X (.For tg iter body [] pos) (MJ wi g tb):=by
 intro ba s σ H D I h;refine wpAny_For (ee (hi ba s σ H _ I h) λv s1 h1=>ee h1 λitv s2 h2=>?_) hs;obtain⟨it,O,tn,J,H2,e,I2,T,Z,f2,W,⟨m0,w0⟩,P⟩:=h2;subst e
 --what stays Q4 of the iterator's objects through the loop
 have k:∀{B:Hp},(∀b∈O,B b=QY)->∀b∈O,fq X ba B b:=λhn b j=>⟨hn b j,(f2 b j).2⟩;refine codeAny_forLoop_any (λn s'=>∃i l B,cy X ba l B s'/\tn i s'.heap/\(∀b∈O,B b=QY)/\W i n l B) ?_ m0 ⟨0,σ,H2,I2,Z,λb j=>(f2 b j).1,w0⟩;rintro n s3 ⟨i,p,Y,I3,Q,R,w3⟩;rcases P i n p Y w3 with⟨stop,qn⟩|⟨go,N,hN,step⟩
 .refine UI L (ee (T.done X rfl rfl rfl hc i ba s3 p Y X.xe I3 (k R) Q stop) λr s4 ⟨hr,I4⟩=>?_)
  subst hr;exact W9 ⟨p,Y,I4,qn⟩
 .refine UI L (ee (T.item X rfl rfl rfl hc i ba s3 p Y X.xe I3 (k R) Q go) λr s4 ⟨u,hr,h4⟩=>?_)
  subst hr;refine UI L (ee h4 λ_ s5 ⟨x,H5,I5,r5,y5,F,fr5⟩=>?_);have I5':=I5.pinned (k fr5) (T.obj _ _ F);refine UI L (ee (hg _ s5 p H5 x u _ I5' r5 (step x H5 y5)) λ_ s6 ⟨σ6,H6,I6,q6⟩=>?_);refine UI L (ee (j _ s6 σ6 H6 _ I6 q6) λf s7 C=>?_);have Yz:∀{c:St} {q:Hp},cy X (ba++my O s5.heap) c q s7->N c q->∃m,m<n/\∃i l B,cy X ba l B s7/\tn i s7.heap/\(∀b∈O,B b=QY)/\W i m l B:=λ{c q} y U=>by
   obtain⟨m',hm,w7⟩:=hN c q U;refine⟨m',hm,i+1,c,q,y.unpinned,T.keep _ _ _ F λb j o e=>(y.pin (b,o) (Sa _ (Sa _ (iA j e)))).1,λb j=>?_,w7⟩;obtain⟨o,e,d⟩:=T.obj _ _ F b j;exact(y.pin (b,o) (Sa _ (Sa _ (iA j e)))).2.1
  cases f with
  |next=>obtain⟨c,q,y,U⟩:=C;exact Yz y U
  |cont=>obtain⟨c,q,y,U⟩:=C;exact Yz y U
  |brk=>obtain⟨c,q,y,C⟩:=C;exact⟨c,q,y.unpinned,C⟩
  |ret v=>obtain⟨x7,c,q,y,r7,C⟩:=C;exact⟨x7,c,q,y.unpinned,r7,C⟩
abbrev R2:=V->V->Hp->VK->Prop
def fx(X:Cx)(f:Ra->Ra->Sem Ra)(r:R2):Prop:=
 ∀(ba:List (Q6×RA)) (s:Rg) (σ:St) (H:Hp) (x y:V) (v u:Ra) (Q:VK),cy X ba σ H s->aT x v->aT y u->r x y H Q->
  Rt (RN X.prog X.w) X.A (f v u) (EP X ba σ Q) X.xe s
def UnR(X:Cx)(f:Ra->Sem Ra)(r:V->Hp->VK->Prop):Prop:=
 ∀(ba:List (Q6×RA)) (s:Rg) (σ:St) (H:Hp) (x:V) (v:Ra) (Q:VK),cy X ba σ H s->aT x v->r x H Q->
  Rt (RN X.prog X.w) X.A (f v) (EP X ba σ Q) X.xe s
def dJ(X:Cx)(f:Ra)(r:List V->Hp->VK->Prop):Prop:=
 ∀(ba:List (Q6×RA)) (s:Rg) (σ:St) (H:Hp) (xs:List V) (us:List Ra) (Q:VK),cy X ba σ H s->au xs us->r xs H Q->
  Rt (RN X.prog X.w) X.A (XN f us) (EP X ba σ Q) X.xe s
def TruR(X:Cx)(r:V->Hp->(Bool->Hp->Prop)->Prop):Prop:=
 ∀(ba:List (Q6×RA)) (s:Rg) (σ:St) (H:Hp) (x:V) (v:Ra) (Q:Bool->Hp->Prop),cy X ba σ H s->aT x v->r x H Q->
  Rt (RN X.prog X.w) X.A (truthy v) (TP X ba σ Q) X.xe s
def Y_(r:R2)(b c:TE):TE:=λσ H Q=>b σ H λx d=>c σ d λy f=>r x y f Q
def tUn(r:V->Hp->VK->Prop)(b:TE):TE:=λσ H Q=>b σ H λx c=>r x c Q
def rI(C:Int->Int->Prop)(g:Int->Int->V):R2:=λx y H Q=>∃i j,x= .int i/\y= .int j/\C i j/\Q (g i j) H
def q_(g:Int->Int->V):R2:=λx y H Q=>∃i j,x= .int i/\y= .int j/\Q (g i j) H
def rU(g:Int->V):V->Hp->VK->Prop:=λx H Q=>∃i,x= .int i/\Q (g i) H
end
section
variable{X:Cx}{a b c:Expr}{ta tb tc:TE}{pos:Vy}
theorem GJ(ha:PE X a ta)(m:PE X b tb){d:List (Q6×RA)}{s:Rg}{e:St}{H:Hp}{R:V->V->Hp->Prop}(I:cy X d e H s)
  (h:ta e H λx l=>tb e l λy g=>R x y g) {Q:Ra->Rg->Prop} {f:Ra->Ra->Sem Ra}
  (n:∀v u k x y g,cy X d e g k->aT x v->aT y u->R x y g->Rt (RN X.prog X.w) X.A (f v u) Q X.xe k):
  Rt (RN X.prog X.w) X.A (Sw a X.env) (λv i=>Rt (RN X.prog X.w) X.A (Sw b X.env) (λu j=>Rt (RN X.prog X.w) X.A (f v u) Q X.xe j) X.xe i) X.xe s:=by
 refine ee (ha d s e H _ I h) λv o ⟨x,l,p,r1,q1⟩=>?_;refine ee (m d o e l _ p q1) λu k ⟨y,g,q,r,q2⟩=>?_;exact n v u k x y g q r1 r q2
theorem dZ(e:fx X (Uk op) r)(ha:PE X a ta)(f:PE X b tb):PE X (.BinOp a op b pos) (Y_ r ta tb):=by
 intro d s g H Q I h;exact wpAny_BinOp (GJ ha f I h λv u i x y j k l m q=>e d i g j x y v u Q k l m q)
theorem P8(f:UnR X (unaryOp op) r)(ha:PE X a ta):PE X (.UnaryOp op a pos) (tUn r ta):=by
 intro d s e H Q I h;exact UnaryOp_ (ee (ha d s e H _ I h) λv g ⟨x,i,j,r1,q1⟩=>f d g e i x v Q j r1 q1)
theorem nj{f:Ra->Ra->Sem Ra}{C:Int->Int->Prop}{g:Int->Int->Int}
  (d:∀(i j:Int) (t u:Tok) (s:Rg) (Q:Ra->Rg->Prop) (E:Ra->Rg->Prop),C i j->Q (.int (g i j) s.toks) {s with toks:=s.toks+1}->Rt (RN X.prog X.w) X.A (f (.int i t) (.int j u)) Q E s):
  fx X f (rI C λi j=> .int (g i j)):=by
 intro e s n H x y v u Q I k l h;obtain⟨i,j,rfl,rfl,m,q⟩:=h;obtain⟨t,rfl⟩:=k;obtain⟨t',rfl⟩:=l;exact d i j t t' s _ _ m ⟨.int (g i j),H,I.tok _,⟨_,rfl⟩,q⟩
theorem Nz{f:Ra->Ra->Sem Ra}{g:Int->Int->Int}
  (d:∀(i j:Int) (t u:Tok) (s:Rg) (Q:Ra->Rg->Prop) (E:Ra->Rg->Prop),Q (.int (g i j) s.toks) {s with toks:=s.toks+1}->Rt (RN X.prog X.w) X.A (f (.int i t) (.int j u)) Q E s):
  fx X f (q_ λi j=> .int (g i j)):=by
 intro e s m H x y v u Q I k l h;obtain⟨i,j,rfl,rfl,q⟩:=h;obtain⟨t,rfl⟩:=k;obtain⟨t',rfl⟩:=l;exact d i j t t' s _ _ ⟨.int (g i j),H,I.tok _,⟨_,rfl⟩,q⟩
theorem ym{f:Ra->Ra->Sem Ra}{g:Int->Int->Bool}
  (d:∀(i j:Int) (t u:Tok) (s:Rg) (Q:Ra->Rg->Prop) (E:Ra->Rg->Prop),Q (.bool (g i j)) s->Rt (RN X.prog X.w) X.A (f (.int i t) (.int j u)) Q E s):
  fx X f (q_ λi j=> .bl (g i j)):=by
 intro e s m H x y v u Q I k l h;obtain⟨i,j,rfl,rfl,q⟩:=h;obtain⟨t,rfl⟩:=k;obtain⟨t',rfl⟩:=l;exact d i j t t' s _ _ ⟨.bl (g i j),H,I,rfl,q⟩
def CDiv(i j:Int):Prop:=0<j/\j<1073741824
def CPow(i j:Int):Prop:=0<=j/\j<=1000000/\i.natAbs<2^64
def IZ(i j:Int):Prop:=(-(2^64)<i/\i<2^64)\/(-(2^64)<j/\j<2^64)
theorem IZ.ok(h:IZ i j):IntMulOk i j:=by
 rcases h with⟨d,e⟩|⟨d,e⟩
 .exact .of_left (intBits_le_64 d e)
 .exact .of_right (intBits_le_64 d e)
theorem qf:fx X (Uk .Add) (q_ λi j=> .int (i+j)):=Nz λ_ _ _ _ _ _ _ q=>add_int q
theorem gh:fx X (Uk .Sub) (q_ λi j=> .int (i-j)):=Nz λ_ _ _ _ _ _ _ q=>sub_int q
theorem Nv:fx X (Uk .Mult) (rI IZ λi j=> .int (i*j)):=nj λ_ _ _ _ _ _ _ d q=>mul_int q d.ok
theorem w5:fx X (Uk .FloorDiv) (rI CDiv λi j=> .int (i/j)):=nj λi j _ _ _ _ _ d q=>by
 have e:(0:Int)<j:=d.1;have f:j<1073741824:=d.2;exact floordiv_int (by omega) (by rw[Yo i (by omega)];exact q) (.inl (PyProof.noPylong_small (by omega)))
theorem ku:fx X (Uk .Mod) (rI (λ_ j=>0<j) λi j=> .int (i % j)):=nj λi j _ _ _ _ _ d q=>by
 have e:(0:Int)<j:=d;exact mod_int' (by omega) (by rw[Int.fmod_eq_emod_of_nonneg i (by omega)];exact q)
theorem Nr:fx X (Uk .Pow) (rI CPow λi j=> .int (i^j.toNat)):=nj λ_ _ _ _ _ _ _ d q=>pow_int_small d.1 d.2.1 d.2.2 q
theorem unI{f:Ra->Sem Ra}{g:Int->Int}
  (d:∀(i:Int) (t:Tok) (s:Rg) (Q:Ra->Rg->Prop) (E:Ra->Rg->Prop),Q (.int (g i) s.toks) {s with toks:=s.toks+1}->Rt (RN X.prog X.w) X.A (f (.int i t)) Q E s):
  UnR X f (rU λi=> .int (g i)):=by
 intro e s k H x v Q I j h;obtain⟨i,rfl,q⟩:=h;obtain⟨t,rfl⟩:=j;exact d i t s _ _ ⟨.int (g i),H,I.tok _,⟨_,rfl⟩,q⟩
theorem Mx:UnR X (unaryOp .USub) (rU λi=> .int (-i)):=unI λ_ _ _ _ _ q=>neg_int q
noncomputable def DS:V->V->Bool
 | .non,.non=>Q4| .non,.int _=>Q4| .int _,.non=>Q4| .non,.bl _=>Q4| .bl _,.non=>Q4| .non,.str _=>Q4| .str _,.non=>Q4
 | .int _,.int _=>Q4| .bl _,.bl _=>Q4| .str _,.str _=>Q4
 | .int _,.str _=>Q4| .str _,.int _=>Q4| .bl _,.str _=>Q4| .str _,.bl _=>Q4
 |_,_=>Q9
noncomputable def rEq:R2:=λx y H Q=>DS x y=Q4/\Q (.bl (decide (x=y))) H
noncomputable def rNe:R2:=λx y H Q=>DS x y=Q4/\Q (.bl (!decide (x=y))) H
theorem xz:decide (V.int i=V.int j)=(i==j):=by
 rw[WM];simp
theorem B4{i j:Bool}:decide (V.bl i=V.bl j)=(i==j):=by
 rw[WM];simp
theorem xy:decide (V.str i=V.str j)=(i==j):=by
 rw[WM];simp
theorem dt{k d:Bool}(I:cy X ba σ H s)(q:Q (.bl k) H)(e:k=d):EP X ba σ Q (.bool d) s:=by
 subst e;exact⟨.bl k,H,I,rfl,q⟩
theorem Qa:fx X (SH .Eq) rEq:=by
 intro f s g H x y v u Q I e d h;obtain⟨hs,q⟩:=h;cases x with
 |non=>
  cases e;cases y with
  |non=>cases d;exact PySem.EqNone.eq_none_none (dt I q (by simp))
  |bl j=>cases d;exact PySem.EqNone.eq_none_bool (dt I q (by simp))
  |int j=>obtain⟨t',rfl⟩:=d;exact PySem.EqNone.eq_none_int (dt I q (by simp))
  |str j=>obtain⟨t',rfl⟩:=d;exact PySem.EqNone.eq_none_str (dt I q (by simp))
  |_=>exact RJ (show Q9=Q4 from hs) Ri
 |bl i=>
  cases e;cases y with
  |non=>cases d;exact PySem.EqNone.eq_bool_none (dt I q (by simp))
  |bl j=>cases d;exact eq_bool (dt I q B4)
  |str j=>obtain⟨t',rfl⟩:=d;exact PySem.EqMixed.eq_bool_str (dt I q (by simp))
  |_=>exact RJ (show Q9=Q4 from hs) Ri
 |int i=>
  obtain⟨t,rfl⟩:=e;cases y with
  |non=>cases d;exact PySem.EqNone.eq_int_none (dt I q (by simp))
  |int j=>obtain⟨t',rfl⟩:=d;exact eq_int (dt I q xz)
  |str j=>obtain⟨t',rfl⟩:=d;exact PySem.EqMixed.eq_int_str (dt I q (by simp))
  |_=>exact RJ (show Q9=Q4 from hs) Ri
 |str i=>
  obtain⟨t,rfl⟩:=e;cases y with
  |non=>cases d;exact PySem.EqNone.eq_str_none (dt I q (by simp))
  |bl j=>cases d;exact PySem.EqMixed.eq_str_bool (dt I q (by simp))
  |int j=>obtain⟨t',rfl⟩:=d;exact PySem.EqMixed.eq_str_int (dt I q (by simp))
  |str j=>obtain⟨t',rfl⟩:=d;exact eq_str (dt I q xy)
  |_=>exact RJ (show Q9=Q4 from hs) Ri
 |_=>cases y<;>exact RJ (show Q9=Q4 from hs) Ri
theorem P9:fx X (SH .NotEq) rNe:=by
 intro f s g H x y v u Q I e d h;obtain⟨hs,q⟩:=h;cases x with
 |non=>
  cases e;cases y with
  |non=>cases d;exact PySem.EqNone.ne_none_none (dt I q (by simp))
  |bl j=>cases d;exact PySem.EqNone.ne_none_bool (dt I q (by simp))
  |int j=>obtain⟨t',rfl⟩:=d;exact PySem.EqNone.ne_none_int (dt I q (by simp))
  |str j=>obtain⟨t',rfl⟩:=d;exact PySem.EqNone.ne_none_str (dt I q (by simp))
  |_=>exact RJ (show Q9=Q4 from hs) Ri
 |bl i=>
  cases e;cases y with
  |non=>cases d;exact PySem.EqNone.ne_bool_none (dt I q (by simp))
  |bl j=>cases d;exact ne_bool (dt I q (R9 not B4))
  |str j=>obtain⟨t',rfl⟩:=d;exact PySem.EqMixed.ne_bool_str (dt I q (by simp))
  |_=>exact RJ (show Q9=Q4 from hs) Ri
 |int i=>
  obtain⟨t,rfl⟩:=e;cases y with
  |non=>cases d;exact PySem.EqNone.ne_int_none (dt I q (by simp))
  |int j=>obtain⟨t',rfl⟩:=d;exact ne_int (dt I q (R9 not xz))
  |str j=>obtain⟨t',rfl⟩:=d;exact PySem.EqMixed.ne_int_str (dt I q (by simp))
  |_=>exact RJ (show Q9=Q4 from hs) Ri
 |str i=>
  obtain⟨t,rfl⟩:=e;cases y with
  |non=>cases d;exact PySem.EqNone.ne_str_none (dt I q (by simp))
  |bl j=>cases d;exact PySem.EqMixed.ne_str_bool (dt I q (by simp))
  |int j=>obtain⟨t',rfl⟩:=d;exact PySem.EqMixed.ne_str_int (dt I q (by simp))
  |str j=>obtain⟨t',rfl⟩:=d;exact ne_str (dt I q (R9 not xy))
  |_=>exact RJ (show Q9=Q4 from hs) Ri
 |_=>cases y<;>exact RJ (show Q9=Q4 from hs) Ri
theorem kY:fx X (SH .Lt) (q_ λi j=> .bl (decide (i<j))):=ym λ_ _ _ _ _ _ _ q=>lt_int q
theorem e8:fx X (SH .LtE) (q_ λi j=> .bl (decide (i<=j))):=ym λ_ _ _ _ _ _ _ q=>le_int q
theorem qe:fx X (SH .Gt) (q_ λi j=> .bl (decide (j<i))):=ym λ_ _ _ _ _ _ _ q=>gt_int q
theorem JW:fx X (SH .GtE) (q_ λi j=> .bl (decide (j<=i))):=ym λ_ _ _ _ _ _ _ q=>ge_int q
theorem Nw:fx X (SH .Is) (λx y H Q=>y= .non/\Q (.bl (decide (x= .non))) H):=by
 intro d s g H x y v u Q I e f h;obtain⟨rfl,q⟩:=h;cases f;refine is_none_gen (dt I q ?_);cases x<;>first
  |(cases e;rfl)
  |(obtain⟨t,rfl⟩:=e;rfl)
theorem fx.or(h:fx X f r)(h':fx X f r'):fx X f (λx y H Q=>r x y H Q\/r' x y H Q):=by
 intro d s e H x y v u Q I g i q;rcases q with q|q
 .exact h d s e H x y v u Q I g i q
 .exact h' d s e H x y v u Q I g i q
theorem uX(b:Expr)(h:op≠ .In:=by decide)(d:op≠ .NotIn:=by decide):VS op b=Q9:=by
 have e:(op==CmpOp.In)=Q9:=by cases op<;>first|rfl|exact RJ rfl h
 have f:(op==CmpOp.NotIn)=Q9:=by cases op<;>first|rfl|exact RJ rfl d
 cases b<;>simp[VS,e,f]
theorem LA(e:fx X (SH op) r)(ha:PE X a ta)(f:PE X b tb)(hm:VS op b=Q9):PE X (.Compare a [op] [b] pos) (Y_ r ta tb):=by
 intro d s g H Q I h;exact wpAny_Compare1 (GJ ha f I h λv u i x y j k l m q=>e d i g j x y v u Q k l m q) hm
def xV(t:TE):TT:=λd H Q=>t d H λx e=>∃k,x= .bl k/\Q k e
theorem wS(g:fx X (SH op) r)(ha:PE X a ta)(i:PE X b tb)(hm:VS op b=Q9):PT X (.Compare a [op] [b] pos) (xV (Y_ r ta tb)):=by
 intro d s f H Q I h;refine wpAny_isTrue_Compare1 (ee (ha d s f H _ I h) λv j ⟨x,l,m,r1,q1⟩=>ee (i d j f l _ m q1) λu n ⟨y,o,p,q,q2⟩=>
  ee (g d n f o x y v u _ p r1 q q2) λc B ⟨z,t,w,A,k,e,q3⟩=>?_) hm
 subst e;cases A;exact SL ⟨t,w,q3⟩
def zA(r f:R2)(ta tb tc:TE):TE:=λd H Q=>ta d H λx g=>tb d g λy h=>r x y h λz e=>∃k,z= .bl k/\
 (if k=Q4 then tc d e λi j=>f y i j Q else Q (.bl Q9) e)
theorem DY(n:fx X (SH op) r)(i:fx X (SH op') r')(ha:PE X a ta)(o:PE X b tb)(p:PE X c tc)
  (hm:Z6 [op,op'] [b,c]=Q9:=by with_unfolding_all rfl):PT X (.Compare a [op,op'] [b,c] pos) (xV (zA r r' ta tb tc)):=by
 intro f s g H Q I h;refine isTrue_chain (ee (ha f s g H _ I h) λv q ⟨x,t,w,r1,q1⟩=>test_link (ee (o f q g t _ w q1) λu A ⟨y,B,C,j,q2⟩=>
  ee (n f A g B x y v u _ C r1 j q2) λd F ⟨z,l,m,J,k,e,q3⟩=>?_)) hm
 subst e;cases J;refine SL ?_;cases k with
 |false=>
  obtain⟨k',L,N⟩:=q3;cases L;exact ite_ff ⟨l,m,N⟩
 |true=>
  refine ite_tt (test_last (ee (p f F g l _ m q3) λO P ⟨R,T,U,W,q4⟩=>ee (i f P g T y R u O _ U j W q4) λd' s5 ⟨z2,Y,Z,r5,k2,e2,q5⟩=>?_));subst e2;cases r5;exact SL ⟨Y,Z,q5⟩
def IW(K:RB)(x:V)(H:Hp)(k:Bool):Prop:=
 match x with
 | .non=>k=Q9
 | .bl b=>k=b
 | .int i=>k=(i !=0)
 | .str y=>y.length<=RF/\k=((y.length:Int) !=0)
 | .ref p=>(∃xs,e_ K H p xs/\k=!xs.isEmpty)\/∃xs,il K H p xs/\k=!xs.isEmpty
 |_=>False
theorem qw(r:au xs its):(!its.toArray.isEmpty)=!xs.isEmpty:=by
 cases r<;>simp
theorem kz:(RF:Nat)<2^63:=by rw[TM];decide
theorem MA:TruR X (λx H Q=>∃k,IW X.K x H k/\Q k H):=by
 intro l s n H x v Q I f h;obtain⟨k,e,q⟩:=h;have o:=kz;have hs:RF=16777216:=TM;cases x with
 |non=>
  cases f;have d:k=Q9:=e;subst d;exact truthy_none ⟨H,I,q⟩
 |bl b=>
  cases f;have d:k=b:=e;subst d;exact SL ⟨H,I,q⟩
 |int i=>
  obtain⟨t,rfl⟩:=f;have d:k=(i !=0):=e;subst d;exact PySem.P.truthy_int ⟨H,I,q⟩
 |str y=>
  obtain⟨t,rfl⟩:=f;obtain⟨u,d⟩:y.length<=RF/\k=((y.length:Int) !=0):=e;subst d;exact PySem.P.truthy_str (by omega) ⟨H,I.tok _,q⟩
 |ref p=>
  cases f;have d:(∃xs,e_ X.K H p xs/\k=!xs.isEmpty)\/∃xs,il X.K H p xs/\k=!xs.isEmpty:=e;rcases d with⟨xs,j,d⟩|⟨xs,j,d⟩
  .subst d
   obtain⟨its,r,pl,m⟩:=I.list j;have g:=r.length;exact wpAny_truthy_list pl.isList (by simp only[Rx];omega) ⟨H,I.tok _,by rw[qw r];exact q⟩
  .subst d
   obtain⟨its,r,pl,m⟩:=I.tuple j;have g:=r.length;exact truthy_tuple pl (by simp only[Rx];omega) ⟨H,I.tok _,by rw[qw r];exact q⟩
 |_=>exact(show False from e).elim
theorem DX(ha:PE X a ta)(i:∀d,isTrue a X.env d=(do let v <-d;UF a.pos;U6 [v] (truthy v))):
  PT X a (λf H Q=>ta f H λx g=>∃k,IW X.K x g k/\Q k g):=by
 intro e s f H Q I h;exact isTrue_plain (ee (ha e s f H _ I h) λv j ⟨x,l,m,r1,q1⟩=>MA e j f l x v Q m r1 q1) (i _)
theorem kK(r:au [x] us):∃u,us=[u]/\aT x u:=by
 cases r with
 |cons r1 d=>cases d;exact⟨_,rfl,r1⟩
theorem tK(r:au [x,y] us):∃u d,us=[u,d]/\aT x u/\aT y d:=by
 cases r with
 |cons r1 e=>
  cases e with
  |cons f g=>cases g;exact⟨_,_,rfl,r1,f⟩
theorem GF:dJ X (.builtin "abs") (λxs H Q=>∃i,xs=[.int i]/\Q (.int (if i<0 then -i else i)) H):=by
 intro d s e H xs us Q I r h;obtain⟨i,rfl,q⟩:=h;obtain⟨u,rfl,t,rfl⟩:=kK r;exact call_abs_int λu f=>⟨.int (if i<0 then -i else i),H,I.tok _,⟨_,rfl⟩,q⟩
theorem CH(f:X.calm=Q4):dJ X (.builtin "max") (λxs H Q=>∃i j,xs=[.int i,.int j]/\Q (.int (if j>i then j else i)) H):=by
 intro e s g H xs us Q I r h;obtain⟨i,j,rfl,q⟩:=h;obtain⟨u,l,rfl,⟨t,rfl⟩,⟨t',rfl⟩⟩:=tK r;refine max_two_ints (I.ok.hd f) λh' m k=>⟨_,H,I.kept k,?_,q⟩;by_cases d:j>i
 .rw[Rb d,Rb d];exact⟨_,rfl⟩
 .rw[Q8 d,Q8 d];exact⟨_,rfl⟩
theorem m3(f:X.calm=Q4):dJ X (.builtin "min") (λxs H Q=>∃i j,xs=[.int i,.int j]/\Q (.int (if j<i then j else i)) H):=by
 intro e s g H xs us Q I r h;obtain⟨i,j,rfl,q⟩:=h;obtain⟨u,l,rfl,⟨t,rfl⟩,⟨t',rfl⟩⟩:=tK r;refine min_two_ints (I.ok.hd f) λh' m k=>⟨_,H,I.kept k,?_,q⟩;by_cases d:j<i
 .rw[Rb d,Rb d];exact⟨_,rfl⟩
 .rw[Q8 d,Q8 d];exact⟨_,rfl⟩
structure u0 (h:SE) (x dx C:Q6) (mA:R3->Option Ra):Prop where
 obj:h.get? x=on (Xy C dx)
 ns:h.Ns1 dx mA
 ne:dx≠x
theorem AW{h:SE}(n:h.Ns1 dx mA):∃f,h.get? dx=on f/\∀name,lookIn name f=on (mA name):=by
 obtain⟨o,es,ep,g,hd,i,_,hm⟩:=n;refine⟨o,g,λname=>?_⟩;have e:=hm name;unfold nsFind findBy at e;rw[<-Array.find?_toList]at e;unfold lookIn;rw[hd]
 dsimp only
 split
 .rename_i y q
  rw[q]at e;exact R9 on e
 .rename_i q
  rw[q]at e;have a:es.toList.any (·.refKey)=Q9:=by
   rw[Xu];intro y j;obtain⟨z,t,d⟩:=i y (Array.mem_toList_iff.mp j);simp[DictEntry.refKey,d]
  have k:¬es.toList.any (·.refKey)=Q4:=by rw[a];exact Ri
  rw[Q8 k];exact R9 on e
theorem u0.look(I:u0 h x dx C mA):∃d,PySem.W.InstAt h x (Xy C dx) C (on d)/\∀name,lookIn name d=on (mA name):=
 let ⟨d,ho,hl⟩:=AW I.ns
 ⟨d,⟨I.obj,rfl,rfl,ho⟩,hl⟩
variable{prog:RT}{w:R8}{A:SB}{E:Ra->Rg->Prop}{s:Rg}{K:RB}{x dx C f:Q6}{mA:R3->Option Ra}{name:R3}{v:Ra}
theorem Mc{d:Bool}(X:K.In s.heap)(I:u0 s.heap x dx C mA)(g:plainGet K C name=Q4)(i:hasDictIn K C=Q4)
  (ha:Vc K (.ref C) name=on QY) (j:mA name=on v) (e:ZE v=Q4) (h:Q v {s with toks:=s.toks+1}):
  Rt (RN prog w) A (getAttr (.ref x) name d) Q E s:=by
 obtain⟨l,J,k⟩:=I.look;exact PySem.W.get_value X J (plainGet_of g).1 (PySem.W.findObj_own i ha rfl (by rw[k,j])) e h
theorem FV(X:K.In s.heap)(I:u0 s.heap x dx C mA)(d:plainGet K C name=Q4)
  (e:Vc K (.ref C) name=on (on (.ref f))) (g:isFn K (.ref f)=Q4) (i:mA name=QY) (h:Q (.ref f,[.ref x]) s):
  Rt (RN prog w) A (Wq (.ref x) name pl) Q E s:=by
 obtain⟨j,J,k⟩:=I.look;exact PySem.W.method_fn X J (plainGet_of d).1 (plainGet_of d).2 e (beq_iff_eq.mp g) (by show(lookIn name j).map (·.isSome)=on Q9;rw[k,i];rfl) h
theorem Lc{ns:List R3}(X:K.In s.heap)(I:u0 s.heap x dx C mA)
  (hs:Vc K (.ref C) "__setattr__"=on (on (.builtin "object.__setattr__"))) (l:Zr K C=Q4) (m:takerIn K C name=on QY) (n:hasDictIn K C=Q4)
  (o:Xl mA ns) (p:ns.length<=RF)
  (h:∀h',u0 h' x dx C (λy=>if y=name then on v else mA y)->RQ dx s.heap h'->Q () {s with heap:=h',toks:=s.toks+2}):
  Rt (RN prog w) A (setAttr (.ref x) name v) Q E s:=by
 obtain⟨F,J,H⟩:=I.look;refine PySem.W.set_plain X J hs (PySem.W.osa_open (s:={s with toks:=s.toks+1}) (r:=QY) X J l m λb=>?_);obtain⟨cd,q,g⟩:=PySem.W.any_some n;have t:s.heap.get? x=on ⟨.ref C,on dx,.plain,#[]⟩:=I.obj;refine My (Q0 (My (My (wpAny_loadPart t (My (PySem.W.Looks.here (s:={s with toks:=s.toks+1}) (PySem.W.looks_clsIn X q) ?_))))));rw[g];refine Q0 (a:=on dx) (My (Q0 (My ?_)));refine wpAny_nsSet1 (s:={s with toks:=s.toks+1}) I.ns λh' d e=>?_;obtain⟨L,u,B,i,j,k⟩:=d.count (Xl.cons name v o);refine My (wpAny_lookBehind i (by rw[j];exact pastItsLine_dict (Ru k (by rw[Rl];omega))) ?_);exact Q0 (h _ ⟨(e.2 _ (Ne.symm I.ne)).trans I.obj,d,I.ne⟩ e)
theorem EU(X:K.In s.heap)(hm:ZX K C=Q4)
  (e:Vc K (.ref C) "__init__"=on (on (.ref f))) (i:PySem.W.typeIn K (.ref f)=on (.type "function"))
  (h:Vh (RN prog w) (A.under (.builtin "type.__call__" ⟨.ref C::vs,kw⟩)) (.call (.ref f) ⟨.ref (s.heap.objs.size+1)::vs,kw⟩) (PySem.W.InitBack (s.heap.objs.size+1) R)
   {s with heap:=(s.heap.push VJ).push (Xy C s.heap.objs.size)}):
  Vh (RN prog w) A (.call (.ref C) ⟨vs,kw⟩) R s:=by
 obtain⟨j,g,d,t,os⟩:=s;exact PySem.W.make_core (PySem.W.makes_of X hm) (PySem.W.looks_findIn X e) (λself=>PySem.W.bind_fn X self i) (.inl rfl) h
noncomputable def dN(f:R3)(v:V):List (R3×V)->List (R3×V)
 |[]=>[(f,v)]
 |(g,x)::r=>if g=f then(g,v)::r else(g,x)::dN f v r
theorem oF(f g:R3)(v:V):∀fs:List (R3×V),(dN f v fs).lookup g=if g=f then on v else fs.lookup g
 |[]=>by
  show Vx g [(f,v)]=_;by_cases h:g=f
  .have d:(g==f)=Q4:=beq_iff_eq.mpr h
   simp only[Vx,d,Rb h]
  .have d:(g==f)=Q9:=beq_eq_false_iff_ne.mpr h
   simp only[Vx,d,Q8 h]
 |(k,x)::r=>by
  have ih:=oF f g v r;rw[show dN f v ((k,x)::r)=(if k=f then(k,v)::r else(k,x)::dN f v r)from rfl];by_cases i:k=f
  .rw[Rb i]
   by_cases h:g=k
   .have d:(g==k)=Q4:=beq_iff_eq.mpr h
    simp only[Vx,d,Rb (h.trans i)]
   .have d:(g==k)=Q9:=beq_eq_false_iff_ne.mpr h
    simp only[Vx,d,Q8 (λe:g=f=>h (e.trans i.symm))]
  .rw[Q8 i]
   by_cases h:g=k
   .have d:(g==k)=Q4:=beq_iff_eq.mpr h
    simp only[Vx,d,Q8 (λe:g=f=>i (h.symm.trans e))]
   .have d:(g==k)=Q9:=beq_eq_false_iff_ne.mpr h
    simp only[Vx,d];exact ih
theorem mK(f:R3)(v:V):∀fs:List (R3×V),f∈(dN f v fs).map (·.1)/\∀g,g∈fs.map (·.1)->g∈(dN f v fs).map (·.1)
 |[]=>⟨by simp[dN],λg h=>by simp at h⟩
 |(k,x)::r=>by
  obtain⟨i,j⟩:=mK f v r;rw[show dN f v ((k,x)::r)=(if k=f then(k,v)::r else(k,x)::dN f v r)from rfl];by_cases d:k=f
  .rw[Rb d]
   subst d;exact⟨by simp,λg h=>by simpa using h⟩
  .rw[Q8 d]
   refine⟨?_,λg h=>?_⟩
   .rw[Rk]
    exact Q1 _ i
   .rw[Rk]at h⊢
    rcases Rq.mp h with e|e
    .exact Rq.mpr (.inl e)
    .exact Q1 _ (j g e)
theorem oG(f:R3)(v:V):∀fs:List (R3×V),(dN f v fs).length<=fs.length+1
 |[]=>by simp[dN]
 |(k,x)::r=>by
  have ih:=oG f v r;rw[show dN f v ((k,x)::r)=(if k=f then(k,v)::r else(k,x)::dN f v r)from rfl];by_cases d:k=f
  .rw[Rb d,Rl,Rl];omega
  .rw[Q8 d,Rl,Rl];omega
theorem ij.some_of{v:V}(r:ij (on v) o):∃u,o=on u/\aT v u:=by
 cases o with
 |none=>exact(show False from r).elim
 |some u=>exact⟨u,rfl,r⟩
theorem ij.none_of(r:ij QY o):o=QY:=by
 cases o with
 |none=>rfl
 |some u=>exact(show False from r).elim
theorem BQ{v:V}(r:aT v u):ZE u=Q4:=by
 cases v with
 |non=>cases(show u=Sv from r);rfl
 |bl b=>cases(show u=X6 b from r);rfl
 |int i=>obtain⟨t,e⟩:=(show ∃t,u=U8 i t from r);cases e;rfl
 |str x=>obtain⟨t,e⟩:=(show ∃t,u=Value.str x t from r);cases e;rfl
 |ref a=>cases(show u=RI a from r);rfl
 |ty n=>cases(show u=U4 n from r);rfl
end
section
variable{P:RT}{w:R8}{H H':Hp}{h h':SE}{a C dx:Q6}{fs fs':List (R3×V)}
theorem rG(hok:lb P w H h)(e:H a=on (.ins C dx fs)):∃b,u0 h a dx C b/\(∀f,ij (fs.lookup f) (b f))/\Xl b (fs.map (·.1))/\fs.length<=1000/\H dx=on (.own a):=by
 obtain⟨d,z,ne,c,b,n,r,q⟩:=(show cL P w H h a (.ins C dx fs)from hok a _ e);exact⟨b,⟨c,n,ne⟩,r,q,z,d⟩
structure pa (K:RB) (C:Q6):Prop where
 pg:plainGet K C US=Q4
 hd:hasDictIn K C=Q4
 po:Zr K C=Q4
 sa:Vc K (.ref C) "__setattr__"=on (on (.builtin "object.__setattr__"))
theorem pa.get{K:RB}{C:Q6}(c:pa K C)(f:R3):plainGet K C f=Q4:=c.pg
def dU(K:RB)(C:Q6)(f:R3):Prop:=Vc K (.ref C) f=on QY
theorem dU.taker{K:RB}{C:Q6}(n:dU K C f):takerIn K C f=on QY:=by
 unfold takerIn;rw[show Vc K (.ref C) f=on QY from n];rfl
structure i_ (K:RB) (C:Q6) (m:R3) (f:Q6):Prop where
 at_:Vc K (.ref C) m=on (on (.ref f))
 fn:isFn K (.ref f)=Q4
 kp:WS K (.ref f)=Q4
variable{X:Cx}{ba:List (Q6×RA)}{σ:St}{s:Rg}{f:R3}{v:V}{A:SB}{E:Ra->Rg->Prop}
theorem yI{b:Bool}(I:cy X ba σ H s)(e:H a=on (.ins C dx fs))(c:pa X.K C)(n:dU X.K C f)(l:fs.lookup f=on v)
  (h:∀u s',cy X ba σ H s'->aT v u->Q u s'):Rt (RN X.prog X.w) A (getAttr (.ref a) f b) Q E s:=by
 obtain⟨g,O,r,_,_,_⟩:=rG I.hok e;obtain⟨u,i,d⟩:=ij.some_of (v:=v) (o:=g f) (by rw[<-l];exact r f);exact Mc I.kIn O (c.get f) c.hd n i (BQ d) (h u _ (I.tok _) d)
theorem lh(I:cy X ba σ H s)(e:H a=on (.ins C dx fs))(c:pa X.K C)(k:i_ X.K C m g)(l:fs.lookup m=QY)
  (h:Q (.ref g,[.ref a]) s):Rt (RN X.prog X.w) A (Wq (.ref a) m pl) Q E s:=by
 obtain⟨b,O,r,_,_,_⟩:=rG I.hok e;have hn:b m=QY:=ij.none_of (by rw[<-l];exact r m);exact FV I.kIn O (c.get m) k.at_ k.fn hn h
theorem ya(I:cy X ba σ H s)(e:H a=on (.ins C dx fs))(c:pa X.K C)(n:dU X.K C f)(F:fs.length<1000)(l:aT y u)
  (h:∀s',cy X ba σ (upd H a (.ins C dx (dN f y fs))) s'->Q () s'):Rt (RN X.prog X.w) A (setAttr (.ref a) f u) Q E s:=by
 obtain⟨i,O,r,j,_,k⟩:=rG I.hok e;have m:(fs.map (·.1)).length<=RF:=by rw[QX,TM];omega
 refine Lc I.kIn O c.sa c.po n.taker c.hd j m λh' d p=>h _ ?_;have hd:∃o,h'.get? dx=on o:=let ⟨o,_,_,e',_⟩:=d.ns;⟨o,e'⟩
 refine I.write (x:=a) (e:=dx) (by rw[e];exact True.intro) (.inr k) (λb q t z=>(p.2 b t).trans z) hd ?_;refine⟨by rw[b_ O.ne];exact k,?_,O.ne,d.obj,_,d.ns,λg=>?_,λg B=>?_⟩
 .have:=oG f y fs;omega
 .show ij ((dN f y fs).lookup g) (if g=f then on u else i g)
  rw[oF];by_cases q:g=f
  .rw[Rb q,Rb q];exact l
  .rw[Q8 q,Q8 q];exact r g
 .by_cases q:g=f
  .rw[q];exact(mK f y fs).1
  .refine(mK f y fs).2 g (j g λz=>B ?_)
   show(if g=f then on u else i g)=QY;rw[Q8 q];exact z
theorem cy.made(I:cy X ba σ H s):cy X ba σ (upd (upd H s.heap.objs.size (.own (s.heap.objs.size+1))) (s.heap.objs.size+1) (.ins C s.heap.objs.size []))
  {s with heap:=(s.heap.push VJ).push (Xy C s.heap.objs.size)}:=by
 have c:(s.heap.push VJ).get? s.heap.objs.size=on VJ:=Rw s.heap rfl;have d:((s.heap.push VJ).push (Xy C s.heap.objs.size)).get? (s.heap.objs.size+1)=on (Xy C s.heap.objs.size):=by
  have:=Rw (s.heap.push VJ) (o:=Xy C s.heap.objs.size) rfl;rwa[S3]at this
 have g:(s.heap.push VJ).Ns s.heap.objs.size (λ_=>QY):=⟨VJ,#[],_,c,rfl,(λe i=>RJ i (by simp)),λ_=>rfl⟩;have j:=I.laid (a:=s.heap.objs.size) (o:= .own (s.heap.objs.size+1)) (h':=s.heap.push VJ) (t':=s.toks) (λb u q=>Q3 _ q) (Rf _) ⟨_,c⟩;refine j.laid (a:=s.heap.objs.size+1) (o:= .ins C s.heap.objs.size []) (t':=s.toks) (λb u q=>Q3 _ q) (Nat.le_of_eq (S3 _ _)) ?_;have ne:s.heap.objs.size≠s.heap.objs.size+1:=Sg (WF _);refine⟨by rw[b_ ne,aq],Ss _,ne,d,λ_=>QY,(Heap.Ns1.of_empty g).at λo q=>Q3 _ q,λ_=>True.intro,λy k=>RJ rfl k⟩
theorem Mq{w:R8}{f:R3}{s:Rg}(c:Ve e f env (Sw e env)=Sw e env)
  (h:Rt (RN prog w) A (Sw e env) (λo b=>Rt (RN prog w) A (getAttr o f Q4) Q E b) E s):Rt (RN prog w) A (Sw (.Attribute e f pos) env) Q E s:=
 Attribute_any_ h (by rw[arm_eval_Attribute,c])
def tFld(K:RB)(c:TE)(f:R3):TE:=λσ H Q=>c σ H λx b=>∃a C dx fs v,x= .ref a/\b a=on (.ins C dx fs)/\pa K C/\dU K C f/\fs.lookup f=on v/\Q v b
def MZ(K:RB)(c d:TE)(f:R3):TS:=λD σ H=>d σ H λy e=>c σ e λx b=>∃a C dx fs,x= .ref a/\b a=on (.ins C dx fs)/\pa K C/\dU K C f/\fs.length<1000/\
 D.nx σ (upd b a (.ins C dx (dN f y fs)))
variable{o e value:Expr}{pos pos' tpos:Vy}{ta tv:TE}
theorem No(b:PE X e ta)(d:Ve e f X.env (Sw e X.env)=Sw e X.env):PE X (.Attribute e f pos) (tFld X.K ta f):=by
 intro ba s σ H Q I h;refine Mq d (ee (b ba s σ H _ I h) λu r ⟨x,g,i,j,a,C,dx,fs,v,ex,k,c,n,l,q⟩=>?_);subst ex;obtain rfl:u=RI a:=j;exact yI i k c n l λt y m p=>⟨v,g,m,p,q⟩
theorem mx(ha:PE X o ta)(b:PE X value tv)(hs:VM value (on (.Attribute o f pos')) pos.line X.env=T0 Q9):PS X (.Assign [.Attribute o f pos'] value pos) (MZ X.K ta tv f):=by
 intro ba s σ H D I h;refine plainObj_wpAny_Assign_Attribute (ee (b ba s σ H _ I h) λu d ⟨y,g,i,j,q⟩=>ee (ha ba d σ g _ i q) λk B ⟨x,F,m,p,a,C,dx,fs,ex,r,c,n,l,q2⟩=>?_) hs;subst ex;obtain rfl:k=RI a:=p;exact ya m r c n l j λJ t=>⟨σ,_,t,q2⟩
variable{Q:Ra->Rg->Prop}{c:Ra}{b:Bool}
inductive r4 (K:RB) (H:Hp):V->Ra->Prop where
 |non:r4 K H .non (.type "NoneType")
 |bl (x:Bool):r4 K H (.bl x) (.type "bool")
 |int (i:Int):r4 K H (.int i) (.type "int")
 |str (x:R3):r4 K H (.str x) (.type "str")
 |lst {a:Q6} {xs:List V} (e:H a=on (.lst xs)):r4 K H (.ref a) (.type "list")
 |frz {a:Q6} {o:RA} {xs:List V} (e:H a=on (.frz o (.lst xs))):r4 K H (.ref a) (.type "list")
 |tup {a:Q6} {xs:List V} (e:H a=on (.tup xs)):r4 K H (.ref a) (.type "tuple")
 |ins {a C dx:Q6} {fs:List (R3×V)} (e:H a=on (.ins C dx fs)) (cl:pa K C) (ha:Vc K (.ref C) "__class__"=on (on (.builtin "object.__class__")))
  (hn:specialIn K (.builtin "object.__class__") "__get__"=on (on (.builtin "getset_descriptor.__get__"))) (htk:ZY K (.builtin "object.__class__")=on Q4)
  (hm:PySem.W.mroIn K C (.type "object")=on Q4):r4 K H (.ref a) (.ref C)
structure ef (k:Nat) (A:SB):Prop where
 hd:A.handled=QY
 dp:A.depth+3*k+5<recursionLimit
 un:A.units+16*k+200<Wu
 gd:A.guards=on []
theorem ef.mono{A:SB}(r:ef k A)(h:j<=k):ef j A:=⟨r.hd,by have:=r.dp;omega,by have:=r.un;omega,r.gd⟩
theorem ef.deeper{A:SB}(r:ef (k+1) A)(env:Yi):ef k (A.deeper env):=
 ⟨r.hd,by have:=r.dp;show A.depth+1+3*k+5<_;omega,by have:=r.un;show A.units+3+16*k+200<_;omega,r.gd⟩
theorem yv{A:SB}{C:Q6}:(A.under (.builtin "type.__call__" ⟨.ref C::us,kw⟩)).depth=A.depth+1:=by
 first|rfl|simp[Xh,Code.weight,Code.isCreation,Code.isGuard,Code.isCaller,Code.frames,YN,guardIds]
theorem yu{A:SB}{C:Q6}:(A.under (.builtin "type.__call__" ⟨.ref C::us,kw⟩)).units=A.units+1:=by
 first|rfl|simp[Xh,Code.cUnits,Code.frames,YN]
theorem ef.make{A:SB}(r:ef (k+1) A)(C:Q6)(us:List Ra)(d:List (R3×Ra)):ef k (A.under (.builtin "type.__call__" ⟨.ref C::us,d⟩)):=
 ⟨r.hd,by have:=r.dp;rw[yv];omega,by have:=r.un;rw[yu];omega,by first|exact r.gd|simp[Xh,Code.guards,Code.isGuard,guardIds,pushGuards,r.gd]⟩
theorem ef.depth{A:SB}(r:ef k A):A.depth<recursionLimit:=by have:=r.dp;omega
theorem ef.units{A:SB}(r:ef k A):A.units+64<Wu:=by have:=r.un;omega
noncomputable def DL:TA:=λ_ H Q=>Q [] H
def JL(ta:TE)(tr:TA):TA:=λσ H Q=>ta σ H λx d=>tr σ d λxs g=>Q (x::xs) g
variable{es:List Expr}{te:TE}{t:TA}
theorem i8:PA X [] DL:=λ_ _ _ _ H Q I h=>ZO ⟨[],H,I,.nil,h⟩
theorem eZ(ha:PE X e te)(d:PA X es t)(hs:Rm (e::es) X.env=(Q9,Sw e X.env)::Rm es X.env:=by rfl):PA X (e::es) (JL te t):=by
 intro pos ba s σ H Q I h;rw[hs];show Rt _ _ (spliced ((Q9,Sw e X.env)::Tx pos (Rm es X.env))) _ _ s;refine Zu (ee (ha ba s σ H _ I h) λu g ⟨x,i,j,r1,q1⟩=>?_);exact ee (d pos ba g σ i _ j q1) λus n ⟨xs,k,l,m,q2⟩=>⟨x::xs,k,l,.cons r1 m,q2⟩
def tTup(t:TA):TE:=λσ H Q=>t σ H λxs d=>xs.length<=RF/\∀p,d p=QY->Q (.ref p) (upd d p (.tup xs))
def MH(t:TA):TE:=λσ H Q=>t σ H λxs d=>xs.length<=RF/\∀p,d p=QY->Q (.ref p) (upd d p (.lst xs))
theorem Nl{x1}(h:PA X es t):PE X (.Tuple es x1 pos) (tTup t):=by
 intro ba s σ H Q I j;refine wpAny_Tuple_spliced (ee (h pos ba s σ H _ I j) λus d ⟨xs,g,i,r,z,q⟩=>⟨by rw[<-r.length];exact z,?_⟩);have k:g d.heap.objs.size=QY:=i.hok.fresh (Rf _);refine⟨.ref d.heap.objs.size,upd g d.heap.objs.size (.tup xs),i.laid (t':=d.toks) (λb u e=>Q3 _ e) (Rf _) ?_,rfl,q _ k⟩;exact⟨z,us,r,⟨_,Rw _ rfl,rfl,_,rfl⟩⟩
theorem fE(h:PA X es t):PE X (.List es pos) (MH t):=by
 intro ba s σ H Q I j;refine wpAny_List_spliced (ee (h pos ba s σ H _ I j) λus d ⟨xs,g,i,r,z,q⟩=>⟨by rw[<-r.length];exact z,?_⟩);have k:g d.heap.objs.size=QY:=i.hok.fresh (Rf _);refine⟨.ref d.heap.objs.size,upd g d.heap.objs.size (.lst xs),i.laid (t':=d.toks) (λb u e=>Q3 _ e) (Rf _) ?_,rfl,q _ k⟩;exact⟨z,us,0,r,Rw _ rfl⟩
abbrev Sp:=List V->Hp->VK->XK->Prop
abbrev F_:=List Yi->Hp->Rg->XK->Ra->Rg->Prop
structure vm (P:RT) (w:R8) (K:RB) (mg:R3->Option Ra) (base:SE) (A:SB) (outer:List Yi) (s:Rg) (H:Hp):Prop where
 frames:A.frames=on outer
 mod:Mod K mg base
 bs:∀b o,base.get? b=on o->s.heap.get? b=on o/\H b=QY
 bsz:base.objs.size<=s.heap.objs.size
 funs:s.heap.FunFrames base outer
 frf:∀b∈g_ outer,H b=QY
 hok:lb P w H s.heap
 bare:Wc s.gens
def CE(outer:List Yi)(P:RT)(w:R8)(H:Hp)(s:Rg)(Q:VK)(u:Ra)(s':Rg):Prop:=
 ∃v H',s'.os=s.os/\Wc s'.gens/\Un (g_ outer) [] H H' s.heap s'.heap/\lb P w H' s'.heap/\aT v u/\Q v H'
def CR(CX:F_)(outer:List Yi)(P:RT)(w:R8)(H:Hp)(s:Rg)(Q:VK)(E:XK)(r:Result)(s':Rg):Prop:=
 match r with
 | .ok (.ret u)=>CE outer P w H s Q u s'
 | .ok _=>False
 | .error e=>CX outer H s E e s'
structure fh (P:RT) (w:R8) (K:RB) (mg:R3->Option Ra) (base:SE) (CX:F_) (k:Nat) (f:Q6) (fd:RG) (ps:List R3) (sp:Sp):Prop where
 len:∀vs H Q E,sp vs H Q E->vs.length=ps.length
 run:∀(A:SB) (outer:List Yi) (s:Rg) (H:Hp) (args:Args) (us:List Ra) (vs:List V) (Q:VK) (E:XK),ef k A->vm P w K mg base A outer s H->Xq s fd args (ps.zip us)->au vs us->sp vs H Q E->
  Vh (RN P w) A (.call (.ref f) args) (CR CX outer P w H s Q E) s
theorem vm.make{P:RT}{w:R8}{K:RB}{A:SB}{s:Rg}{H:Hp}(e:vm P w K mg base A outer s H)(C:Q6)(us:List Ra)(d:List (R3×Ra)):
  vm P w K mg base (A.under (.builtin "type.__call__" ⟨.ref C::us,d⟩)) outer s H:=⟨by first|exact e.frames|(simpa[Xh,Code.envs,YN,pushEnvs]using e.frames),e.mod,e.bs,e.bsz,e.funs,e.frf,e.hok,e.bare⟩
variable{s':Rg}
theorem cy.env0(I:cy X ba σ H s):vm X.prog X.w X.K X.mg X.base X.A X.stack s H:=
 ⟨I.ok.frames,I.ok.mod,I.bs,Ru I.ok.bsz I.sz,I.stack,I.stkFree,I.hok,I.bare⟩
theorem cy.after{Q:VK}(I:cy X ba σ H s)(h:CE X.stack X.prog X.w H s Q u s'):EP X ba σ Q u s':=by
 obtain⟨v,H',os,bare,un,hok,r,q⟩:=h;obtain⟨j,g,d,t,i⟩:=s';obtain rfl:i=s.os:=os;exact⟨v,H',I.call (h':=j) (g':=g) (d':=d) (t':=t) (ch:=[]) un hok bare (λb z=>RJ z (by simp)),r,q⟩
def PV(sp:Sp)(d:List V)(E:St->XK)(t:TA):TE:=λσ H Q=>t σ H λvs g=>sp (vs++d) g Q (E σ)
def xW(C:Q6)(m:R3)(sp:Sp)(d:List V)(E:St->XK)(ta:TE)(t:TA):TE:=λσ H Q=>ta σ H λx g=>∃a dx fs,x= .ref a/\g a=on (.ins C dx fs)/\fs.lookup m=QY/\
 t σ g λvs i=>sp (x::(vs++d)) i Q (E σ)
noncomputable def PU(C:Q6)(sp:Sp)(d:List V)(E:St->XK)(t:TA):TE:=λσ H Q=>t σ H λvs g=>∀x dx,g x=QY->g dx=QY->dx≠x->
 sp (.ref x::(vs++d)) (upd (upd g dx (.own x)) x (.ins C dx [])) (λv i=>v= .non/\Q (.ref x) i) (E σ)
def ay(K:RB)(d:RG)(ps:List R3)(ds:List Ra):Prop:=
 ∀(s:Rg) (us:List Ra),K.In s.heap->(us++ds).length=ps.length->Xq s d ⟨us,[]⟩ (ps.zip (us++ds))
theorem ay.all{K:RB}{ps:List R3}(h:∀us:List Ra,us.length=ps.length->bindArgs fd ⟨us,[]⟩=T0 (ps.zip us)):ay K fd ps []:=λs us _ d=>by
 rw[RX]at d⊢;exact .of_eq (h us d)
def cI(CX:F_)(X:Cx)(E:St->XK):Prop:=∀(ba:List (Q6×RA)) (σ:St) (H:Hp) (s:Rg) (e:Ra) (s':Rg),cy X ba σ H s->CX X.stack H s (E σ) e s'->X.xe e s'
end
section
variable{X:Cx}{CX:F_}{k:Nat}{f C:Q6}{fd:RG}{ps:List R3}{sp:Sp}{dvs:List V}{ds:List Ra}{E:St->XK}{x m:R3}{p pos apos:Vy}{e o:Expr}{es:List Expr}{ta:TE}{t:TA}
theorem uJ(F:fh X.prog X.w X.K X.mg X.base CX k f fd ps sp)(c:ef k X.A)(d:ay X.K fd ps ds)(hd:au dvs ds)(g:cI CX X E)
  (I:cy X ba σ H s) (r:au vs us) (h:sp (vs++dvs) H Q (E σ)):Rt (RN X.prog X.w) X.A (XN (.ref f) us) (EP X ba σ Q) X.xe s:=by
 have b:au (vs++dvs) (us++ds):=r.append hd;have i:(us++ds).length=ps.length:=by rw[<-b.length];exact F.len _ _ _ _ h
 refine Zh (Vs (F.run X.A X.stack s H ⟨us,[]⟩ (us++ds) (vs++dvs) Q (E σ) c I.env0 (d s us I.kIn i) b h) λr s' a=>?_);cases r with
 |error e=>exact g ba σ H s e s' I a
 |ok fl=>
  cases fl with
  |ret u=>exact I.after a
  |next=>exact Tu a
  |brk=>exact Tu a
  |cont=>exact Tu a
theorem rm(F:fh X.prog X.w X.K X.mg X.base CX k f fd ps sp)(g:ef k X.A)(i:Gl X x)(hm:X.mg x=on (.ref f))(j:WS X.K (.ref f)=Q4)(l:ay X.K fd ps ds)(hd:au dvs ds)(n:cI CX X E)
  (ha:PA X (e::es) t) (b:(x==("__debug__":R3))=Q9:=by decide) (u:Rm (e::es) X.env=(Q9,Sw e X.env)::Rm es X.env:=by rfl) (c:(Tx pos (Rm es X.env)).any (·.1)=Q9:=by rfl):
  PE X (.Call (.Name x p) (e::es) [] pos) (PV sp dvs E t):=by
 intro a s v H Q I h;refine Ww (rq I i hm ?_ b);refine callWith_K (h₀:=X.base) I.ok.mod.kin j (ee (ha pos a s v H _ I h) λus y ⟨vs,B,d,r,q⟩=>⟨d.kIn,?_⟩) u c;exact uJ F g l hd n d r q
theorem Lx(v:PE X o ta)(c:pa X.K C)(hm:i_ X.K C m f)(F:fh X.prog X.w X.K X.mg X.base CX k f fd ps sp)(y:ef k X.A)(B:ay X.K fd ps ds)(hd:au dvs ds)(J:cI CX X E)(ha:PA X (e::es) t)
  (d:Rm (e::es) X.env=(Q9,Sw e X.env)::Rm es X.env:=by rfl) (g:(Tx pos (Rm es X.env)).any (·.1)=Q9:=by rfl)
  (L:Sw (.Call (.Attribute o m apos) (e::es) [] pos) X.env=(do
   let ov <-Sw o X.env
   UF apos.atName
   let (f,first) <-U6 [ov] (Wq ov m pl)
   X7 pos f first (Tx pos (Rm (e::es) X.env)) (Uj pos (Th [] X.env))):=by rfl):
  PE X (.Call (.Attribute o m apos) (e::es) [] pos) (xW C m sp dvs E ta t):=by
 intro b s i H Q I h;refine ZI (pl:=pl) (ee (v b s i H _ I h) λu N ⟨x,O,j,P,a,T,fs,ex,R,l,q⟩=>?_) L;subst ex;obtain rfl:u=RI a:=P;refine lh j R c hm l ?_;refine callWith_K (first:=[.ref a]) (h₀:=X.base) I.ok.mod.kin hm.kp (ee (ha pos b N i O _ j q) λus U ⟨vs,W,n,r,q2⟩=>⟨n.kIn,?_⟩) d g
 exact uJ (us:= .ref a::us) (vs:= .ref a::vs) F y B hd J n (.cons rfl r) q2
theorem EF(g:PE X o ta)(c:pa X.K C)(hm:i_ X.K C m f)(F:fh X.prog X.w X.K X.mg X.base CX k f fd ps sp)(i:ef k X.A)(j:ay X.K fd ps ds)(hd:au dvs ds)(n:cI CX X E)
  (r:Sw (.Call (.Attribute o m apos) [] [] pos) X.env=(do
   let ov <-Sw o X.env
   UF apos.atName
   let (f,first) <-U6 [ov] (Wq ov m pl)
   X7 pos f first (Tx pos (Rm [] X.env)) (Uj pos (Th [] X.env))):=by rfl):
  PE X (.Call (.Attribute o m apos) [] [] pos) (xW C m sp dvs E ta DL):=by
 intro b s v H Q I h;refine ZI (pl:=pl) (ee (g b s v H _ I h) λu J ⟨x,L,d,y,a,N,fs,ex,B,l,q⟩=>?_) r;subst ex;obtain rfl:u=RI a:=y;refine lh d B c hm l ?_;exact PySem.W.callWith_K0 (first:=[.ref a]) d.kIn hm.kp (uJ (us:=[.ref a]) (vs:=[.ref a]) F i j hd n d (.cons rfl .nil) q)
structure Mk (K:RB) (C f:Q6):Prop where
 makes:ZX K C=Q4
 init:Vc K (.ref C) "__init__"=on (on (.ref f))
 fn:isFn K (.ref f)=Q4
 kp:WS K (.ref C)=Q4
theorem DV(M:Mk X.K C f)(F:fh X.prog X.w X.K X.mg X.base CX k f fd ps sp)(i:ef (k+1) X.A)(j:ay X.K fd ps ds)(hd:au dvs ds)
  (l:cI CX X E) (I:cy X ba σ H s) (r:au vs us)
  (h:∀x b,H x=QY->H b=QY->b≠x->sp (.ref x::(vs++dvs)) (upd (upd H b (.own x)) x (.ins C b [])) (λv n=>v= .non/\Q (.ref x) n) (E σ)):
  Rt (RN X.prog X.w) X.A (XN (.ref C) us) (EP X ba σ Q) X.xe s:=by
 have d:=h (s.heap.objs.size+1) s.heap.objs.size (I.hok.fresh (Wo _)) (I.hok.fresh (Rf _)) (Sg (WF _));have c:=cy.made (C:=C) I;have g:au (V.ref (s.heap.objs.size+1)::(vs++dvs)) (RI (s.heap.objs.size+1)::(us++ds)):= .cons rfl (r.append hd);have q:(RI (s.heap.objs.size+1)::us++ds).length=ps.length:=by
  have e:=g.length;rw[F.len _ _ _ _ d]at e;exact e.symm
 refine Zh (EU (f:=f) I.kIn M.makes M.init (beq_iff_eq.mp M.fn) (Vs (F.run _ X.stack _ _ ⟨RI (s.heap.objs.size+1)::us,[]⟩ (RI (s.heap.objs.size+1)::(us++ds)) _ _ (E σ) (i.make C us [])
  (c.env0.make C us []) (j _ (RI (s.heap.objs.size+1)::us) c.kIn q) g d) λr s' a=>?_))
 cases r with
 |error e=>exact l ba σ _ _ e s' c a
 |ok fl=>
  cases fl with
  |ret u=>
   obtain⟨v,y,B,J,L,q3⟩:=c.after a;subst L;exact⟨J,⟨V.ref (s.heap.objs.size+1),y,B,rfl,q3⟩⟩
  |next=>exact Tu a
  |brk=>exact Tu a
  |cont=>exact Tu a
theorem Ly(M:Mk X.K C f)(F:fh X.prog X.w X.K X.mg X.base CX k f fd ps sp)(g:ef (k+1) X.A)(i:Gl X x)(hm:X.mg x=on (.ref C))(j:ay X.K fd ps ds)(hd:au dvs ds)(l:cI CX X E)
  (ha:PA X (e::es) t) (b:(x==("__debug__":R3))=Q9:=by decide) (n:Rm (e::es) X.env=(Q9,Sw e X.env)::Rm es X.env:=by rfl) (c:(Tx pos (Rm es X.env)).any (·.1)=Q9:=by rfl):
  PE X (.Call (.Name x p) (e::es) [] pos) (PU C sp dvs E t):=by
 intro a s u H Q I h;refine Ww (rq I i hm ?_ b);refine callWith_K (h₀:=X.base) I.ok.mod.kin M.kp (ee (ha pos a s u H _ I h) λus v ⟨vs,y,d,r,q⟩=>⟨d.kIn,?_⟩) n c;exact DV M F g j hd l d r q
def PK(X:Cx)(b:List WH)(t:TA):Prop:=
 ∀(pos:Vy) (a:List (Q6×RA)) (s:Rg) (c:St) (H:Hp) (Q:List V->Hp->Prop),cy X a c H s->t c H Q->Rt (RN X.prog X.w) X.A (evalAll ((Uj pos (Th b X.env)).map (·.2))) (AP X a c Q) X.xe s
variable{ks:List R3}{kpos:Vy}{kws:List WH}{te:TE}{tk:TA}{nm:Option R3}
theorem Nh:PK X [] DL:=λ_ _ _ _ H Q I h=>wpAny_evalAll_nil ⟨[],H,I,.nil,h⟩
theorem Lr(ha:PE X e te)(c:PK X kws t):PK X (⟨nm,e,kpos⟩::kws) (JL te t):=by
 intro pos a s b H Q I h;show Rt _ _ (evalAll ((do let v <-Sw e X.env;UF pos;T0 v)::(Uj pos (Th kws X.env)).map (·.2))) _ _ s
 refine wpAny_evalAll_cons (My (ee (ha a s b H _ I h) λu d ⟨x,g,i,r1,q1⟩=>My (T6 (Q0 ?_))));exact ee (c pos a d b g _ i q1) λus q ⟨xs,j,l,n,q2⟩=>⟨x::xs,j,l,.cons r1 n,q2⟩
structure u_ (K:RB) (fd:RG) (ps ks:List R3) (g:List Ra->List Ra->List Ra) (gV:List V->List V->List V):Prop where
 to:∀(s:Rg) (us ws:List Ra),K.In s.heap->(g us ws).length=ps.length->Xq s fd ⟨us,ks.zip ws⟩ (ps.zip (g us ws))
 rel:∀{vs:List V} {us:List Ra} {zs:List V} {ws:List Ra},au vs us->au zs ws->au (gV vs zs) (g us ws)
variable{g:List Ra->List Ra->List Ra}{gV:List V->List V->List V}
theorem Li(F:fh X.prog X.w X.K X.mg X.base CX k f fd ps sp)(d:ef k X.A)(b:u_ X.K fd ps ks g gV)(i:cI CX X E)
  (I:cy X ba σ H s) (r:au vs us) (j:au zs ws) (h:sp (gV vs zs) H Q (E σ)):Rt (RN X.prog X.w) X.A (XN (.ref f) us (ks.zip ws)) (EP X ba σ Q) X.xe s:=by
 have c:=b.rel r j;have l:(g us ws).length=ps.length:=by rw[<-c.length];exact F.len _ _ _ _ h
 refine Zh (Vs (F.run X.A X.stack s H ⟨us,ks.zip ws⟩ (g us ws) (gV vs zs) Q (E σ) d I.env0 (b.to s us ws I.kIn l) c h) λr s' a=>?_);cases r with
 |error e=>exact i ba σ H s e s' I a
 |ok fl=>
  cases fl with
  |ret u=>exact I.after a
  |next=>exact Tu a
  |brk=>exact Tu a
  |cont=>exact Tu a
structure cb (N P:List R3) (sc:Scope):Prop where
 kind:sc.kind= .function
 co:sc.isCoroutine=Q9
 gen:sc.isGenerator=Q9
 nd:N.Nodup
 pre:N.take P.length=P
 par:∀x∈P,sc.names.lookup x=on .local\/sc.names.lookup x=on .cell
 nofree:∀y∈sc.names,y.2≠ .free
theorem sW{b:R3->Option UV}{x:R3}:∀{a:List (R3×Ra)} {m:R3->Option Ra},(∀v,(x,v)∉a)->Z3 b a m x=m x
 |[],_,_=>rfl
 |(n,v)::r,m,h=>by
  unfold Z3;rw[sW λw c=>h w (Q1 _ c)];split
  .have:x≠n:=by rintro rfl;exact h v Q7
   simp[this]
  .rfl
theorem sY{b:R3->Option UV}{x:R3}:∀{a:List (R3×Ra)} {m:R3->Option Ra},(∀v,(x,v)∉a)->Z2 b a m x=m x
 |[],_,_=>rfl
 |(n,v)::r,m,h=>by
  unfold Z2;rw[sY λw c=>h w (Q1 _ c)];split
  .rfl
  .have:x≠n:=by rintro rfl;exact h v Q7
   simp[this]
theorem sX{a:R3->Option UV}{x:R3}{v:Ra}:∀{P:List R3} {vs:List Ra} {i:Nat} {m:R3->Option Ra},P.Nodup->P[i]?=on x->vs[i]?=on v->a x=on .local->
  Z3 a (P.zip vs) m x=on v
 |[],_,_,_,_,h,_,_=>by simp at h
 |_::_,[],_,_,_,_,h,_=>by simp at h
 |p::P,w::vs,0,m,nd,h1,h2,hk=>by
  simp at h1 h2;subst h1;subst h2;show Z3 a ((p,w)::P.zip vs) m p=_;unfold Z3;rw[sW λv b=>(Sb.mp nd).1 (VD b).1,Rb hk];simp
 |p::P,w::vs,i+1,m,nd,h1,h2,hk=>by
  show Z3 a ((p,w)::P.zip vs) m x=_;unfold Z3;exact sX (i:=i) (Sb.mp nd).2 (by simpa using h1) (by simpa using h2) hk
theorem sZ{a:R3->Option UV}{x:R3}{v:Ra}:∀{P:List R3} {vs:List Ra} {i:Nat} {m:R3->Option Ra},P.Nodup->P[i]?=on x->vs[i]?=on v->a x≠on .local->
  Z2 a (P.zip vs) m x=on v
 |[],_,_,_,_,h,_,_=>by simp at h
 |_::_,[],_,_,_,_,h,_=>by simp at h
 |p::P,w::vs,0,m,nd,h1,h2,hk=>by
  simp at h1 h2;subst h1;subst h2;show Z2 a ((p,w)::P.zip vs) m p=_;unfold Z2;rw[sY λv b=>(Sb.mp nd).1 (VD b).1,Q8 hk];simp
 |p::P,w::vs,i+1,m,nd,h1,h2,hk=>by
  show Z2 a ((p,w)::P.zip vs) m x=_;unfold Z2;exact sZ (i:=i) (Sb.mp nd).2 (by simpa using h1) (by simpa using h2) hk
noncomputable def fJ(N:List R3)(vs:List V):St:=vs.map on++Rr (N.length-vs.length) QY
noncomputable def gn(CX:F_)(P:RT)(w:R8)(K:RB)(mg:R3->Option Ra)(base:SE)(N:List R3)(a:R3)(scope:Scope)(f:Q6)(cd:Ra)(A:SB)(outer:List Yi)(s:Rg)(H:Hp)(E:XK):Cx where
 prog:=P
 w:=w
 K:=K
 mg:=mg
 base:=base
 A:=A.deeper (VL a scope s.heap.objs.size f cd)
 N:=N
 s₀:=s
 H₀:=H
 env:=VL a scope s.heap.objs.size f cd
 outer:=outer
 stack:=VL a scope s.heap.objs.size f cd::outer
 ex:=[]
 calm:=Q4
 fn:=λ_=>Q4
 pn:=[]
 xe:=λe s'=>Rt (RN P w) (A.deeper (VL a scope s.heap.objs.size f cd)) (leaving (VL a scope s.heap.objs.size f cd) e) (λ_ b=>CX outer H s E e b) (λc b=>CX outer H s E c b) s'
theorem vY{a:Scope}{x:R3}(h:a.names.lookup x=on .cell):∃c,(Tc n a.names []).lookup x=on c:=by
 have q:=Y9 a.names n [] (.inl h);exact Yk.mp q
theorem BM{CX:F_}{K:RB}{N ps:List R3}{scope:Scope}{f:Q6}{A:SB}{s L:Rg}{E:XK}{vs:List V}
  (S:cb N ps scope) (hd:A.handled=QY) (j:vm P w K mg base A outer s H) (U:vs.length=ps.length) (r:au vs us)
  (x:InCallC s s.heap.objs.size (Z3 (VL qual scope s.heap.objs.size f cd).kindOf (ps.zip us) λ_=>QY) (Tc (s.heap.objs.size+1) scope.names []) (Z2 (VL qual scope s.heap.objs.size f cd).kindOf (ps.zip us) λ_=>QY) L):
  cy (gn CX P w K mg base N qual scope f cd A outer s H E) [] (fJ N vs) H L:=by
 have R:ps.length<=N.length:=by have:=R9 XJ S.pre;rw[S6]at this;omega
 obtain⟨I,tk,rfl,O⟩:=x.done;have l:∀b:Q6,b∉(gn CX P w K mg base N qual scope f cd A outer s H E).ex:=λb z=>RJ (show b∈([]:List Q6)from z) (by simp);refine⟨⟨j.mod,S.kind,rfl,rfl,Rf _,λy z c I d=>?_,λy hy=>?_,λy c _ h=>?_,λ_=>hd,Around.frames_deeper j.frames,.inr ⟨rfl,rfl⟩,λb z=>RJ z (l b),j.bs,j.bsz,λb _ _=>l b,λb z=>RJ z (l b),j.funs,j.frf⟩,
  rfl,j.bare,Un.kept O,⟨_,x.toInCall.ns,λi y v I d W=>?_⟩,λy c h=>⟨_,x.cell y c h⟩,j.hok.fresh (Rf _),λy c h=>?_,λp B=>RJ (show p∈([]:List (Q6×RA))from B) (by simp),j.hok.kept O,?_⟩
 .exact name_of_addr x.apart (SM I) (SM d)
 .have hy:scope.names.lookup y=on .cell\/scope.names.lookup y=on .free:=hy
  rcases hy with hy|hy
  .exact vY hy
  .exact RJ rfl (S.nofree _ (SM hy))
 .exact WQ (x.above y c (SM h))
 .have J:i<vs.length:=by
   unfold fJ at d;by_cases J:i<vs.length
   .exact J
   .rw[Tv (by simpa using J)]at d
    rw[Ts]at d;split at d<;>cases d
  have ha:vs[i]?=on v:=by
   unfold fJ at d;rw[UR (by simpa using J),Q5]at d;cases e:vs[i]? with
   |none=>rw[e]at d;cases d
   |some a=>rw[e]at d;cases d;rfl
  obtain⟨u,Q,T⟩:=r.get ha;have B:ps[i]?=on y:=by
   rw[<-S.pre,Yw (by omega)];exact I
  have F:ps.Nodup:=by rw[<-S.pre];exact S.nd.sublist (List.take_sublist _ _)
  refine⟨u,T,?_⟩;rcases S.par y (RK B)with k|k
  .exact .inl ⟨k,sX F B Q k⟩
  .obtain⟨c,e⟩:=vY (n:=s.heap.objs.size+1) k
   refine .inr ⟨.inl k,c,e,?_⟩;have q:=x.cell y c e;rw[sZ F B Q (by show scope.names.lookup y≠_;rw[k];decide)]at q;exact q
 .exact j.hok.fresh (WQ (x.above y c (SM h)))
 .unfold fJ
  show _=N.length;rw[Ro,QX,Td];omega
theorem KD{CX:F_}{K:RB}{k:Nat}{f:Q6}
  {N ps:List R3} {sp:Sp} (U:K.lookup f=on ⟨oc,od,.func (Va name qual params body scope dV kV doc pm an cdv ct),osl⟩) (B:VH K cdv qual=Q4) (S:cb N ps scope)
  (len:∀vs H Q E,sp vs H Q E->vs.length=ps.length)
  (d:∀(A:SB) (outer:List Yi) (s:Rg) (H:Hp) (vs:List V) (Q:VK) (E:XK),ef k (A.deeper (VL qual scope s.heap.objs.size f cdv))->sp vs H Q E->
   ∃t,PSs (gn CX P w K mg base N qual scope f cdv A outer s H E) body t/\t {nx:=λ_ c=>Q .non c,rt:=Q} (fJ N vs) H):
  fh P w K mg base CX (k+1) f (Va name qual params body scope dV kV doc pm an cdv ct) ps sp:=by
 refine⟨len,λA outer s H args us vs Q E F i Y r j=>?_⟩;have Z:=len _ _ _ _ j;have R:K.In s.heap:=i.mod.kin.keeps λb o e=>(i.bs b o e).1;have L:s.heap.NoLimit:=i.mod.nolimit.keeps λb o e=>(i.bs b o e).1;have h:∀y∈ps.zip us,scope.names.lookup y.1=on .local\/(scope.names.lookup y.1=on .cell/\((Tc (s.heap.objs.size+1) scope.names []).lookup y.1).isSome=Q4):=λ⟨n,v⟩ hy=>by
  rcases S.par n (VD hy).1 with q|q
  .exact .inl q
  .exact .inr ⟨q,Y9 _ _ _ (.inl q)⟩
 refine codeAny_call_function F.depth (R _ _ U) rfl S.co S.gen rfl (PySem.W.codeRec_of R B) (Y _ _ _ _ ?_);refine wpAny_newFunctionEnv_cells S.kind h λenv he T x=>?_;subst he;refine⟨L.keeps x.toInCall.keep,codeAny_func ?_⟩;obtain⟨t,ht,hq⟩:=d A outer s H vs Q E (F.deeper _) j;have I:cy (gn CX P w K mg base N qual scope f cdv A outer s H E) [] (fJ N vs) H T:=BM S F.hd i Z r x;refine Sh (ht [] T (fJ N vs) H _ I hq) (λfl s' hs=>?_) λe s' hs=>hs;have l:∀{a:St} {c:Hp} {v:V} {u:Ra},cy (gn CX P w K mg base N qual scope f cdv A outer s H E) [] a c s'->aT v u->Q v c->CE outer P w H s Q u s':=
  λ{a c v u} J O q=>⟨v,c,J.os,J.bare,J.base,J.hok,O,q⟩
 cases fl with
 |ret u=>
  obtain⟨v,a,c,J,O,q⟩:=hs;exact l J O q
 |next=>
  obtain⟨a,c,J,q⟩:=hs;exact l (v:=V.non) (u:=Sv) J rfl q
 |brk=>
  obtain⟨_,_,_,q⟩:=hs;exact Tu q
 |cont=>
  obtain⟨_,_,_,q⟩:=hs;exact Tu q
variable{id T:String}{r:List V->Hp->VK->Prop}
def tCB(r:List V->Hp->VK->Prop)(t:TA):TE:=λa H Q=>t a H λvs b=>r vs b Q
theorem kT(i:dJ X (.builtin id) r)(j:Gl X x)(hm:X.mg x=QY)(l:U5 x=on (.builtin id))(ha:PA X (e::es) t)(hn:x≠"__name__":=by decide)(b:(x==("__debug__":R3))=Q9:=by decide)
  (n:Rm (e::es) X.env=(Q9,Sw e X.env)::Rm es X.env:=by rfl) (c:(Tx pos (Rm es X.env)).any (·.1)=Q9:=by rfl):PE X (.Call (.Name x p) (e::es) [] pos) (tCB r t):=by
 intro a s d H Q I h;refine Ww (gZ I j hm l ?_ hn b);exact PyProof.Rows.callWith_builtin1 (ee (ha pos a s d H _ I h) λus q ⟨vs,u,v,r1,q1⟩=>i a q d u vs us Q v r1 q1) n c
theorem sE(i:dJ X (.type T) r)(j:Gl X x)(hm:X.mg x=QY)(l:U5 x=on (.type T))(ha:PA X (e::es) t)(hn:x≠"__name__":=by decide)(b:(x==("__debug__":R3))=Q9:=by decide)
  (n:Rm (e::es) X.env=(Q9,Sw e X.env)::Rm es X.env:=by rfl) (c:(Tx pos (Rm es X.env)).any (·.1)=Q9:=by rfl):PE X (.Call (.Name x p) (e::es) [] pos) (tCB r t):=by
 intro a s d H Q I h;refine Ww (gZ I j hm l ?_ hn b);exact SR (ee (ha pos a s d H _ I h) λus q ⟨vs,u,v,r1,q1⟩=>i a q d u vs us Q v r1 q1) n c
end
end L2
namespace HT
open PySem PyProof.Rows
section
open PySem.SeqAt
open PySem.AutoSeq1 (wpAny_loadPart')
open PySem.MeetsSeq PySem.MeetsSeq2 PySem.MeetsSeq3
end
section
variable{prog:RT}{w:R8}{A:SB}{E:Ra->Rg->Prop}{s:Rg}
theorem cat_tup{vs a:List Ra}(v:IsTup s.heap t vs.toArray)(y:IsTup s.heap b a.toArray)(m:vs≠[])
  (B:a=[]->Q (.ref t) s) (C:a≠[]->Q (.ref s.heap.objs.size) {s with heap:=s.heap.push {cls:= .type "tuple",data:= .seq (vs++a).toArray}})
  (k:vs.length+a.length<=RF):Rt (RN prog w) A (Uk .Add (.ref t) (.ref b)) Q E s:=by
 obtain⟨⟨cls,o,data,p⟩,i,q,n,hd⟩:=id v;obtain⟨⟨r,d,l,f⟩,c,g,u,h⟩:=id y;simp only at q hd g h;subst q hd g h;have e:vs.toArray++a.toArray=(vs++a).toArray:=by simp
 by_cases j:a=[]
 .exact concat_meets ⟨_,i,rfl⟩ ⟨_,c,rfl⟩ Yr ZJ Ws Wg (V8 _ _)
   (tuple_addW1 t b vs.toArray a.toArray n u o d p f (by simpa using m) (by simp[j])) ⟨i,c,B j⟩
 .refine concat_meets ⟨_,i,rfl⟩ ⟨_,c,rfl⟩ Yr ZJ Ws Wg (V8 _ _)
   (tuple_addW2 t b vs.toArray a.toArray n u o d p f (by simpa using m) (by simpa using j) (by rw[Rx,Rx];exact k)) ⟨i,c,?_⟩
  rw[e];exact C j
noncomputable def sIx(n d:Nat):Option Int->Nat
 |none=>d
 |some v=>if v<0 then(v+(n:Int)).toNat else UL v.toNat n
theorem sIx_none(n d:Nat):sIx n d QY=d:=rfl
theorem sIx_nat(n d k:Nat):sIx n d (on (k:Int))=UL k n:=by
 show(if(k:Int)<0 then((k:Int)+(n:Int)).toNat else UL (k:Int).toNat n)=UL k n;rw[Q8 (by omega),SQ]
end
end HT
namespace L2
open PySem PySem.Spec PyProof.Rows
abbrev TO:=St->Hp->(Option Int->Hp->Prop)->Prop
def PO(X:Cx)(e:Option Expr)(t:TO):Prop:=
 ∀(a:List (Q6×RA)) (s:Rg) (b:St) (H:Hp) (Q:Option Int->Hp->Prop),cy X a b H s->t b H Q->
  Rt (RN X.prog X.w) X.A (evalPart e X.env) (λu s'=>∃o c,cy X a b c s'/\IsPart u o/\Q o c) X.xe s
noncomputable def K4:TO:=λ_ H Q=>Q QY H
def PQ(t:TE):TO:=λa H Q=>t a H λx b=>∃i,x= .int i/\Q (on i) b
theorem qy{ns:List Int}:∀{us:List Ra},au (ns.map V.int) us->YQ us ns:=by
 induction ns with
 |nil=>intro us r;rw[Ue]at r;cases r;exact .nil
 |cons n ns ih=>
  intro us r;rw[Rk]at r;cases r with
  |cons r1 a=>
   obtain⟨t,e⟩:=r1;subst e;exact .cons n t (ih a)
section
variable{X:Cx}{e:Expr}{te:TE}{lo hi:Option Expr}{tl th:TO}{pos p2:Vy}
theorem wV:PO X QY K4:=by
 intro a s b H Q I h;rw[ZH];exact Q0 ⟨QY,H,I,.none,h⟩
theorem wU(h:PE X e te):PO X (on e) (PQ te):=by
 intro a s b H Q I c;rw[evalPart_some];refine ee (h a s b H _ I c) λu g ⟨x,d,f,r1,q1⟩=>?_;obtain⟨i,rfl,q⟩:=q1;obtain⟨t,rfl⟩:=r1;exact⟨on i,d,f,.int i t,q⟩
def SlR(X:Cx)(r:V->Option Int->Option Int->Hp->VK->Prop):Prop:=
 ∀(a:List (Q6×RA)) (s:Rg) (b:St) (H:Hp) (x:V) (v c d:Ra) (lo hi:Option Int) (f:Q6) (Q:VK),cy X a b H s->aT x v->s.heap.IsSliceOf f c d .none->IsPart c lo->IsPart d hi->r x lo hi H Q->
  ∃T g,typeLookup (.type T) "__getitem__"=T0 (on (.builtin g))/\s.TypeIs v T/\Rt (RN X.prog X.w) X.A (getItem v (.ref f)) (EP X a b Q) X.xe s
def tSl(r:V->Option Int->Option Int->Hp->VK->Prop)(te:TE)(tl th:TO):TE:=λa H Q=>te a H λx b=>tl a b λl c=>th a c λu d=>r x l u d Q
theorem uR(j:SlR X r)(k:PE X e te)(m:PO X lo tl)(n:PO X hi th):PE X (.Subscript e (.Slice lo hi QY p2) pos) (tSl r te tl th):=by
 intro a s d H Q I h;refine Subscript_ (ee (k a s d H _ I h) λv o ⟨x,p,t,r1,q1⟩=>?_);refine wpAny_Slice (ee (m a o d p _ t q1) λf y ⟨l,B,C,pl,q2⟩=>ee (n a y d B _ C q2) λg c ⟨u,i,F,J,q3⟩=>?_);rw[ZH];refine Q0 ?_;have L:cy X a d i {c with heap:=c.heap.push {cls:= .type "slice",data:= .fields #[f,g,.none]}}:=F.kept (t':=c.toks) λb R q=>Q3 _ q;obtain⟨T,U,N,O,P⟩:=j a {c with heap:=c.heap.push {cls:= .type "slice",data:= .fields #[f,g,.none]}} d i x v f g l u c.heap.objs.size Q L r1 (XU ..) pl J q3;show Rt (RN X.prog X.w) X.A (ZK e (.Slice lo hi QY p2) v (.ref c.heap.objs.size)) (EP X a d Q) X.xe {c with heap:=c.heap.push {cls:= .type "slice",data:= .fields #[f,g,.none]}};exact tail_any (ops:=[.ref c.heap.objs.size,v]) O N P (by with_unfolding_all rfl)
noncomputable def mX(xs:List V)(lo hi:Option Int):List V:=(xs.drop (HT.sIx xs.length 0 lo)).take (HT.sIx xs.length xs.length hi-HT.sIx xs.length 0 lo)
theorem wj(xs:List V)(lo hi:Option Int):(mX xs lo hi).length<=xs.length:=by
 unfold mX;rw[S6,XE];omega
def yh(K:RB):R2:=λx y H Q=>∃a b xs ys,x= .ref a/\y= .ref b/\il K H a xs/\il K H b ys/\xs≠[]/\xs.length+ys.length<=RF/\
 (ys=[]->Q (.ref a) H)/\(ys≠[]->∀p,H p=QY->Q (.ref p) (upd H p (.tup (xs++ys))))
theorem au.nil_iff(r:au xs us):us=[]↔xs=[]:=by
 cases r with
 |nil=>simp
 |cons _ _=>simp
theorem LD:fx X (Uk .Add) (yh X.K):=by
 intro d s n H x y v u Q I i j h;obtain⟨a,b,xs,ys,rfl,rfl,ha,k,l,f,q1,q2⟩:=h;cases i;cases j;obtain⟨its,r1,m,_⟩:=I.tuple ha;obtain⟨g,c,p2,_⟩:=I.tuple k;refine HT.cat_tup m p2 (λz=>l (r1.nil_iff.mp z)) (λz=>⟨.ref a,H,I,rfl,q1 (c.nil_iff.mp z)⟩) (λz=>?_) (by rw[<-r1.length,<-c.length];exact f);refine⟨.ref s.heap.objs.size,_,I.laid (t':=s.toks) (o:= .tup (xs++ys)) (λb p q=>Q3 _ q) (Rf _) ?_,rfl,q2 (λw=>z (c.nil_iff.mpr w)) _ (I.hok.fresh (Rf _))⟩;exact⟨by rw[Ro];exact f,_,r1.append c,IsTup.new _ _⟩
noncomputable def mm(n:Nat)(i:Int):Option Nat:=if 0<=i then(if i<n then on i.toNat else QY)else if -(n:Int)<=i then on (i+n).toNat else QY
def ui{α:Type}(xs:List α)(i:Int):Option α:=(mm xs.length i).bind λj=>xs[j]?
theorem rD(h:mm n i=on j):seqIndex? i n=on j/\j<n/\-(n:Int)<=i/\i<n:=by
 unfold mm at h;by_cases b:0<=i
 .rw[Rb b]at h
  by_cases a:i<n
  .rw[Rb a]at h
   have e:i.toNat=j:=RO h;exact⟨by rw[seqIndex_of b a,e],by omega,by omega,a⟩
  .rw[Q8 a]at h;cases h
 .rw[Q8 b]at h
  by_cases a:-(n:Int)<=i
  .rw[Rb a]at h
   have e:(i+n).toNat=j:=RO h;exact⟨by rw[seqIndex_neg (by omega) a,e],by omega,a,by omega⟩
  .rw[Q8 a]at h;cases h
theorem xF{α:Type}{xs:List α}{i:Int}{v:α}(h:ui xs i=on v):∃j,seqIndex? i xs.length=on j/\xs[j]?=on v/\j<xs.length/\-(xs.length:Int)<=i/\i<xs.length:=by
 unfold ui at h;cases e:mm xs.length i with
 |none=>rw[e]at h;cases h
 |some j=>
  rw[e]at h;obtain⟨a,b,c,d⟩:=rD e;exact⟨j,a,h,b,c,d⟩
theorem Mr{α:Type}{xs:List α}{j:Nat}{v:α}(h:xs[j]?=on v):ui xs (j:Int)=on v:=by
 have a:j<xs.length:=(Rj.mp h).1;have e:mm xs.length (j:Int)=on j:=by
  unfold mm;rw[Rb (by omega),Rb (by omega)];simp
 unfold ui;rw[e];exact h
def xJ(b:Expr):Prop:=∀o i,subscripted b Q9 o i=operate [o,i] (getItem o i)
def E_(X:Cx)(r:R2):Prop:=
 ∀(c a:Expr) (b:List (Q6×RA)) (s:Rg) (d:St) (H:Hp) (x y:V) (v u:Ra) (Q:VK),cy X b d H s->aT x v->aT y u->r x y H Q->
  subscripted a Q9 v u=operate [v,u] (getItem v u)->Rt (RN X.prog X.w) X.A (ZK c a v u) (EP X b d Q) X.xe s
def MtR(X:Cx)(c:String)(r:V->List V->Hp->VK->Prop):Prop:=
 ∀(a:List (Q6×RA)) (s:Rg) (b:St) (H:Hp) (x:V) (xs:List V) (v:Ra) (us:List Ra) (Q:VK),cy X a b H s->aT x v->au xs us->r x xs H Q->
  Rt (RN X.prog X.w) X.A (XN (.builtin c) (v::us)) (EP X a b Q) X.xe s
variable{a b:Expr}{ta tb:TE}
theorem E_.or(h:E_ X r)(h':E_ X r'):E_ X (λx y H Q=>r x y H Q\/r' x y H Q):=by
 intro c d f s g H x y v u Q I i j q hs;rcases q with q|q
 .exact h c d f s g H x y v u Q I i j q hs
 .exact h' c d f s g H x y v u Q I i j q hs
theorem jI(d:E_ X r)(ha:PE X a ta)(f:PE X b tb)(hs:xJ b):PE X (.Subscript a b pos) (Y_ r ta tb):=by
 intro c s g H Q I h;exact Subscript_ (GJ ha f I h λv u i x y j k l m q=>d a b c i g j x y v u Q k l m q (hs _ _))
def yg(K:RB):R2:=λx y H Q=>∃p xs i v,x= .ref p/\y= .int i/\e_ K H p xs/\ui xs i=on v/\Q v H
def DW(K:RB):R2:=λx y H Q=>∃p xs i v,x= .ref p/\y= .int i/\il K H p xs/\ui xs i=on v/\Q v H
theorem fY:E_ X (yg X.K):=by
 intro g k c s n H x y v u Q I B C h hs;obtain⟨p,xs,i,z,rfl,rfl,F,J,q⟩:=h;cases B;obtain⟨t,rfl⟩:=C;obtain⟨its,r,pl,R⟩:=I.list F;obtain⟨j,f,L,T,N,O⟩:=xF J;obtain⟨w,o,l⟩:=r.get L;have P:=r.length;have hn:=kz;have d:EP X c n Q w s:=⟨z,H,I,l,q⟩;by_cases A:0<=i
 .have m:i.toNat=j:=by
   rw[seqIndex_of A O]at f;exact RO f
  exact item_listR pl.isList A (by omega) (by rw[m];simpa using o) d hs
 .have m:(i+(its.toArray.size:Int)).toNat=j:=by
   rw[seqIndex_neg (by omega) N]at f;rw[Rx,<-P];exact RO f
  exact W5 (x:=w) pl.isList.typeIs slot_list_getitem.lookup
   (wpAny_getItem_list_neg (Q:=λr s'=>r=w/\EP X c n Q r s') pl.isList (by omega) (by rw[Rx]<;>omega) (by omega) (by rw[m];simpa using o) ⟨rfl,d⟩) hs
theorem NQ:E_ X (DW X.K):=by
 intro d f c s l H x y v u Q I m n h hs;obtain⟨p,xs,i,z,rfl,rfl,o,A,q⟩:=h;cases m;obtain⟨t,rfl⟩:=n;obtain⟨its,r,pl,L⟩:=I.tuple o;obtain⟨j,B,C,N,O,P⟩:=xF A;obtain⟨w,F,g⟩:=r.get C;have J:=r.length;have hn:=kz;have k:EP X c l Q w s:=⟨z,H,I,g,q⟩;exact W5 (x:=w) pl.typeIs slot_tuple_getitem.lookup
  (getItem_tuple (j:=j) (Q:=λr s'=>r=w/\EP X c l Q r s') pl (by omega) (by omega) (by rw[Rx,<-J];exact B) (by simpa using F) ⟨rfl,k⟩) hs
theorem yt(its:List Ra)(n j:Nat)(u:Ra):Ta (·.setIfInBounds j u) {cls:= .type "list",data:= .seq its.toArray n}={cls:= .type "list",data:= .seq (its.set j u).toArray n}:=by
 simp[Ta]
theorem cy.lst{s:Rg}{xs:List V}(I:cy X ba σ H s)(h:H p=on (.lst xs)):
  ∃(its:List Ra) (n:Nat),au xs its/\s.heap.get? p=on {cls:= .type "list",data:= .seq its.toArray n}/\xs.length<=RF:=by
 obtain⟨z,its,n,r,e⟩:=I.hok p _ h;exact⟨its,n,r,e,z⟩
theorem cy.lstUpd{s:Rg}{xs ys:List V}{its its':List Ra}(I:cy X ba σ H s)(h:H p=on (.lst xs))
  (d:s.heap.get? p=on {cls:= .type "list",data:= .seq its.toArray n}) (c:f {cls:= .type "list",data:= .seq its.toArray n}={cls:= .type "list",data:= .seq its'.toArray n'}) (r:au ys its') (g:ys.length<=RF) (t:Nat):
  cy X ba σ (upd H p (.lst ys)) {s with heap:=s.heap.update p f,toks:=t}:=by
 have e:(s.heap.update p f).get? p=on {cls:= .type "list",data:= .seq its'.toArray n'}:=by
  rw[UE f d (by rw[c]<;>rfl),c]
 refine I.write (x:=p) (e:=p) (by rw[h];trivial) (.inl rfl) (λb u i q=>(YO _ _ (Ne.symm i)).trans q) ⟨_,e⟩ ?_;exact⟨g,its',n',r,e⟩
def yf:V->V->V->Hp->(Hp->Prop)->Prop:=λo i v H Q=>∃p xs k j,o= .ref p/\i= .int k/\H p=on (.lst xs)/\mm xs.length k=on j/\Q (upd H p (.lst (xs.set j v)))
theorem iQ:Pq X yf:=by
 intro c s C H o i v P R u Q I F J L h;obtain⟨p,xs,k,j,rfl,rfl,m,N,q⟩:=h;cases F;obtain⟨t,rfl⟩:=J;obtain⟨its,n,r,f,O⟩:=I.lst m;obtain⟨d,T,w,y⟩:=rD N;have g:=r.length;have hn:=kz;have A:cy X c C (upd H p (.lst (xs.set j v))) {s with heap:=s.heap.update p (Ta (·.setIfInBounds j u))}:=
  I.lstUpd m f (yt its n j u) (r.set L j) (by rw[RV];exact O) s.toks
 by_cases B:0<=k
 .have l:k.toNat=j:=by
   rw[seqIndex_of B y]at d;exact RO d
  exact PySem.W.ki_setAt f B (by omega) (by rw[Rx,<-g];exact y) (by rw[l];exact⟨_,A,q⟩)
 .have l:(k+(its.toArray.size:Int)).toNat=j:=by
   rw[seqIndex_neg (by omega) w]at d;rw[Rx,<-g];exact RO d
  exact PySem.W.ki_setBack f (by omega) (by rw[Rx,<-g];exact w) (by omega) (by rw[l];exact⟨_,A,q⟩)
theorem uA(lo hi:Option Int)(n:Nat):(UX lo hi QY n).1=((HT.sIx n 0 lo:Nat):Int)/\(UX lo hi QY n).2.1=((HT.sIx n n hi:Nat):Int)/\(UX lo hi QY n).2.2=1:=by
 refine⟨?_,?_,rfl⟩
 .cases lo with
  |none=>simp[UX,HT.sIx]
  |some i=>
   simp only[UX,HT.sIx,ZU,show(1:Int)>0 by decide,SA];by_cases h:i<0
   .simp only[h,SA]<;>omega
   .simp only[h,Sz]<;>omega
 .cases hi with
  |none=>simp[UX,HT.sIx]
  |some i=>
   simp only[UX,HT.sIx,ZU,show(1:Int)>0 by decide,SA];by_cases h:i<0
   .simp only[h,SA]<;>omega
   .simp only[h,Sz]<;>omega
theorem tz(its:List Ra)(lo hi:Option Int):Z7 its.toArray lo hi QY=((its.drop (HT.sIx its.length 0 lo)).take (HT.sIx its.length its.length hi-HT.sIx its.length 0 lo)).toArray:=by
 obtain⟨c,d,f⟩:=uA lo hi its.toArray.size;unfold Z7;rw[c,d,f];simp only[sliceRange_one,pick_run,Rx]<;>rfl
def rSlL(K:RB):V->Option Int->Option Int->Hp->VK->Prop:=λx lo hi H Q=>∃a xs,x= .ref a/\e_ K H a xs/\∀p,H p=QY->Q (.ref p) (upd H p (.lst (mX xs lo hi)))
theorem wG:SlR X (rSlL X.K):=by
 intro d s l H x v m n lo hi p Q I g hs pl i h;obtain⟨a,xs,rfl,j,q⟩:=h;cases g;obtain⟨its,r,f,k⟩:=I.list j;have c:=r.length;refine⟨"list",_,slot_list_getitem.lookup,f.isList.typeIs,?_⟩;refine ZL f.isList hs pl i .none (by simp) ?_ (by rw[Rx]<;>omega)
 rw[tz,<-c];refine⟨.ref s.heap.objs.size,_,I.laid (t':=s.toks) (o:= .lst (mX xs lo hi)) (λb t q=>Q3 _ q) (Rf _) ?_,rfl,q _ (I.hok.fresh (Rf _))⟩;exact⟨Ru (wj xs lo hi) k,_,0,(r.drop (HT.sIx xs.length 0 lo)).take (HT.sIx xs.length xs.length hi-HT.sIx xs.length 0 lo),Rw _ rfl⟩
noncomputable def gM:V->Bool
 | .non=>Q4
 | .bl _=>Q4
 | .int _=>Q4
 | .str _=>Q4
 |_=>Q9
noncomputable def Iv:V->V->Bool
 | .non,.non=>Q4
 | .bl a,.bl b=>a==b
 | .bl a,.int b=>(if a then 1 else 0)==b
 | .int a,.bl b=>a==(if b then 1 else 0)
 | .int a,.int b=>a==b
 | .str a,.str b=>a==b
 |_,_=>Q9
theorem N3(d:aT y u)(c:aT x v)(g:gM y=Q4)(f:gM x=Q4):SeqAt.EqAt A s u v (Iv y x):=by
 cases y with
 |non=>
  cases d;cases x with
  |non=>cases c;exact SeqAt.EqAt.same _
  |bl b=>cases c;exact SeqAt.EqAt.none_bool b
  |int b=>obtain⟨t,rfl⟩:=c;exact SeqAt.EqAt.none_int b t
  |str b=>obtain⟨t,rfl⟩:=c;exact SeqAt.EqAt.none_str b t
  |_=>exact RJ (show Q9=Q4 from f) Ri
 |bl a=>
  cases d;cases x with
  |non=>cases c;exact SeqAt.EqAt.bool_none a
  |bl b=>cases c;exact SeqAt.EqAt.bool_bool a b
  |int b=>obtain⟨t,rfl⟩:=c;exact SeqAt.EqAt.bool_int a b t
  |str b=>obtain⟨t,rfl⟩:=c;exact SeqAt.EqAt.bool_str a b t
  |_=>exact RJ (show Q9=Q4 from f) Ri
 |int a=>
  obtain⟨t',rfl⟩:=d;cases x with
  |non=>cases c;exact SeqAt.EqAt.int_none a t'
  |bl b=>cases c;exact SeqAt.EqAt.int_bool a t' b
  |int b=>obtain⟨t,rfl⟩:=c;exact SeqAt.EqAt.int_int a t' b t
  |str b=>obtain⟨t,rfl⟩:=c;exact SeqAt.EqAt.int_str a t' b t
  |_=>exact RJ (show Q9=Q4 from f) Ri
 |str a=>
  obtain⟨t',rfl⟩:=d;cases x with
  |non=>cases c;exact SeqAt.EqAt.str_none a t'
  |bl b=>cases c;exact SeqAt.EqAt.str_bool a t' b
  |int b=>obtain⟨t,rfl⟩:=c;exact SeqAt.EqAt.str_int a t' b t
  |str b=>obtain⟨t,rfl⟩:=c;exact SeqAt.EqAt.str_str a t' b t
  |_=>exact RJ (show Q9=Q4 from f) Ri
 |_=>exact RJ (show Q9=Q4 from g) Ri
def tx(x:V)(u:Ra):Bool:=match u with
 | .none=>Iv .non x
 | .bool b=>Iv (.bl b) x
 | .int i _=>Iv (.int i) x
 | .str z _=>Iv (.str z) x
 |_=>Q9
theorem BV(r:aT y u)(f:gM y=Q4):tx x u=Iv y x:=by
 cases y with
 |non=>cases r;rfl
 |bl b=>cases r;rfl
 |int i=>obtain⟨t,rfl⟩:=r;rfl
 |str z=>obtain⟨t,rfl⟩:=r;rfl
 |_=>exact RJ (show Q9=Q4 from f) Ri
theorem kG:∀{xs:List V} {us:List Ra},au xs us->xs.all gM=Q4->us.any (tx x)=xs.any λy=>Iv y x
 |_,_,.nil,_=>rfl
 |y::xs,u::us,.cons r t,f=>by
  rw[Xc,RZ]at f;rw[Wm,Wm,BV r f.1,kG t f.2]
theorem jf(c:aT x v)(d:gM x=Q4):∀{xs:List V} {us:List Ra},au xs us->xs.all gM=Q4->∀u∈us,SeqAt.EqAt A s u v (tx x u)
 |_,_,.nil,_=>λu hu=>by cases hu
 |y::xs,u::us,.cons r t,f=>λg hu=>by
  rw[Xc,RZ]at f;rcases Rq.mp hu with rfl|hu
  .rw[BV r f.1];exact N3 r c f.1 d
  .exact jf c d t f.2 g hu
def inV(x:V)(xs:List V):Bool:=xs.any λy=>Iv y x
def rIn(K:RB)(neg:Bool):R2:=λx y H Q=>∃p xs,y= .ref p/\(e_ K H p xs\/il K H p xs)/\gM x=Q4/\xs.all gM=Q4/\Q (.bl (if neg then !inV x xs else inV x xs)) H
theorem AF:fx X (SH .In) (rIn X.K Q9):=by
 intro d s k H x y v u Q I f i h;obtain⟨p,xs,rfl,hq,g,fs,q⟩:=h;cases i;rcases hq with hq|hq
 .obtain⟨its,r,pl,j⟩:=I.list hq
  refine SeqAt.in_listAt (tx x) pl.isList (λw c=>jf f g r fs w (by simpa using c)) ⟨.bl _,H,I,rfl,?_⟩;rw[show its.toArray.any (tx x)=its.any (tx x) by simp,kG r fs];exact q
 .obtain⟨its,r,pl,j⟩:=I.tuple hq
  refine SeqAt.in_tupleAt (tx x) pl (λw c=>jf f g r fs w (by simpa using c)) ⟨.bl _,H,I,rfl,?_⟩;rw[show its.toArray.any (tx x)=its.any (tx x) by simp,kG r fs];exact q
theorem uT:fx X (SH .NotIn) (rIn X.K Q4):=by
 intro d s k H x y v u Q I f i h;obtain⟨p,xs,rfl,hq,g,fs,q⟩:=h;cases i;rcases hq with hq|hq
 .obtain⟨its,r,pl,j⟩:=I.list hq
  refine SeqAt.notIn_listAt (tx x) pl.isList (λw c=>jf f g r fs w (by simpa using c)) ⟨.bl _,H,I,rfl,?_⟩;rw[show its.toArray.any (tx x)=its.any (tx x) by simp,kG r fs];exact q
 .obtain⟨its,r,pl,j⟩:=I.tuple hq
  refine SeqAt.notIn_tupleAt (tx x) pl (λw c=>jf f g r fs w (by simpa using c)) ⟨.bl _,H,I,rfl,?_⟩;rw[show its.toArray.any (tx x)=its.any (tx x) by simp,kG r fs];exact q
theorem m4:dJ X (.builtin "len") (λxs H Q=>∃p ys,xs=[.ref p]/\(e_ X.K H p ys\/il X.K H p ys)/\Q (.int ys.length) H):=by
 intro f s j H xs us Q I r h;obtain⟨p,ys,rfl,hq,q⟩:=h;obtain⟨u,rfl,g⟩:=kK r;cases g;have hn:=kz;rcases hq with hq|hq
 .obtain⟨its,d,pl,i⟩:=I.list hq
  have c:=d.length;exact Calls.call_len_list pl.isList (by simp only[Rx]<;>omega) ⟨.int ys.length,H,I.tok _,⟨s.toks+1,by rw[Rx,c]⟩,q⟩
 .obtain⟨its,d,pl,i⟩:=I.tuple hq
  have c:=d.length;exact len_tuple pl (by simp only[Rx]<;>omega) ⟨.int ys.length,H,I.tok _,⟨s.toks+1,by rw[Rx,c]⟩,q⟩
theorem bJ:dJ X (.type "list") (λxs H Q=>∃p ys,xs=[.ref p]/\(e_ X.K H p ys\/il X.K H p ys)/\∀l,H l=QY->Q (.ref l) (upd H l (.lst ys))):=by
 intro f s v H xs us Q I r h;obtain⟨p,ys,rfl,hq,q⟩:=h;obtain⟨u,rfl,y⟩:=kK r;cases y
 have g:∀(its:List Ra),au ys its->ys.length<=RF->∀(h':SE) (c:Nat),(∀b t,s.heap.get? b=on t->h'.get? b=on t)->
   h'.get? s.heap.objs.size=on {cls:= .type "list",dict:=QY,data:= .seq its.toArray c,slots:=#[]}->EP X f v Q (.ref s.heap.objs.size) {s with heap:=h'}:=λits d i h' c kp e=>
  ⟨.ref s.heap.objs.size,_,I.laid (t':=s.toks) kp (Rf _) (show cL X.prog X.w _ h' _ (.lst ys)from⟨i,its,c,d,e⟩),rfl,q _ (I.hok.fresh (Rf _))⟩
 rcases hq with hq|hq
 .obtain⟨its,d,pl,i⟩:=I.list hq
  have j:=d.length;obtain⟨o,k,m,n,hd⟩:=pl.isList;exact call_list_seq p (.inl rfl) k m hd (λh' c kp e=>g its d i h' c kp e) (by simp only[Rx]<;>omega)
 .obtain⟨its,d,pl,i⟩:=I.tuple hq
  have j:=d.length;obtain⟨o,k,m,n,hd⟩:=pl;exact call_list_seq p (.inr rfl) k m hd (λh' c kp e=>g its d i h' c kp e) (by simp only[Rx]<;>omega)
theorem cR:dJ X (.type "tuple") (λxs H Q=>∃p ys,xs=[.ref p]/\((e_ X.K H p ys/\∀l,H l=QY->Q (.ref l) (upd H l (.tup ys)))\/(il X.K H p ys/\Q (.ref p) H))):=by
 intro c s g H xs us Q I r h;obtain⟨p,ys,rfl,h⟩:=h;obtain⟨u,rfl,m⟩:=kK r;cases m;rcases h with⟨d,q⟩|⟨d,q⟩
 .obtain⟨its,f,pl,i⟩:=I.list d
  have j:=f.length;refine call_tuple_list pl.isList (λh' kp=>?_) (by simp only[Rx]<;>omega)
  have k:cy X c g H {s with heap:=h'}:=I.kept (t':=s.toks) kp;have n:cy X c g (upd H h'.objs.size (.tup ys)) {s with heap:=h'.push {cls:= .type "tuple",data:= .seq its.toArray}}:=
   k.laid (t':=s.toks) (λb o e=>Q3 _ e) (Rf _) (show cL X.prog X.w _ _ _ (.tup ys)from⟨i,its,f,IsTup.new _ _⟩)
  exact⟨.ref h'.objs.size,_,n,rfl,q _ (k.hok.fresh (Rf _))⟩
 .obtain⟨its,f,pl,i⟩:=I.tuple d
  exact call_tuple_same pl ⟨.ref p,H,I,rfl,q⟩
def tyV(K:RB)(T:String)(x:V)(H:Hp):Prop:=match x with
 | .str _=>T="str"
 | .int _=>T="int"
 | .ref p=>(T="list"/\∃xs,e_ K H p xs)\/(T="tuple"/\∃o,K.lookup p=on o/\o.cls= .type "tuple"/\o.dict=QY)
 |_=>False
theorem Mz{s:Rg}(I:cy X ba σ H s)(r:aT x v)(ty:tyV X.K T x H):
  s.TypeIs v T/\∀a,v= .ref a->∃d,s.heap.get? a=on d/\d.dict=QY:=by
 cases x with
 |str z=>
  obtain⟨t,rfl⟩:=r;cases(show T="str"from ty);exact⟨typeIs_str s z t,λ_ e=>nomatch e⟩
 |int i=>
  obtain⟨t,rfl⟩:=r;cases(show T="int"from ty);exact⟨typeIs_int s i t,λ_ e=>nomatch e⟩
 |ref p=>
  cases r;rcases ty with⟨rfl,xs,g⟩|⟨rfl,o,f,h,hd⟩
  .obtain⟨its,_,pl,_⟩:=I.list g
   refine⟨pl.isList.typeIs,λa e=>?_⟩;cases e;obtain⟨o,n,e,c,hd,_⟩:=pl;exact⟨o,e,hd⟩
  .refine⟨⟨o,I.kIn p o f,h⟩,λa e=>?_⟩
   cases e;exact⟨o,I.kIn _ o f,hd⟩
 |_=>exact Tu ty
def tBM(K:RB)(T:String)(r:V->List V->Hp->VK->Prop)(to:TE)(t:TA):TE:=λc H Q=>to c H λx d=>tyV K T x d/\t c d λxs f=>r x xs f Q
variable{o:Expr}{es:List Expr}{to:TE}{t:TA}{name:R3}{apos cpos:Vy}{T id:String}{r:V->List V->Hp->VK->Prop}
theorem nN(n:PlainAttrs T)(slot:Slot T name id)(j:typeOf (.builtin id)=T0 (.type "method_descriptor"))(hm:MtR X id r)(p:PE X o to)(ha:PA X (e::es) t)
  (f:Ve o name X.env (Sw o X.env)=Sw o X.env:=by rfl)
  (i:((Tx cpos (Rm (e::es) X.env)).all (λx=>!x.1)&&(Uj cpos (Th [] X.env)).all (λx=>x.1.isSome)
   &&decide ((e::es).length+([]:List WH).length+(if([]:List WH).isEmpty then 0 else 1)<30))=Q4:=by rfl)
  (g:(apos.endLine==cpos.line)=Q4:=by rfl) (hs:Rm (e::es) X.env=(Q9,Sw e X.env)::Rm es X.env:=by rfl) (d:(Tx cpos (Rm es X.env)).any (·.1)=Q9:=by rfl):
  PE X (.Call (.Attribute o name apos) (e::es) [] cpos) (tBM X.K T r to t):=by
 intro c s k H Q I h;refine wpAny_Call_method_late f i g rfl (ee (p c s k H _ I h) λv q ⟨x,u,l,r1,ty,q1⟩=>?_);obtain⟨w,y⟩:=Mz l r1 ty;refine⟨T,id,n,slot,j,w,y,?_⟩;have m:=ha cpos c q k u _ l q1;rw[hs]at m⊢;refine WD (by show(Q9||(Tx cpos (Rm es X.env)).any (·.1))=Q9;rw[d]<;>rfl) (YW ?_)
 exact ee m λus A ⟨vs,B,C,F,q2⟩=>hm c A k B x vs v us Q C r1 F q2
def MtM(X:Cx)(id:String)(r:V->List V->Hp->VK->Prop):Prop:=
 ∀(c:List (Q6×RA)) (s:Rg) (d:St) (H:Hp) (x:V) (xs:List V) (v:Ra) (us:List Ra) (Q:VK),cy X c d H s->aT x v->au xs us->r x xs H Q->
  Rt (RN X.prog X.w) X.A (XN (.builtin id) (v::us)) (EP X c d Q) X.xe s
theorem au.one:∀{x:V} {us:List Ra},au [x] us->∃u,us=[u]/\aT x u
 |_,_,.cons r .nil=>⟨_,rfl,r⟩
theorem au.eraseIdx:∀{xs:List V} {us:List Ra} (i:Nat),au xs us->au (xs.eraseIdx i) (us.eraseIdx i)
 |_,_,_,.nil=> .nil
 |_,_,0,.cons _ t=>t
 |_,_,i+1,.cons r t=> .cons r (au.eraseIdx i t)
theorem au.reverse{xs:List V}{us:List Ra}(h:au xs us):au xs.reverse us.reverse:=by
 induction h with
 |nil=>exact .nil
 |cons r t ih=>rw[Wf,Wf];exact au.append ih (.cons r .nil)
theorem au.rep(h:au xs us):∀k:Nat,au (Rr k xs).flatten (Rr k us).flatten
 |0=> .nil
 |k+1=>by
  rw[SN,SN,Ud,Ud];exact au.append h (au.rep h k)
theorem sM(its:List Ra):∀(k:Nat) (acc:List Ra),
  ZQ (λc d=>c++d) acc.toArray (Rr k its.toArray)=(acc++(Rr k its).flatten).toArray
 |0,acc=>by simp
 |k+1,acc=>by
  have e:acc.toArray++its.toArray=(acc++its).toArray:=by simp
  have f:(acc++its)++(Rr k its).flatten=acc++(Rr (k+1) its).flatten:=by
   rw[SN,Ud,Sm]
  rw[<-f,<-sM its k (acc++its),<-e,SN,List.foldl_cons]
end
section
variable{X:Cx}{ba:List (Q6×RA)}{σ:St}{H:Hp}{s:Rg}{l b:Q6}{xs ys zs:List V}
theorem cy.lset{its its':List Ra}(I:cy X ba σ H s)(a:H l=on (.lst xs))
  (e:s.heap.get? l=on {cls:= .type "list",data:= .seq its.toArray n}) (c:f its.toArray=its'.toArray) (d:au ys its') (g:ys.length<=RF):
  cy X ba σ (upd H l (.lst ys)) {s with heap:=s.heap.update l (Ta f),toks:=t'}:=by
 have q:=PySem.IsL.update e f;rw[c]at q;refine I.write (x:=l) (e:=l) (by rw[a];exact trivial) (.inl rfl) (λj u h i=>(YO s.heap (Ta f) (Ne.symm h)).trans i) ⟨_,q⟩ ?_;exact⟨g,its',_,d,q⟩
theorem cy.lnew{its:List Ra}(I:cy X ba σ H s)(a:au ys its)(c:ys.length<=RF):
  cy X ba σ (upd H s.heap.objs.size (.lst ys)) {s with heap:=s.heap.push {cls:= .type "list",data:= .seq its.toArray},toks:=t'}:=
 I.laid (λ_ _ q=>Q3 _ q) (Rf _) ⟨c,its,0,a,Rw _ rfl⟩
theorem cy.fresh(I:cy X ba σ H s):H s.heap.objs.size=QY:=I.hok.fresh (Rf _)
theorem cy.lstM(I:cy X ba σ H s)(a:H l=on (.lst xs)):xs.length<=RF/\∃(its:List Ra) (n:Nat),au xs its/\xs.length=its.length/\s.heap.get? l=on {cls:= .type "list",data:= .seq its.toArray n}:=by
 obtain⟨z,its,n,r,e⟩:=I.hok l _ a;exact⟨z,its,n,r,r.length,e⟩
theorem EM(h:n<=RF):VC n=Q9:=by
 unfold VC;exact RY (by omega)
def wO:V->List V->Hp->VK->Prop:=λx vs H Q=>∃l xs y,x= .ref l/\vs=[y]/\H l=on (.lst xs)/\xs.length<RF/\Q .non (upd H l (.lst (xs++[y])))
theorem fX:MtM X "list.append" wO:=by
 intro ba s σ H x vs v us Q I c d h;obtain⟨l,xs,y,rfl,rfl,a,g,q⟩:=h;cases c;obtain⟨u,rfl,f⟩:=d.one;obtain⟨z,its,n,r,i,e⟩:=I.lstM a;refine Y8 F.slot_list_append ⟨_,e,rfl⟩ F.entry_list_append (Z8 _ _) (Z0 l its.toArray n u (by rw[Rx];omega)) ⟨e,?_⟩;refine⟨.non,_,I.lset (its':=its++[u]) a e (by simp) (r.append (.cons f .nil)) ?_,rfl,q⟩;rw[Ro,Sd];omega
noncomputable def rCat:R2:=λx y H Q=>∃l b xs zs,x= .ref l/\y= .ref b/\H l=on (.lst xs)/\H b=on (.lst zs)/\xs.length+zs.length<=RF/\∀p,H p=QY->Q (.ref p) (upd H p (.lst (xs++zs)))
theorem Ny:fx X (Uk .Add) rCat:=by
 intro ba s σ H x y v u Q I c d h;obtain⟨l,b,xs,zs,rfl,rfl,f,hB,m,q⟩:=h;cases c;cases d;obtain⟨z,its,n,r,o,e⟩:=I.lstM f;obtain⟨p,a,t,g,i,j⟩:=I.lstM hB;refine ZD e j ?_ (by rw[Rx,Rx];omega);have k:its.toArray++a.toArray=(its++a).toArray:=by simp
 rw[k];exact⟨.ref _,_,I.lnew (t':=s.toks) (r.append g) (by rw[Ro];omega),rfl,q _ I.fresh⟩
noncomputable def rRep:R2:=λx y H Q=>∃l k xs,x= .ref l/\y= .int k/\H l=on (.lst xs)/\-(2^63)<=k/\k<2^63/\xs.length*k.toNat<=RF/\
 ∀p,H p=QY->Q (.ref p) (upd H p (.lst (Rr k.toNat xs).flatten))
theorem LX{α:Type}(xs:List α)(k:Nat):(Rr k xs).flatten.length=k*xs.length:=by
 induction k with
 |zero=>simp
 |succ k ih=>rw[SN,Ud,Ro,ih,Y2,WP]
theorem Nq:fx X (Uk .Mult) rRep:=by
 intro ba s σ H x y v u Q I w A h;obtain⟨l,k,xs,rfl,rfl,B,C,J,p,q⟩:=h;cases w;obtain⟨t,rfl⟩:=A;obtain⟨z,its,n,r,L,e⟩:=I.lstM B;have d:its.toArray.size*k.toNat<=RF:=by rw[Rx,<-L];exact p
 have f:¬its.toArray.size*k.toNat>(2^63-1)/8:=by
  have:(RF:Nat)<=(2^63-1)/8:=by decide
  omega
 have g:¬(!Builtin.List.listFitsIndex k)=Q4:=by
  rw[fitsIndex_both C J];exact Ri
 have c:¬VC (its.toArray.size*k.toNat)=Q4:=by
  rw[EM d];exact Ri
 have i:ZQ (λj o=>j++o) #[] (Rr (if its.toArray.isEmpty=Q4 then 0 else k.toNat) its.toArray)=(Rr k.toNat its).flatten.toArray:=by
  have N:∀m:Nat,ZQ (λj o=>j++o) #[] (Rr m its.toArray)=(Rr m its).flatten.toArray:=λm=>by
   have:=sM its m [];rw[Ub]at this;exact this
  rw[N];cases its with
  |nil=>simp
  |cons a O=>rw[Q8 (by simp)]
 refine wpAny_binaryOp_repeat_ref (T:="list") (U:="int") (by decide) ⟨_,e,rfl⟩ (λs'=>typeIs_int s' k t) noFill_list_mul F.fills_int_mul F.slot_int_rmul repeat_list F.slot_int_index.lookup
  (Y8 F.slot_int_rmul (typeIs_int s k t) F.entry_int_rmul (F.args_int_rmul_2 _ _) (int___rmul___int_list k t l its.toArray n)
   ⟨e,rfl,⟨_,e,rfl⟩,Y8 F.slot_list_mul ⟨_,e,rfl⟩ F.entry_list_mul (F.args_list_mul_2 _ _) (AutoListH.list___mul___list_int_3 l its.toArray n k t g f c) ⟨e,?_⟩⟩)
 rw[i];exact⟨.ref _,_,I.lnew (t':=s.toks) (r.rep k.toNat) (by rw[LX,SD];exact p),rfl,q _ I.fresh⟩
variable{prog:RT}{w:R8}{A:SB}{E:Ra->Rg->Prop}
end
end L2
namespace Att
open PySem PySem.W PySem.Calls PyProof.Rows
theorem qx:∀(ns:List Int) (vs:List Ra),WellAll P h vs (ns.map WData.int)->YQ vs ns:=by
 intro ns
 induction ns with
 |nil=>
  intro vs w;rw[Ue]at w;cases w;exact .nil
 |cons n ns ih=>
  intro vs w;rw[Rk]at w;cases w with
  |cons a b=>
   cases a;exact .cons _ _ (ih _ b)
theorem zL{l:OpenLaw}(hn:l.most=on n){h:SE}
  (b:l.row.toRowW.claim.pre args=Q4) (g:WellAll P h vals args):
  ∃a vs ns,vals=[RI a]/\args=[WData.list (ns.map WData.int)]/\h.get? a=on {cls:= .type "list",data:= .seq vs.toArray}/\YQ vs ns/\ns.length<=n:=by
 have hsh:WShape.hasAll [] args [.list .int]=Q4:=(pre_splitW b).1;have i:l.pre.holds [] {args:=args}=Q4:=(pre_splitW b).2;obtain⟨d,r,rfl,j,k⟩:=hasAllW_cons hsh;obtain rfl:=hasAllW_nil k;obtain⟨xs,rfl,m⟩:=hasW_list j;obtain⟨ns,rfl⟩:=items_int m;have c:ns.length<=n:=by
  unfold OpenLaw.pre at i;have e:(WTm.not (.lt (.lit (.int (n:Int))) (.len (.arg 0)))).holds [] {args:=[.list (ns.map .int)]}=Q4:=by
   have e:=(holds_andW i).1;rw[hn]at e;exact e
  have f:=condW_of e (w_not (w_lt w_lit (w_len_list (w_arg rfl))));rw[QX]at f;refine Nat.le_of_not_lt λq=>?_;have o:(n:Int)<((ns.length:Nat):Int):=by omega
  first
   |(rw[Rv o]at f;exact RJ f (by decide))
   |(simp at f;omega)
 cases g with
 |cons p t=>
  cases t;cases p with
  |list ho hall=>exact⟨_,_,ns,rfl,rfl,ho,qx ns _ hall,c⟩
theorem z9(l:OpenLaw)(args:List WData):l.row.toRowW.claim.post args (.bool Q4) args=Q4:=
 postW_of (r:=l.row.toRowW) (X:=(Q4==Q4))
  (show WShape.has [] (.bool Q4) .bool=Q4 by first|rfl|decide|simp[WShape.has,WShape.arms,WShape.armsAll])
  (show(WTm.eq .res (.lit (.bool Q4))).value [] {args:=args,res:=on (.bool Q4),after:=args}=on (.bool (Q4==Q4))from w_eq_bool (w_res rfl) w_lit) rfl
theorem attach_call{l:OpenLaw}{d:DefRec}
  (hn:l.most=on n) (k:d.params.defaults=[])
  (XN:∀(w:R8) (s₀ b:Rg) (mg m:R3->Option Ra) (g:Q6) (o:RA) (p cd c:Ra) (a:Q6) (vs:List Ra) (ns:List Int),
   Ground q loose [] XP w s₀ mg m b.heap->YP w b.heap->
   b.heap.get? g=on o->o.data= .func (docDef d.name d.params d.body d.scope p cd c)->b.heap.CodeRec cd d.name->mg d.name=on (.ref g)->
   b.heap.get? a=on {cls:= .type "list",data:= .seq vs.toArray}->YQ vs ns->ns.length<=n->b.gens=#[]->
   Vh (RN l.prog w) X8 (.call (.ref g) ⟨[.ref a],[]⟩) (λr s'=>r= .ok (.ret (.bool Q4))/\OldK b.heap s'.heap/\s'.os=b.os/\Wc s'.gens) b):
  WalkO q loose XP YP l.row.toRowW d [] (λf vs=>ZG f vs):=by
 intro w s₀ b mg m G Y g o p cd c B C F hd t y u H args vals as h A I v J;obtain rfl:B= .none:=Dflts.none y k;obtain rfl:C= .none:=Dflts.noKw y;obtain⟨a,vs,ns,rfl,rfl,i,e,j⟩:=zL hn h v;refine enter_call (Vs (XN w s₀ b mg m g o p cd c a vs ns G Y F (fd_plain hd) t u i e j H) λr s' L=>?_);obtain⟨rfl,N,O,P⟩:=L;exact⟨.inl ⟨.bool Q4,.bool Q4,[],rfl,λ_=>rfl,.bool Q4,z9 l _,λ_=>⟨WN,λ_ hm=>(nomatch hm)⟩⟩,N,O,P⟩
section
variable{prog:RT}{w:R8}{A:SB}{E:Ra->Rg->Prop}{s:Rg}{K:RB}
end
end Att
namespace L2
open PySem PySem.Spec PyProof.Rows
theorem rT:∀{vs:List Ra} {ns:List Int},YQ vs ns->au (ns.map V.int) vs
 |_,_,.nil=> .nil
 |_,_,.cons n t h=> .cons ⟨t,rfl⟩ (rT h)
def IY(H:Hp):Prop:=∀b,H b=QY\/∃o xs,H b=on (.frz o (.lst xs))
theorem FI{K:RB}{c:Rg}{vs:List Ra}{ns:List Int}
  (R:K.In c.heap) (p:c.heap.Ns TL mg) (g:c.heap.Ns Y7 mb) (I:∀x:R3,x≠"__name__"->mb x=U5 x) (t:c.heap.NoLimit) (hg:c.gens=#[])
  (ha:c.heap.get? a=on {cls:= .type "list",data:= .seq vs.toArray}) (T:YQ vs ns) (U:ns.length<=RF) (hr:ef k X8)
  (F:∀base:SE,K.In base->base.Ns TL mg->fh P w K mg base CX k fa fd [x] sp) (l:∀(s:Rg) (u:Ra),Xq s fd ⟨[u],[]⟩ [(x,u)])
  (J:∀H:Hp,IY H->e_ K H a (ns.map V.int)->sp [.ref a] H (λv _=>v= .bl Q4) λ_ _ _=>False)
  (L:∀H e s',CX [] H c (λ_ _ _=>False) e s'->False):
  Vh (RN P w) X8 (.call (.ref fa) ⟨[.ref a],[]⟩) (λr s'=>r= .ok (.ret (.bool Q4))/\OldK c.heap s'.heap/\s'.os=c.os/\Wc s'.gens) c:=by
 have W:=rT T;have y:=T.length
 --from an abstract heap in which nothing but the script may be tracked
 have j:∀H:Hp,IY H->e_ K H a (ns.map V.int)->lb P w H c.heap->(∀b,H b≠QY->b=a)->(H a≠QY->K.lookup a=QY)->
   Vh (RN P w) X8 (.call (.ref fa) ⟨[.ref a],[]⟩) (λr s'=>r= .ok (.ret (.bool Q4))/\OldK c.heap s'.heap/\s'.os=c.os/\Wc s'.gens) c:=by
  intro H X hS hok Y hK;have f:∀{b:Q6} {o:RA},c.heap.get? b=on o->H b=QY->(lf c.heap H).get? b=on o:=λe n=>FT e n;have N:∀{b:Q6} {o:RA} {es:Array U3} {ep:Nat},c.heap.get? b=on o->o.data= .dict es ep->H b=QY:=λ{b o es ep} e d=>by
   cases q:H b with
   |none=>rfl
   |some u=>
    have O:b=a:=Y b (by rw[q];simp);subst O;rw[ha]at e;cases e;have d':Data.seq vs.toArray _=Data.dict es ep:=d;cases d'
  have i:∀{b:Q6} {m:R3->Option Ra},c.heap.Ns b m->(lf c.heap H).Ns b m:=λ{b m} ⟨o,es,ep,e,d,r⟩=>⟨o,es,ep,f e (N e d),d,r⟩;have A:K.In (lf c.heap H):=λb o e=>f (R b o e) (by
   cases q:H b with
   |none=>rfl
   |some u=>
    have O:b=a:=Y b (by rw[q];simp);subst O;rw[hK (by rw[q];simp)]at e;cases e)
  have hM:Mod K mg (lf c.heap H):=⟨A,i p,⟨mb,i g,I⟩,let ⟨mc,h1,h2⟩:=t;⟨mc,i h1,h2⟩⟩
  have e0:vm P w K mg (lf c.heap H) X8 [] c H:=⟨rfl,hM,λb o e=>LH e,Nat.le_of_eq (BP _ _),trivial,λb g=>RJ (show b∈([]:List Q6)from g) (by simp),hok,.of_eq hg⟩;refine Vs ((F _ A (i p)).run X8 [] c H ⟨[.ref a],[]⟩ [.ref a] [.ref a] _ _ hr e0 (l c (.ref a)) (.cons rfl .nil) (J H X hS)) λr s' h=>?_;cases r with
  |error e=>exact(L H e s' h).elim
  |ok fl=>
   cases fl with
   |next=>exact Tu h
   |brk=>exact Tu h
   |cont=>exact Tu h
   |ret u=>
    obtain⟨v,H',os,bare,un,B,r',q⟩:=h;have q':v= .bl Q4:=q;subst q';obtain rfl:u=X6 Q4:=r';refine⟨rfl,OldK.of_keep λb o e=>?_,os,bare⟩;cases q:H b with
    |none=>exact un.keep b o e q (by intro z;exact RJ (show b∈([]:List Q6)from z) (by simp)) (by simp)
    |some u=>
     rcases X b with z|⟨ob,xs,z⟩
     .rw[q]at z;cases z
     .have z2:=un.frzs b ob _ z
      obtain⟨Z,_⟩:=hok b _ z;obtain⟨e2,_⟩:=B b _ z2;rw[e]at Z;cases Z;exact e2
 cases Q:K.lookup a with
 |some o=>
  --the script is one of the module's own objects
  have e:=R a o Q;rw[ha]at e;cases e;refine j (λ_=>QY) (λ_=> .inl rfl) (.inr ⟨_,vs.toArray,_,Q,rfl,rfl,rfl,by rw[Rx,y];exact U,by simpa using W⟩) (λb u z=>by have C:(QY:Option HO)=on u:=z;cases C) (λb z=>RJ rfl z) λz=>RJ rfl z
 |none=>
  refine j (λb=>if b=a then on (.frz {cls:= .type "list",data:= .seq vs.toArray} (.lst (ns.map V.int)))else QY) (λb=>?_) (.inl (.inr ⟨{cls:= .type "list",data:= .seq vs.toArray},Rb rfl⟩)) (λb u z=>?_) (λb z=>?_) λ_=>Q
  .by_cases g:b=a
   .exact .inr ⟨_,_,Rb g⟩
   .exact .inl (Q8 g)
  .by_cases g:b=a
   .have C:=(Rb g).symm.trans z
    cases C;subst g;exact⟨ha,by rw[QX];exact U,vs,_,W,ha⟩
   .have C:=(Q8 g).symm.trans z
    cases C
  .by_cases g:b=a
   .exact g
   .exact RJ (Q8 g) z
theorem walk_of{l:PySem.W.OpenLaw}{n k:Nat}{q:RT}{loose:List R3}{XP:(R3->Option Ra)->SE->Prop}{YP:R8->SE->Prop}{d:DefRec}{K:Yp->RB}{CX:R8->F_}{sp:R8->Sp}{x:R3}
  (hn:l.most=on n) (r:n<=RF) (t:d.params.defaults=[]) (J:ef k X8)
  (L:∀(w:R8) (h:SE),YP w h->(K w.params).In h)
  (F:∀(w:R8) (mg:R3->Option Ra) (p:Q6) (h:SE),(K w.params).In h->h.Ns TL mg->mg d.name=on (.ref p)->
   ∃B:RG,(∀(s:Rg) (u:Ra),Xq s B ⟨[u],[]⟩ [(x,u)])/\
    ∀base:SE,(K w.params).In base->base.Ns TL mg->fh l.prog w (K w.params) mg base (CX w) k p B [x] (sp w))
  (y:∀(w:R8) (H:Hp) (a:Q6) (ns:List Int),ns.length<=n->IY H->e_ (K w.params) H a (ns.map V.int)->sp w [.ref a] H (λv _=>v= .bl Q4) λ_ _ _=>False)
  (A:∀(w:R8) (H:Hp) (s:Rg) (e:Ra) (s':Rg),CX w [] H s (λ_ _ _=>False) e s'->False):
  PySem.W.WalkO q loose XP YP l.row.toRowW d [] (λf vs=>ZG f vs):=by
 refine Att.attach_call hn t λw s₀ j mg X p o Z cd N a vs ns G Y ho hd O C m i c P=>?_;have I:=L w _ Y;obtain⟨B,Q,hF⟩:=F w mg p _ I G.T.g C;exact FI I G.T.g G.T.b G.T.builtins G.T.nolimit P m i (Ru c r) J hF Q (λH R U=>y w H a ns c R U) λH e s'=>A w H j e s'
noncomputable def af(s:Sy)(j:Nat):Sy:=match s with
 | .ClassDef _ _ _ body _ _ _ _ _ _ _=>body.getD j (.Pass ⟨0,0,0,0⟩)
 |_=> .Pass ⟨0,0,0,0⟩
noncomputable def iM(s:Sy):Arguments:=match s with
 | .FunctionDef _ a _ _ _ _ _ _ _ _=>a
 |_=>{posonlyargs:=[],args:=[],vararg:=QY,kwonlyargs:=[],kw_defaults:=[],kwarg:=QY,defaults:=[]}
noncomputable def c8(s:Sy):List Sy:=match s with
 | .FunctionDef _ _ b _ _ _ _ _ _ _=>b
 |_=>[]
noncomputable def ae(s:Sy):Scope:=match s with
 | .FunctionDef _ _ _ _ _ _ sc _ _ _=>sc
 |_=>{kind:= .function,names:=[],isGenerator:=Q9,isCoroutine:=Q9}
abbrev E0:St->XK:=λ_ _ _ _=>False
structure Fun (K:RB) (x qual:R3) (st:Sy) (f:Q6) (fd:RG):Prop where
 ex:∃(oc:Ra) (od:Option Q6) (kV doc pm:Ra) (an:Option Q6) (cdv ct:Ra) (osl:Array (Option Ra)),
  fd=Va x qual (iM st) (c8 st) (ae st) .none kV doc pm an cdv ct/\K.lookup f=on ⟨oc,od,.func fd,osl⟩/\VH K cdv qual=Q4
 kp:WS K (.ref f)=Q4
section
variable{P:RT}{w:R8}{K:RB}{mg:R3->Option Ra}{base:SE}
theorem t0{A:SB}(a:ef k A):A.units+1<Wu:=Tl (ZT (by decide:1<=64) _) a.units
theorem se(h:n<=1000):n<RF:=Tl h (by decide)
variable{X:Cx}
theorem pv(i:Nat)(b:X.N[i]?=on x:=by rfl)(c:Vis X.env.scope x:=by first|exact Tg rfl|exact T5 (Tg rfl)|exact T5 (T5 rfl))(hd:(x==("__debug__":R3))=Q9:=by decide)
  (a:(x==("__classdict__":R3))=Q9:=by decide):PE X (.Name x pos) (lY i):=Nk b c hd a
theorem iteT{A B:Prop}(h:A):if Q4=Q4 then A else B:=by
 rw[Rb rfl];exact h
theorem ite2{c A B:Prop} [Decidable c](a:c->A)(b:¬c->B):if c then A else B:=by
 by_cases h:c
 .rw[Rb h]
  exact a h
 .rw[Q8 h]
  exact b h
def bK(H a:Hp):Prop:=∀b o,H b=on o->a b=on o
theorem bK.refl(H:Hp):bK H H:=λ_ _ h=>h
theorem bK.trans(a:bK H H1)(b:bK H1 H2):bK H H2:=λc o h=>b c o (a c o h)
theorem bK.free(e:bK H H')(h:H' l=Option.none):H l=Option.none:=by
 cases q:H l with
 |none=>rfl
 |some o=>
  rw[e l o q]at h;cases h
theorem dB:∀(names:List (R3×UV)) (n:Nat) (acc:List (R3×Q6)),Tc n names acc=Tc n names []++acc
 |[],_,_=>rfl
 |(x,k)::r,n,acc=>by
  unfold Tc;split
  .rw[dB r (n+1) ((x,n)::acc),dB r (n+1) [(x,n)],Sm]
   rfl
  .exact dB r n acc
theorem ig:∀{names:List (R3×UV)} {n:Nat} {x:R3} {c:Q6},(x,c)∈Tc n names []->(x,XZ)∈names
 |[],_,_,_,h=>by cases h
 |(y,k)::r,n,x,c,h=>by
  unfold Tc at h;split at h
  .rename_i a
   rw[dB]at h;rcases S4.mp h with h|h
   .exact Q1 _ (ig h)
   .obtain⟨rfl,_⟩:x=y/\c=n:=by simpa using h
    obtain rfl:k= .cell:=by simpa using a
    exact Q7
  .exact Q1 _ (ig h)
noncomputable def dm(cells:List (R3×Q6)):List (R3×UV)->List (R3×Q6)->List (R3×Q6)
 |[],acc=>acc
 |(x,k)::r,acc=>if k== .free then dm cells r ((x,(cells.lookup x).getD 0)::acc)else dm cells r acc
theorem lr{cells:List (R3×Q6)}:∀{names:List (R3×UV)} {acc:List (R3×Q6)} {x:R3} {c:Q6},(x,c)∈dm cells names acc->(x,c)∈acc\/((x,T9)∈names/\c=(cells.lookup x).getD 0)
 |[],_,_,_,h=> .inl h
 |(y,k)::r,acc,x,c,h=>by
  unfold dm at h;split at h
  .rename_i a
   obtain rfl:k= .free:=by simpa using a
   rcases lr h with h|⟨h,e⟩
   .rcases Rq.mp h with h|h
    .cases h
     exact .inr ⟨Q7,rfl⟩
    .exact .inl h
   .exact .inr ⟨Q1 _ h,e⟩
  .rcases lr h with h|⟨h,e⟩
   .exact .inl h
   .exact .inr ⟨Q1 _ h,e⟩
theorem pk:∀{names:List (R3×UV)} {acc:List (R3×Q6)} {p:R3×Q6},p∈acc->p∈dm cells names acc
 |[],_,_,h=>h
 |(y,k)::r,acc,p,h=>by
  unfold dm;split
  .exact pk (Q1 _ h)
  .exact pk h
theorem pi{cells:List (R3×Q6)}:∀{names:List (R3×UV)} {acc:List (R3×Q6)} {x:R3},(x,T9)∈names->(x,(cells.lookup x).getD 0)∈dm cells names acc
 |[],_,_,h=>by cases h
 |(y,k)::r,acc,x,h=>by
  unfold dm;rcases Rq.mp h with h|h
  .cases h
   rw[Rb (by decide)];exact pk Q7
  .split
   .exact pi h
   .exact pi h
theorem lT{α:Type}:∀{l:List (R3×α)} {x:R3} {c:α},(x,c)∈l->∃d,l.lookup x=on d
 |[],_,_,h=>by cases h
 |(y,d)::r,x,c,h=>by
  rw[Wz];cases a:x==y with
  |true=>exact⟨d,rfl⟩
  |false=>
   rcases Rq.mp h with h|h
   .cases h
    simp at a
   .exact lT h
theorem de{α:Type}:∀{l:List (R3×α)} {x:R3} {c:α},(l.map (·.1)).Nodup->(x,c)∈l->l.lookup x=on c
 |[],_,_,_,h=>by cases h
 |(y,d)::r,x,c,nd,h=>by
  rw[Rk]at nd;obtain⟨a,b⟩:=Sb.mp nd;rw[Wz];rcases Rq.mp h with h|h
  .cases h
   simp
  .have:x≠y:=λe=>a (e▸List.mem_map_of_mem (f:=(·.1)) h)
   rw[beq_eq_false_iff_ne.mpr this];exact de b h
theorem rM{env:Yi}(f:R3×UV->List (R3×Q6)->Sem (ForInStep (List (R3×Q6))))
  (g:∀name kind cs,f (name,kind) cs=if kind== .free then(do let a <-cellOf env name;T0 (.yield ((name,a)::cs)))else T0 (.yield cs)):
  ∀(names:List (R3×UV)) (acc:List (R3×Q6)),(∀y∈names,y.2= .free->∃c,env.cells.lookup y.1=on c)->forIn names acc f=T0 (dm env.cells names acc)
 |[],_,_=>by rw[UJ];rfl
 |(x,k)::r,acc,h=>by
  rw[UB,g];unfold dm;have i:∀y∈r,y.2= .free->∃c,env.cells.lookup y.1=on c:=λy j=>h y (Q1 _ j);by_cases b:(k==T9)=Q4
  .rw[Rb b,Rb b]
   obtain⟨c,l⟩:=h (x,k) Q7 (by simpa using b);have d:env.cells.lookup x=on c:=l;have e:cellOf env x=T0 c:=by unfold cellOf;rw[d]
   rw[e,d];simp only[pure_bind];exact rM f g r _ i
  .rw[Q8 b,Q8 b]
   simp only[pure_bind];exact rM f g r _ i
theorem yZ{scope:Scope}{env:Yi}(h:∀y∈scope.names,y.2= .free->∃c,env.cells.lookup y.1=on c):closureFor scope env=T0 (dm env.cells scope.names []):=by
 simp only[closureFor];rw[rM (env:=env) _ (λname kind cs=>by cases a:kind==T9<;>simp[a]) scope.names [] h]
 rfl
theorem GA{M:Model}{E:Ra->Rg->Prop}{s:Rg}{scope:Scope}
  (f:∀h':SE,h'.Ns s.heap.objs.size (λ_=>QY)->(∀b o,s.heap.get? b=on o->h'.get? b=on o)->
   (∀n c,(n,c)∈Tc (s.heap.objs.size+1) scope.names []->h'.IsCell c QY/\s.heap.objs.size+1<=c)->
   ((Tc (s.heap.objs.size+1) scope.names []).Pairwise λx y=>x.2≠y.2)->
   Q (newEnv scope s.heap.objs.size globals (Tc (s.heap.objs.size+1) scope.names cl) qual QY .none (on env) Y7) {s with heap:=h'}):
  Rt M A (Ze scope globals cl [] qual QY .none (on env)) Q E s:=by
 simp only[Ze,Option.isSome_some,SA];refine My (wpAny_alloc ?_);refine My (wpAny_layCells _ (λname kind cells=>by cases a:kind==XZ<;>simp[a]) _ _ _ _ ?_)
 have ok:=cellsFrom_ok scope.names (s.heap.push {cls:= .type "dict",data:= .dict #[]}) (s.heap.objs.size+1) [] ⟨λ_ _ hm=>(nomatch hm),WN⟩ (by rw[S3];exact Rf _);rw[S3]at ok;rw[show({s with heap:=s.heap.push {cls:= .type "dict",data:= .dict #[]}}:Rg).heap.objs.size=s.heap.objs.size+1 from S3 ..];have d:=f (pushCells (s.heap.push {cls:= .type "dict",data:= .dict #[]}) scope.names) ((Heap.Ns.new s.heap (.type "dict")).keeps (pushCells_keeps _ _)) (λb o e=>pushCells_keeps _ _ b o (Q3 _ e)) ok.empty ok.apart;exact My (Q0 (Q0 d))
noncomputable abbrev aP(X:Cx)(a:List R3)(scope:Scope)(cl:List (R3×Q6))(C:Q6)(b:List Q6)(s:Rg)(H:Hp):Cx:=
 {X with N:=a,s₀:=s,H₀:=H,env:=compEnvC scope cl C X.env,outer:=X.stack,stack:=X.stack,ex:=b,fn:=λx=>scope.names.lookup x !=on .free,pn:=[],xe:=λ_ _=>False}
theorem i4{scope:Scope}{y:R3×UV}(h:y∈(relabel scope env).names):y∈scope.names\/(y.2= .cell/\(y.1,T9)∈scope.names):=by
 obtain⟨⟨n,k⟩,hm,e⟩:=Rp.mp h
 dsimp only at e
 split at e
 .rename_i a
  cases e;simp only[RZ,UW]at a;obtain⟨⟨a,_⟩,_⟩:=a;subst a;exact .inr ⟨rfl,hm⟩
 .cases e
  exact .inl hm
theorem FR{X:Cx}{R:St}{s:Rg}{Nc c_:List R3}{cw:List Nat}{scope:Scope}{h':SE}(I:cy X ba R H s)
  (hk:scope.kind= .function) (g:(scope.names.map (·.1)).Nodup) (f:∀y∈scope.names,y.2= .free->X.env.kindOf y.1=on .cell\/X.env.kindOf y.1=on .free)
  (T:Nc=c_++cw.map (λj=>X.N.getD j US)) (U:∀j∈cw,j<X.N.length/\scope.names.lookup (X.N.getD j US)=on .free)
  (F:∀b∈fp,fq X ba H b) (W:∀b∈fp,∃o,s.heap.get? b=on o) (ns:h'.Ns s.heap.objs.size λ_=>QY) (keep:∀b o,s.heap.get? b=on o->h'.get? b=on o)
  (O:∀n c,(n,c)∈Tc (s.heap.objs.size+1) scope.names []->h'.IsCell c QY/\s.heap.objs.size+1<=c) (ca:(Tc (s.heap.objs.size+1) scope.names []).Pairwise λx y=>x.2≠y.2):
  cy (aP X Nc scope (Tc (s.heap.objs.size+1) scope.names (dm X.env.cells scope.names [])) s.heap.objs.size fp s H) [] (Rr c_.length QY++cw.map (λj=>R.getD j QY)) H {s with heap:=h'}:=by
 --the cells
 have old:∀{x:R3} {c:Q6},(x,c)∈dm X.env.cells scope.names []->X.env.cells.lookup x=on c/\(x,T9)∈scope.names:=λ{x c} h=>by
  rcases lr h with h|⟨hm,e⟩
  .cases h
  .obtain⟨d,hd⟩:=I.ok.has x (f _ hm rfl)
   rw[hd]at e;exact⟨by rw[hd,e];rfl,hm⟩
 have a:∀{x:R3} {c:Q6},(Tc (s.heap.objs.size+1) scope.names (dm X.env.cells scope.names [])).lookup x=on c->
   (x,c)∈Tc (s.heap.objs.size+1) scope.names []\/(X.env.cells.lookup x=on c/\(x,T9)∈scope.names):=λ{x c} h=>by
  have h:=SM h;rw[dB]at h;rcases S4.mp h with h|h
  .exact .inl h
  .exact .inr (old h)
 have freeC:∀{x:R3},(x,T9)∈scope.names->∃c,X.env.cells.lookup x=on c/\(Tc (s.heap.objs.size+1) scope.names (dm X.env.cells scope.names [])).lookup x=on c:=λ{x} hm=>by
  obtain⟨d,hd⟩:=I.ok.has x (f _ hm rfl);have e:=pi (cells:=X.env.cells) (acc:=[]) hm;obtain⟨c,Q⟩:=lT (l:=Tc (s.heap.objs.size+1) scope.names (dm X.env.cells scope.names [])) (x:=x) (c:=(X.env.cells.lookup x).getD 0) (by rw[dB];exact Sa _ e);rcases a Q with z|⟨z,_⟩
  .have B:=de g (ig z)
   rw[de g hm]at B;cases B
  .exact⟨c,z,Q⟩
 have k:∀{x:R3} {c:Q6},X.env.cells.lookup x=on c->c<s.heap.objs.size:=λ{x c} h=>let ⟨v,q⟩:=I.cell x c h;q.lt
 have nofr:H s.heap.objs.size=QY:=I.hok.fresh (Rf _);have Y:∀b∈g_ X.stack,b∈X.env.locals::X.fs:=I.stkSub;refine⟨⟨I.ok.mod,hk,I.ok.glob,I.ok.blt,Rf _,λx y c h1 h2=>?_,λx hx=>?_,λx c hf h=>?_,I.ok.hd,I.ok.frames,.inl rfl,λb J=>⟨?_,λx c h e=>?_⟩,I.bs,Ru I.ok.bsz I.sz,λb o e J=>?_,λb J hf=>?_,I.stack,I.stkFree⟩,
  rfl,I.bare,Un.kept keep,⟨_,ns,λi x v e1 A e3=>?_⟩,λx c h=>?_,nofr,λx c h=>?_,λp hp=>RJ hp (by simp),I.hok.kept keep,?_⟩
 .rcases a h1 with B|⟨B,_⟩<;>rcases a h2 with Z|⟨Z,_⟩
  .exact name_of_addr ca B Z
  .exact RJ (RH (k Z) (Ru (Wo _) (O _ _ B).2)) (Sf _)
  .exact RJ (RH (k B) (Ru (Wo _) (O _ _ Z).2)) (Sf _)
  .exact I.ok.inj _ _ _ B Z
 .--has
  have hx:(relabel scope X.env).names.lookup x=on .cell\/(relabel scope X.env).names.lookup x=on .free:=hx;have hm:(x,XZ)∈scope.names\/(x,T9)∈scope.names:=by
   rcases hx with hx|hx
   .rcases i4 (SM hx)with z|⟨_,z⟩
    .exact .inl z
    .exact .inr z
   .rcases i4 (SM hx)with z|⟨_,z⟩
    .exact .inr z
    .exact .inr z
  rcases hm with hm|hm
  .have q:=Y9 scope.names (s.heap.objs.size+1) (dm X.env.cells scope.names []) (x:=x) (.inl (de g hm))
   exact Yk.mp q
  .obtain⟨c,_,Q⟩:=freeC hm
   exact⟨c,Q⟩
 .--cab
  rcases a h with z|⟨_,z⟩
  .exact Ru (Wo _) (O _ _ z).2
  .have z':(scope.names.lookup x !=on .free)=Q4:=hf
   rw[de g z]at z';exact RJ z' (by decide)
 .obtain⟨o,e⟩:=W b J
  exact Sg (RM e)
 .rcases a h with z|⟨z,_⟩
  .obtain⟨o,e'⟩:=W b J
   subst e;exact RJ (RH (RM e') (Ru (Wo _) (O _ _ z).2)) (Sf _)
  .exact(F b J).2.2.2.2.1 x c z e
 .obtain⟨_,_,_,h4,_⟩:=F b J
  rcases h4 with z|z
  .exact I.ok.noex b o e z
  .exact RJ (RH (RM (I.ok.bs b o e).1) z) (Sf _)
 .obtain⟨_,h2,h3,_⟩:=F b J
  rcases Rq.mp (Y b hf)with z|z
  .exact h2 z
  .exact h3 z
 .--the names' values
  have hi:¬i<c_.length:=λhi=>by
   rw[UR (by simpa using hi),Ts]at A;split at A<;>cases A
  have L:(c_++cw.map (λj=>X.N.getD j US))[i]?=on x:=by rw[<-T];exact e1
  rw[Tv (by omega)]at L;rw[Tv (by simpa using hi)]at A;rw[Td]at A;cases q:cw[i-c_.length]? with
  |none=>rw[Q5,q]at A;cases A
  |some j=>
   rw[Q5,q]at L A;have C:X.N.getD j US=x:=RO L;have e2':R.getD j QY=on v:=RO A;obtain⟨hj,t⟩:=U j (RK q);rw[C]at t;obtain⟨c,Q,hc'⟩:=freeC (SM t);have hNj:X.N[j]?=on x:=by
    rw[<-C,QZ,Q2 hj];rfl
   have hσj:R[j]?=on (on v):=by
    have hl:j<R.length:=by rw[I.len];exact hj
    rw[QZ,Q2 hl]at e2';rw[Q2 hl];exact R9 on e2'
   have hkx:=f _ (SM t) rfl;obtain⟨m,hn,hl⟩:=I.loc;obtain⟨u,r,l⟩:=hl j x v hNj hσj (hkx.elim (λz=> .inr (.inl z)) λz=> .inr (.inr z));refine⟨u,r,.inr ⟨?_,c,hc',?_⟩⟩
   .rcases e3 with z|z|z
    .exfalso
     rcases i4 (SM z)with y|⟨y,_⟩
     .rw[de g y]at t;cases t
     .cases y
    .exact .inl z
    .exact .inr z
   .rcases l with⟨l,_⟩|⟨_,c',e,z⟩
    .exfalso
     rcases hkx with y|y
     .have y':X.env.kindOf x=on .cell:=y
      rw[l]at y';cases y'
     .have y':X.env.kindOf x=on .free:=y
      rw[l]at y';cases y'
    .rw[Q]at e
     cases e;exact z.keeps keep
 .rcases a h with z|⟨z,_⟩
  .exact⟨QY,(O _ _ z).1⟩
  .obtain⟨v,q⟩:=I.cell x c z
   exact⟨v,q.keeps keep⟩
 .rcases a h with z|⟨z,_⟩
  .exact I.hok.fresh (Ru (Wo _) (O _ _ z).2)
  .exact I.freeC x c z
 .show _=Nc.length
  rw[T,Ro,Ro,Td,QX,QX]
abbrev TB:=St->Hp->(St->Hp->Prop)->Prop
inductive X_ where
 |L (e:Expr)|S (e:Expr)|D (k v:Expr)
instance:Coe Expr X_:=⟨.L⟩
noncomputable def ra(c:X_)(gens:List S7)(scope:Scope)(pos:Vy):Expr:=match c with
 | .L e=> .ListComp e gens scope pos
 | .S e=> .SetComp e gens scope pos
 | .D k v=> .DictComp k v gens scope pos
noncomputable def emC(c:X_)(acc:Ra)(env:Yi):Sem Unit:=match c with
 | .L e=>do let _ <-XN (.builtin "list.append") [acc,<-Sw e env]
 | .S e=>do let v <-Sw e env;UF e.pos;let _ <-XN (.builtin "set.add") [acc,v]
 | .D k v=>do
   let kv <-Sw k env
   let vv <-U6 [kv] (Sw v env)
   match acc with
   | .ref d=>do
    UF {k.pos with endLine:=v.pos.endLine,endCol:=v.pos.endCol}
    U6 [kv,vv] (dictSet d kv vv)
   |_=>unsupported "internal:dictcomp"
noncomputable def hX(c:X_)(gens:List S7)(scope:Scope)(pos:Vy)(d:Nat)(acc:Ra)(env:Yi)(k:Sem Wt):Sem Wt:=
 match gens[d+1]? with
 |some g'=>do
  let x <-Sw g'.iter env
  UF g'.iter.pos
  let x <-if g'.is_async !=0 then foldedIterable g'.iter x else Su g'.iter env x
  let _ <-runOwn (.compStart (ra c gens scope pos) (d+1) (<-U6 [x] (if g'.is_async !=0 then asyncIter x else Xn x)) acc env) env
  k
 |none=>do
  emC c acc env
  k
theorem vV{a b:Expr}(e:gens[d]?=on ⟨a,b,ifs,0⟩):
  compTurn (ra c gens scope pos) d it acc env=(do
   UF b.pos
   match <-Vu it with
   |none=>T0 (.done .next)
   |some v=>
    Wa a it v
    V9 a env v
    let mut ok:=Q4
    for y in ifs do
     if ok then ok <-isTrue y env (Sw y env)
    if ok then hX c gens scope pos d acc env (Yz (.compLoop (ra c gens scope pos) d it acc env))
    else Yz (.compLoop (ra c gens scope pos) d it acc env)):=by
 cases c<;>(
  unfold compTurn hX ra emC
  dsimp only
  rw[e]
  dsimp only
  cases gens[d+1]?<;>rfl)
variable{prog:RT}{A:SB}{R:Result->Rg->Prop}{s:Rg}
theorem EY(F:gens[d]?=on ⟨cx,iter,ifs,0⟩)(I:Nat->Rg->Prop)
  (q:∀n s,I n s->Rt (RN prog w) A (Vu it) (λr a=>match r with
   |none=>R (.ok .next) a
   |some v=>Rt (RN prog w) A (Wa cx it v) (λ_ b=>Rt (RN prog w) A (V9 cx env v) (λ_ j=>
    Rt (RN prog w) A (forIn ifs Q4 λy r=>if r=Q4 then do let ok <-isTrue y env (Sw y env);T0 (Wl ok)else T0 (Wl r)) (λok g=>
     if ok=Q4 then ∀(k:Sem Wt) (B:Wt->Rg->Prop) (C:Ra->Rg->Prop),(∀i m,m<n->I m i->Rt (RN prog w) A k B C i)->Rt (RN prog w) A (hX c gens scope pos d acc env k) B C g
     else ∃m,m<n/\I m g) (λ_ _=>False) j) (λ_ _=>False) b) (λ_ _=>False) a) (λ_ _=>False) s)
  (n:Nat) (h:I n s):
  Vh (RN prog w) A (.compLoop (ra c gens scope pos) d it acc env) R s:=by
 refine codeAny_loop rfl I (λn s hI=>?_) n h
 suffices z:Rt (RN prog w) A ((compTurn (ra c gens scope pos) d it acc env).onRaise (λx=>do noteFrame x env;theTreesLotGoes x)) (λu s'=>match u with
   |Fin.done f=>R (SW f) s'
   |Fin.again c'=>c'=Code.compLoop (ra c gens scope pos) d it acc env/\∃m,m<n/\I m s') (λe s'=>R (Except.error e) s') s by cases c<;>exact z
 refine wpAny_noted ?_;rw[vV F];refine My (T6 (My (Sh (q n s hI) (λr a l=>?_) λ_ _ h'=>h'.elim)));cases r with
 |none=>exact Q0 l
 |some v=>
  refine My (Sh l (λ_ b p=>?_) λ_ _ h'=>h'.elim);refine My (Sh p (λ_ j t=>My (Sh t (λok g o=>?_) λ_ _ h'=>h'.elim)) λ_ _ h'=>h'.elim);cases ok with
  |false=>exact Q0 ⟨rfl,o⟩
  |true=>exact o _ _ _ λi m hm hI=>Q0 ⟨rfl,m,hm,hI⟩
theorem zE(j:gens[d]?=on ⟨cx,iter,ifs,0⟩)
  (i:Vh (RN prog w) A (.compLoop (ra c gens scope pos) d it acc env) R s)
  (h:Rt (RN prog w) A (Xn it) (λa s'=>Vh (RN prog w) A (.compLoop (ra c gens scope pos) d a acc env) R s') (λ_ _=>False) s):
  Vh (RN prog w) A (.compStart (ra c gens scope pos) d it acc env) R s:=by
 refine codeAny_of_tree ?_
 suffices z:Rt (RN prog w) A ((compStart (ra c gens scope pos) d it acc env).onRaise (λx=>do noteFrame x env;UF theWindowsPlace)) (λg s'=>match g with
   |Fin.done f=>R (SW f) s'
   |Fin.again c'=>c'.quiet=Q4/\Vh (RN prog w) A c' R s') (λe s'=>R (Except.error e) s') s by cases c<;>exact z
 refine wpAny_notedAt ?_;unfold compStart;have b:(clausesOf (ra c gens scope pos))[d]?=on ⟨cx,iter,ifs,0⟩:=by cases c<;>exact j
 generalize (clausesOf (ra c gens scope pos))[d]?=og at b⊢;subst b;show Rt _ _ (ask>>=_) _ _ s;refine My (VN (wpAny_ite ?_));split
 .first
   |exact My (Q0 (Q0 (YL rfl i)))
   |exact Q0 (YL rfl i)
 .first
   |exact My (UZ (My (T6 (My (Sh h (λa s' h'=>Q0 (YL rfl h')) λ_ _ x=>x.elim)))))
   |(refine My (UZ ?_);show Rt _ _ (UF iter.pos>>=_) _ _ s;exact My (T6 (My (Sh h (λa s' h'=>Q0 (YL rfl h')) λ_ _ x=>x.elim))))
def eA(X:Cx)(b:List Expr)(t:TT):Prop:=
 ∀(a:List (Q6×RA)) (s:Rg) (d:St) (H:Hp) (Q:Bool->Hp->Prop),cy X a d H s->t d H Q->
  Rt (RN X.prog X.w) X.A (forIn b Q4 λc r=>if r=Q4 then do let ok <-isTrue c X.env (Sw c X.env);T0 (Wl ok)else T0 (Wl r)) (TP X a d Q) X.xe s
noncomputable def MI:TT:=λ_ H Q=>Q Q4 H
theorem uQ{X:Cx}:eA X [] MI:=λ_ _ _ H _ I h=>Q0 ⟨H,I,h⟩
theorem EA{X:Cx}(d:PT X c t):eA X [c] t:=λa s e H Q I h=>by
 simp only[UB,UJ,SA];exact My (My (Sh (d a s e H Q I h) (λb s' f=>Q0 (Q0 f)) λ_ _ x=>x))
def PB(X:Cx)(c:X_)(gens:List S7)(scope:Scope)(pos:Vy)(d:Nat)(D:Q6)(t:TB):Prop:=
 ∀(a:List (Q6×RA)) (s:Rg) (e:St) (H:Hp) (Q:St->Hp->Prop),cy X a e H s->t e H Q->
  ∀(k:Sem Wt) (f:Wt->Rg->Prop) (g:Ra->Rg->Prop),(∀s' b h,cy X a b h s'->Q b h->Rt (RN X.prog X.w) X.A k f g s')->Rt (RN X.prog X.w) X.A (hX c gens scope pos d (.ref D) X.env k) f g s
def dG(J:It)(g:TG)(tt:TT)(j:TB):TB:=λc H Q=>∃W:Nat->Nat->St->Hp->Prop,(∃m,W 0 m c H)/\∀i m c H,W i m c H->
 (J.stop i H/\Q c H)\/(J.go i H/\∃N:St->Hp->Prop,(∀d e,N d e->∃f,f<m/\W (i+1) f d e)/\∀x e,J.yld i H x e->g x c e λa k=>tt a k λb h=>if b=Q4 then j a h N else N a h)
def y9(D:Q6)(c:TE):TB:=λa H Q=>c a H λv b=>∃xs,b D=on (.lst xs)/\xs.length<RF/\Q a (upd b D (.lst (xs++[v])))
def y8(b:TI)(c:It->TB):TB:=λa H Q=>b a H λJ d=>c J a d Q
variable{c:X_}{elt cx iter:Expr}{ifs:List Expr}{gens:List S7}{scope:Scope}{pos:Vy}{d:Nat}{D:Q6}
theorem sR(hg:gens[d]?=on ⟨cx,iter,ifs,0⟩)(hc:X.calm=Q4)(F:X.xe=λ_ _=>False)(hgt:PG X cx g)(hts:eA X ifs tt)(j:PB X c gens scope pos d D tb)
  {s:Rg}
  (I:cy X ba σ H s) (T:ms X.prog X.w X.K cx J fp it tn) (st:tn 0 s.heap) (hf:∀b∈fp,fq X ba H b) (h:dG J g tt tb σ H Q):
  Vh (RN X.prog X.w) X.A (.compStart (ra c gens scope pos) d (.ref it) (.ref D) X.env) (λr s'=>r= .ok .next/\∃a f,cy X ba a f s'/\Q a f) s:=by
 obtain⟨W,⟨m0,w0⟩,L⟩:=h;have l:∀{f:Hp},(∀b∈fp,f b=QY)->∀b∈fp,fq X ba f b:=λhn b j=>⟨hn b j,(hf b j).2⟩;have t:Vh (RN X.prog X.w) X.A (.compLoop (ra c gens scope pos) d (.ref it) (.ref D) X.env) (λr s'=>r= .ok .next/\∃a f,cy X ba a f s'/\Q a f) s:=by
  refine EY hg (λn s'=>∃i a f,cy X ba a f s'/\tn i s'.heap/\(∀b∈fp,f b=QY)/\W i n a f) ?_ m0 ⟨0,σ,H,I,st,λb j=>(hf b j).1,w0⟩;rintro n s3 ⟨i,p,Z,I3,O,U,w3⟩;rcases L i n p Z w3 with⟨stop,qn⟩|⟨go,N,hN,step⟩
  .refine ee (T.done X rfl rfl rfl hc i ba s3 p Z _ I3 (l U) O stop) λr s4 ⟨hr,I4⟩=>?_
   subst hr;exact⟨rfl,p,Z,I4,qn⟩
  .refine ee (T.item X rfl rfl rfl hc i ba s3 p Z _ I3 (l U) O go) λr s4 ⟨u,hr,h4⟩=>?_
   subst hr;refine ee h4 λ_ s5 ⟨x,H5,I5,r5,y5,v,fr5⟩=>?_;have I5':=I5.pinned (l fr5) (T.obj _ _ v);have Yz:∀{q:St} {y:Hp} {B:Rg},cy X (ba++my fp s5.heap) q y B->N q y->∃m,m<n/\∃i a f,cy X ba a f B/\tn i B.heap/\(∀b∈fp,f b=QY)/\W i m a f:=λ{q y B} C n7=>by
    obtain⟨m',hm,w7⟩:=hN q y n7;refine⟨m',hm,i+1,q,y,C.unpinned,T.keep _ _ _ v λb j o e=>(C.pin (b,o) (Sa _ (Sa _ (iA j e)))).1,λb j=>?_,w7⟩;obtain⟨o,e,d⟩:=T.obj _ _ v b j;exact(C.pin (b,o) (Sa _ (Sa _ (iA j e)))).2.1
   have h6:=hgt _ s5 p H5 x u _ I5' r5 (step x H5 y5);rw[F]at h6;refine ee h6 λ_ s6 ⟨Y,H6,I6,q6⟩=>?_;have h7:=hts _ s6 Y H6 _ I6 q6;rw[F]at h7;refine ee h7 λb B ⟨y,C,q7⟩=>?_;cases b with
   |true=>
    rw[Rb rfl]at q7⊢;intro k Q' E' hk;refine j _ B Y y N C q7 k Q' E' λs8 σ8 H8 I8 n8=>?_;obtain⟨m,hm,z⟩:=Yz I8 n8;exact hk s8 m hm z
   |false=>
    rw[Q8 Ri]at q7⊢;exact Yz C q7
 exact zE hg t (T.self X.A 0 s _ _ st t)
theorem aA(m:gens[d+1]?=QY)(o:PE X elt te)(b:X.xe=λ_ _=>False):PB X elt gens scope pos d D (y9 D te):=by
 intro a s g H Q I h k y B p;unfold hX;rw[m];show Rt _ _ ((do let _ <-XN (.builtin "list.append") [.ref D,<-Sw elt X.env])>>=λ_=>k) _ _ _
 have i:=o a s g H _ I h;rw[b]at i;refine My (My (Sh i (λu C ⟨v,J,j,r,xs,l,L,q⟩=>?_) λ_ _ f=>f.elim));obtain⟨z,its,n,t,N,e⟩:=j.lstM l;refine My (Y8 F.slot_list_append ⟨_,e,rfl⟩ F.entry_list_append (Z8 _ _) (Z0 D its.toArray n u (by rw[Rx];omega)) ⟨e,?_⟩);refine Q0 (p _ g _ (j.lset (its':=its++[u]) l e (by simp) (t.append (.cons r .nil)) ?_) q);rw[Ro,Sd];omega
theorem nP(o:gens[d+1]?=on ⟨target',iter',ifs',0⟩)(p:X.calm=Q4)(a:X.xe=λ_ _=>False)(t:PI X target' iter' wi)
  (j:PG X target' g) (l:eA X ifs' tt) (u:PB X c gens scope pos (d+1) D tb) (hs:∀x,Su iter' X.env x=T0 x:=by intro _;rfl):PB X c gens scope pos d D (y8 wi λJ=>dG J g tt tb):=by
 intro b s y H Q I h k Y Z B;unfold hX;rw[o];have i:=t b s y H _ I h;rw[a]at i;refine My (Sh i (λv s1 i=>My (T6 ?_)) λ_ _ f=>f.elim);show Rt _ _ (Su iter' X.env v>>=_) _ _ _;refine My (UY (hs v) ?_);show Rt _ _ (U6 [v] (Xn v)>>=_) _ _ _;refine My (SX (Sh i (λC s2 F=>?_) λ_ _ f=>f.elim));obtain⟨it,fp,tn,J,H2,e,L,T,m,f2,q⟩:=F;subst e;refine My (wpAny_runOwn (Vs (sR o p a j l u L T m f2 q) λr s' ⟨N,z⟩=>?_));subst N;obtain⟨n,O,U,W⟩:=z;exact B s' n O U W
noncomputable def kF(c_:List R3)(cw:List Nat)(a:St):St:=Rr c_.length QY++cw.map (λj=>a.getD j QY)
def Mks(X:Cx)(mk:Sem Ra)(g:Q6->HO):Prop:=∀(a:List (Q6×RA)) (s:Rg) (f:St) (H:Hp) (E:Ra->Rg->Prop) (Q:Ra->Rg->Prop),cy X a f H s->
 (∀e:Rg,cy X a f (upd H s.heap.objs.size (g s.heap.objs.size)) e->(∀b o,s.heap.get? b=on o->e.heap.get? b=on o)->Q (.ref s.heap.objs.size) e)->Rt (RN X.prog X.w) X.A mk Q E s
theorem u5{X:Cx}:Mks X (newList []) λ_=> .lst []:=λa s f H E Q I h=>SK (h _ (I.lnew (t':=s.toks) .nil (Ss _)) λb o e=>Q3 _ e)
def tM(c_:List R3)(cw:List Nat)(e:TI)(f:Q6->It->TB):TE:=λa H Q=>e a H λJ b=>∀D,b D=QY->f D J (kF c_ cw a) (upd b D (.lst [])) λ_ g=>Q (.ref D) g
structure dk (X:Cx) (scope:Scope) (Nc c_:List R3) (cw:List Nat):Prop where
 kind:scope.kind= .function
 nd:(scope.names.map (·.1)).Nodup
 free:∀y∈scope.names,y.2= .free->X.env.kindOf y.1=on .cell\/X.env.kindOf y.1=on .free
 names:Nc=c_++cw.map (λj=>X.N.getD j US)
 cap:∀j∈cw,j<X.N.length/\scope.names.lookup (X.N.getD j US)=on .free
variable{rest:List S7}{Nc c_:List R3}{cw:List Nat}{g:TG}{tt:TT}{tb:Q6->TB}{wi:TI}
def Pr(X:Cx)(a:List (Q6×RA))(H:Hp)(C:Q6):Prop:=H C=QY/\C≠X.env.locals/\X.s₀.heap.objs.size<=C/\(∀x c,X.env.cells.lookup x=on c->c≠C)/\∀p∈X.pn++a,p.1≠C
theorem hV{c:X_}{mk:Sem Ra}{B:Q6->HO}(O:Mks X mk B){f:List (Q6×RA)}{F:St}{H:Hp}{s:Rg}{it:Q6}{h:List Q6}{Q:Nat->SE->Prop}{J:It}{E:Ra->Rg->Prop}{QQ:Q6->Hp->Prop}{RR:Ra->Q6->Result->Rg->Prop}
  (hc:X.calm=Q4) (S:dk X scope Nc c_ cw)
  (L:∀(cl:List (R3×Q6)) (C:Q6) (h:List Q6) (s:Rg) (H:Hp),PG (aP X Nc scope cl C h s H) cx g/\eA (aP X Nc scope cl C h s H) ifs tt/\∀D,PB (aP X Nc scope cl C h s H) c (⟨cx,iter,ifs,0⟩::rest) scope pos 0 D (tb D))
  (I:cy X f F H s) (T:ms X.prog X.w X.K cx J h it Q) (st:Q 0 s.heap) (U:∀b∈h,fq X f H b)
  (q:∀D,H D=QY->dG J g tt (tb D) (kF c_ cw F) (upd H D (B D)) λ_ k=>QQ D k)
  (W:∀(D C:Q6) (s':Rg) (k:Hp) (m:R3->Option Ra),cy X f F k s'->s'.heap.Ns C m->Pr X f k C->QQ D k->RR (.ref D) C (.ok .next) s'):
  Rt (RN X.prog X.w) X.A mk (λacc t=>Rt (RN X.prog X.w) X.A (Ze scope X.env.globals (dm X.env.cells scope.names []) [] X.env.qual QY .none (on X.env)) (λj u=>
   Vh (RN X.prog X.w) X.A (.compStart (ra c (⟨cx,iter,ifs,0⟩::rest) scope pos) 0 (.ref it) acc {j with scope:=relabel scope X.env}) (RR acc j.locals) u) E t) E s:=by
 refine O f s F H _ _ I λi l y=>?_;have hD:H s.heap.objs.size=QY:=I.fresh;have q3:=q s.heap.objs.size hD;have Y:∀b∈h,∃o,i.heap.get? b=on o:=λb L=>let ⟨o,e,_⟩:=T.obj _ _ st b L;⟨o,y b o e⟩
 have Z:∀b∈h,fq X f (upd H s.heap.objs.size (B s.heap.objs.size)) b:=λb a=>⟨by
  rw[b_]
  .exact(U b a).1
  .obtain⟨o,e,_⟩:=T.obj _ _ st b a
   exact Sg (RM e),(U b a).2⟩
 generalize hH3:upd H s.heap.objs.size (B s.heap.objs.size)=H3 at l q3 Z;generalize s.heap.objs.size=D at hD hH3 q3⊢;refine GA λh' ns keep ce ca=>?_;have N:=FR l S.kind S.nd S.free S.names S.cap Z Y ns keep ce ca;obtain⟨b1,b2,b3⟩:=L (Tc (i.heap.objs.size+1) scope.names (dm X.env.cells scope.names [])) i.heap.objs.size h i H3;have st4:Q 0 h':=T.keep _ _ _ st λb L o e=>keep b o (y b o e);have f4:∀b∈h,fq (aP X Nc scope (Tc (i.heap.objs.size+1) scope.names (dm X.env.cells scope.names [])) i.heap.objs.size h i H3) [] H3 b:=λb a=>
  ⟨(Z b a).1,(N.ok.exf b a).1,N.ok.exfs b a,.inl a,(N.ok.exf b a).2,λp hp=>RJ hp (by simp)⟩
 refine Vs (sR (X:=aP X Nc scope (Tc (i.heap.objs.size+1) scope.names (dm X.env.cells scope.names [])) i.heap.objs.size h i H3) (gens:=⟨cx,iter,ifs,0⟩::rest) (d:=0) rfl hc rfl b1 b2 (b3 D) N T st4 f4 q3) λr s' ⟨hr,σ',k,n,q'⟩=>?_;subst hr;obtain⟨m,hm,_⟩:=n.loc;have C1:X.env.locals<i.heap.objs.size:=l.lt;refine W D _ s' k m (l.call' (ch:=h) n.os n.base n.hok n.bare λb a=>?_) hm ⟨n.free,Uy C1,l.sz,λx c e z=>?_,λp hp z=>?_⟩ q'
 .obtain⟨_,h2,h3,h4,h5,h6⟩:=U b a
  exact⟨h4,h2,h5,h6⟩
 .obtain⟨v,e'⟩:=l.cell x c e
  exact RJ (z▸e'.lt) (Sf _)
 .have:=RM (l.pin p hp).1
  rw[z]at this;exact RJ this (Sf _)
theorem cy.letgo{s:Rg}(I:cy X ba σ H s)(o:Pr X ba H C)(hs:RQ C s.heap h'):cy X ba σ H {s with heap:=h'}:=
 I.turned (t':=s.toks) (λb f a e=>(hs.2 b a).trans e) o.1 (Ne.symm (Ne.symm o.2.1)) (.inr o.2.2.1) o.2.2.2.1 o.2.2.2.2
theorem dk.clo(S:dk X scope Nc c_ cw)(ok:X.Ok):closureFor scope X.env=T0 (dm X.env.cells scope.names []):=yZ λy a b=>ok.has y.1 (S.free y a b)
theorem dk.loc(S:dk X scope Nc c_ cw):∀x∈scope.names,x.2= .local->scope.names.lookup x.1=on .local:=λx a b=>de S.nd (by rw[<-b];exact a)
theorem wY(j:X.calm=Q4)(S:dk X scope Nc c_ cw)(k:PI X cx iter wi)
  (l:∀(cl:List (R3×Q6)) (C:Q6) (b:List Q6) (s:Rg) (H:Hp),PG (aP X Nc scope cl C b s H) cx g/\eA (aP X Nc scope cl C b s H) ifs tt/\∀D,PB (aP X Nc scope cl C b s H) elt (⟨cx,iter,ifs,0⟩::rest) scope pos 0 D (tb D))
  (hs:∀x,Su iter X.env x=T0 x:=by intro _;rfl):PE X (.ListComp elt (⟨cx,iter,ifs,0⟩::rest) scope pos) (tM c_ cw wi λD J=>dG J g tt (tb D)):=by
 intro a s n H Q I h;rw[eval_ListComp];refine Ur (use:=QY) rfl hs (S.clo I.ok) S.kind S.loc (Sh (k a s n H _ I h) (λv N o=>Sh o (λp O r=>?_) λ_ _ x=>x) λ_ _ x=>x);obtain⟨it,b,U,J,W,e,t,T,f,f2,q⟩:=r;subst e;refine hV (c:= .L elt) u5 (RR:=λacc C=>Za (RN X.prog X.w) X.A X.xe QY _ acc C) j S l t T f f2 q λD C s' u m y ns B F=>?_;exact⟨m,ns,λh' i=>⟨.ref D,u,y.letgo B i,rfl,F⟩⟩
theorem wT{b f:Vy}(y:X.N.Nodup)(l:X.N[i]?=on x)(B:y4 X.env.scope x)(F:X.calm=Q4)(S:dk X scope Nc c_ cw)(O:PI X cx iter wi)
  (U:∀(cl:List (R3×Q6)) (C:Q6) (k:List Q6) (s:Rg) (H:Hp),PG (aP X Nc scope cl C k s H) cx g/\eA (aP X Nc scope cl C k s H) ifs tt/\∀D,PB (aP X Nc scope cl C k s H) elt (⟨cx,iter,ifs,0⟩::rest) scope pos 0 D (tb D))
  (n:VM (.ListComp elt (⟨cx,iter,ifs,0⟩::rest) scope pos) (on (.Name x b)) f.line X.env=T0 Q4:=by rfl)
  (hs:∀x,Su iter X.env x=T0 x:=by intro _;rfl) (W:X.fn x=Q4\/X.env.scope.names.lookup x=on .local:=by first|exact .inl rfl|exact .inr rfl|assumption):
  PS X (.Assign [.Name x b] (.ListComp elt (⟨cx,iter,ifs,0⟩::rest) scope pos) f) (h9 (tM c_ cw wi λD J=>dG J g tt (tb D)) (fi i)):=by
 intro j s Y H D I h;rw[exec_Assign_Name_used _ _ _ _ n];refine My (T6 (My ?_));show Rt _ X.A (do let _ <-comprehension (.ListComp elt (⟨cx,iter,ifs,0⟩::rest) scope pos) scope X.env _ (newList []) Q9 (Sw iter X.env) (on (V9 (.Name x b) X.env))) _ _ s
 refine My (Sh (Ur (use:=on (V9 (.Name x b) X.env)) (Q:=λ_ s'=>SP X j D .next s') rfl hs (S.clo I.ok) S.kind S.loc
  (Sh (O j s Y H _ I h) (λv s1 Z=>Sh Z (λitv s2 h2=>?_) λ_ _ e=>e) λ_ _ e=>e)) (λ_ s' hq=>Q0 (Q0 hq)) λ_ _ e=>e)
 obtain⟨it,k,tn,J,H2,e,o,T,p,f2,q⟩:=h2;subst e;refine hV (c:= .L elt) u5 (RR:=λacc C=>Za (RN X.prog X.w) X.A X.xe (on (V9 (.Name x b) X.env)) _ acc C) F S U o T p f2 q λA C s' H' m I' ns r q'=>?_;show Rt _ X.A (V9 (.Name x b) X.env (.ref A)) _ _ s';refine Yd (l3 I' y l B (v:= .ref A) rfl (λs2 o ⟨a,sb,ha⟩=>?_) W);have t:C≠a:=by
  rcases ha with rfl|ha
  .exact r.2.1
  .exact λz=>r.2.2.2.1 x a ha z.symm
 exact⟨m,ns.sameBut sb t,λh' u=>⟨_,H',o.letgo r u,q'⟩⟩
end
end L2
namespace L2
open PySem PySem.Spec
open Sem (wp)
open Builtin Builtin.ObjectAttr
structure Wi (h:SE) (C:Q6) (bm:List Ra):Prop where
 at_:∃(nm q:R3) (N:Q6) (bs:List Ra) (hdct:Bool) (sn:List R3) (sub:List Ra) (ab:Bool) (col:Option Bool) (dd:Option Q6) (k0 k1 k2 k3 k5:Option Ra),
  h.get? C=on (excClassObj nm q C N bs bm hdct sn sub ab col dd k0 k1 k2 k3 k5 "ValueError.__new__")
 val:bm.contains (.type "ValueError")=Q4
 bas:bm.contains (.type "BaseException")=Q4
 att:bm.contains (.type "AttributeError")=Q9
 nam:bm.contains (.type "NameError")=Q9
section
variable{prog:RT}{w:R8}{A:SB}{E:Ra->Rg->Prop}{h:SE}{g:Array GenState}{d:Drawn}{t:Nat}{os:WJ}{C:Q6}{bm rest:List Ra}
noncomputable def xu:List Ra->Bool
 |[.type a,.type b,.type c,.type d]=>a=="ValueError"&&b=="Exception"&&c=="BaseException"&&d=="object"
 | .ref _::r=>xu r
 |_=>Q9
variable{s:Rg}{e:Q6}{K:RB}{cd:ClassData}{name:R3}{v:Ra}
end
end L2
namespace L2
open PySem PySem.Spec PyProof.Rows
theorem cL.there{h:SE}(x:cL P w H h a o):∃b,h.get? a=on b:=by
 cases o with
 |lst xs=>obtain⟨_,_,_,_,e⟩:=x;exact⟨_,e⟩
 |tup xs=>obtain⟨_,_,_,_,e,_⟩:=x;exact⟨_,e⟩
 |ins C dx fs=>obtain⟨_,_,_,e,_⟩:=x;exact⟨_,e⟩
 |own y=>exact x
 |xd fs=>obtain⟨_,⟨_,_,_,e,_⟩,_⟩:=x;exact⟨_,e⟩
 |rng lo hi=>obtain⟨_,_,_,e⟩:=x;exact⟨_,e⟩
 |frz b u=>obtain⟨e,_⟩:=x;exact⟨_,e⟩
 |tbl ps=>exact⟨_,(show h.get? a=on _ from x)⟩
 |met f y=>exact⟨_,(show h.get? a=on _ from x)⟩
 |ext φ=>obtain⟨_,e,_⟩:=x;exact e
structure O2 (P:RT) (w:R8) (outer:List Yi) (H:Hp) (s:Rg) (E:XK) (x C:Q6) (H':Hp) (s':Rg):Prop where
 os:s'.os=s.os
 bare:Wc s'.gens
 un:Un (g_ outer) [] H H' s.heap s'.heap
 hok:lb P w H' s'.heap
 tr:∃(oe:RA) (vs:Array Ra) (T:Q6) (oT:RA) (ts:Array Ra) (a0:Ra),s'.heap.get? x=on oe/\(oe.cls= .ref C/\vs[0]?=on a0)/\oe.data= .fields vs/\vs[1]?=on (.ref T)/\T≠x/\s'.heap.get? T=on oT/\oT.data= .fields ts/\ts[3]?=on .none/\H' T=QY/\s.heap.get? T=QY
 xn:H' x=QY
 xs:s.heap.get? x=QY
 wish:E (.ref C) QY H'
def hY(P:RT)(w:R8):F_:=λouter H s E e s'=>∃x C a,e= .ref x/\O2 P w outer H s E x C a s'
theorem BD{X:Cx}{s s':Rg}{E:XK}(I:cy X ba σ H s)(g:X.stack=X.env::X.outer)(i:X.env.frame=on X.env.locals)(R:X.ex=[])
  (os:s'.os=X.s₀.os) (bare:Wc s'.gens) (d:Un (g_ X.stack) [] X.H₀ H' X.s₀.heap s'.heap) (hok:lb X.prog X.w H' s'.heap) (y:∀b∈g_ X.stack,H' b=QY)
  (c:∀b∈ext,X.s₀.heap.get? b=QY/\H' b=QY) (O:x∈ext) (wish:E (.ref C) QY H')
  (L:Heap.LeftW (hideAll s'.heap (ext++g_ X.stack)) (X.env::X.outer) x (.ref C) a0 s'.heap h'):O2 X.prog X.w X.outer X.H₀ X.s₀ E x C H' {s' with heap:=h'}:=by
 obtain⟨U,L2,W,Y⟩:=L;have j:∀b∈g_ X.outer,b∈g_ X.stack:=λb hb=>by
  rw[g];unfold g_;rw[S8,i];exact Q1 _ hb
 have h:∀b∈g_ X.stack,b=X.env.locals\/b∈g_ X.outer:=λb hb=>by
  rw[g]at hb;unfold g_ at hb;rw[S8,i]at hb;exact Rq.mp hb
 have A:∀b o,X.s₀.heap.get? b=on o->b≠X.env.locals:=λb o e=>Sg (RH (RM e) I.ok.above);have stay:∀b o,s'.heap.get? b=on o->b∉ext->b∉g_ X.stack->h'.get? b=on o:=λb o e B Z=>
  U b o (hideAll_get _ e λhm=>(S4.mp hm).elim B Z)
 have k:∀b o,X.s₀.heap.get? b=on o->b∉ext:=λb o e hb=>by rw[(c b hb).1]at e;cases e
 have f:∀b∈g_ X.stack,∃o,h'.get? b=on o/\∀vs,o.data≠ .fields vs:=λb hb=>(L2.mem (by rw[<-g];exact hb)).2;obtain⟨oe,vs,T,oT,P,he,hc,hd,B,l,F,Q,m,h3⟩:=W;have p:H' T=QY/\X.s₀.heap.get? T=QY:=by
  by_cases hm:T∈ext++g_ X.stack
  .rcases S4.mp hm with hm|hm
   .exact⟨(c T hm).2,(c T hm).1⟩
   .obtain⟨o,e,nf⟩:=f T hm
    rw[Q]at e;cases e;exact RJ m (nf P)
  .have hs:s'.heap.get? T=QY:=by
    cases q:s'.heap.get? T with
    |none=>rfl
    |some o=>rw[hideAll_get _ q hm]at l;cases l
   constructor
   .cases q:H' T with
    |none=>rfl
    |some o=>obtain⟨ob,e⟩:=(hok T o q).there;rw[hs]at e;cases e
   .cases q:X.s₀.heap.get? T with
    |none=>rfl
    |some o=>obtain⟨ob,e⟩:=d.there T o q (by simp);rw[hs]at e;cases e
 refine⟨os,bare,⟨λb o e n hb _=>?_,λb o e n hb _=>?_,λb o e n hb=>d.free b o e n hb,λb o e _=>?_,d.tups,d.frzs,d.tbls⟩,λa o e=>?_,⟨oe,vs,T,oT,P,a0,he,hc,hd,B,F,Q,m,h3,p.1,p.2⟩,(c x O).2,(c x O).1,wish⟩
 .have nf:b∉g_ X.stack:=λz=>(h b z).elim (A b o e) hb
  exact stay b o (d.keep b o e n nf (by simp)) (k b o e) nf
 .obtain⟨sl,r⟩:=d.slot b o e n (j b hb) (by simp)
  obtain⟨_,J,v,nf⟩:=I.ok.funs.mem hb;rw[e]at v;cases v;obtain⟨N,e3⟩:=Y b _ r nf;exact⟨N,e3⟩
 .obtain⟨J,r⟩:=d.there b o e (by simp)
  by_cases hb:b∈g_ X.stack
  .obtain⟨o2,v,_⟩:=f b hb
   exact⟨o2,v⟩
  .exact⟨J,stay b J r (k b o e) hb⟩
 .refine(hok a o e).stay (λb u hb r=>?_) (λ_ q=>q) λ_ _ q=>q
  have t:H' b≠QY:=by
   rcases hb with rfl|hb
   .rw[e];simp
   .rw[hb];simp
  exact stay b u r (λz=>t (c b z).2) λz=>t (y b z)
theorem BT{h base:SE}(d:h.FunFrames base l)(c:∀b∈g_ l,b∈as):h.FunFrames (hideAll h as) l:=
 PySem.W.funFrames_hide d λenv e a ha=>c a (by unfold g_;exact V1.mpr ⟨env,e,ha⟩)
theorem LB{X:Cx}{E F:XK}(a:X.stack=X.env::X.outer)(d:X.env.frame=on X.env.locals)(f:X.ex=[])(R:∀cls J H,F cls J H->E cls J H)
  (I:cy X ba σ H s) (h:hY X.prog X.w X.stack H s F e s'):
  Rt (RN X.prog X.w) X.A (leaving X.env e) (λ_ j=>hY X.prog X.w X.outer X.H₀ X.s₀ E e j) E1 s':=by
 obtain⟨x,C,N,rfl,os,bare,un,hok,⟨U,vs,T,W,Y,a0,Z,hc,hd,h1,k,hT,m,h3,n,p⟩,xn,xs,wish⟩:=h;have nofs:∀b∈X.fs,b∈g_ X.stack:=λb hb=>by
  rw[a];unfold g_;rw[S8,d];exact Q1 _ hb
 have O:Un (g_ X.stack) [] X.H₀ H X.s₀.heap s.heap:=by
  have b:=I.base;rw[f]at b;exact b.mono nofs λ_ z=>z
 have U0:=O.trans un;have g:∀b,s.heap.get? b=QY->X.s₀.heap.get? b=QY:=λb e=>by
  cases q:X.s₀.heap.get? b with
  |none=>rfl
  |some o=>obtain⟨o',P⟩:=O.there b o q (by simp);rw[e]at P;cases P
 have c:=I.stack;have i:s'.heap.FunFrames X.base X.stack:=by
  have all:∀(l:List Yi),(∀b∈g_ l,b∈g_ X.stack)->s.heap.FunFrames X.base l->s'.heap.FunFrames X.base l:=by
   intro l
   induction l with
   |nil=>intro _ _;trivial
   |cons env r ih=>
    intro hs hl;obtain⟨hk,⟨L,o,t,hn,u,v⟩,hr⟩:=hl;have Q:L∈g_ X.stack:=hs L (by unfold g_;rw[S8,t];exact Q7);obtain⟨sl,e⟩:=un.slot L o u (I.stkFree L Q) Q (by simp);exact⟨hk,⟨L,_,t,hn,e,v⟩,ih (λb hb=>hs b (by unfold g_;rw[S8,t];exact Q1 _ hb)) hr⟩
  exact all X.stack (λ_ hb=>hb) c
 have y:∀b∈g_ X.stack,N b=QY:=λb hb=>by
  obtain⟨_,o,u,_⟩:=c.mem hb;exact un.free b o u (I.stkFree b hb) (by simp)
 have B:∀b∈g_ X.stack,b∈[x,T]++g_ X.stack:=λb hb=>Sa _ hb;have hF:s'.heap.FunFrames (hideAll s'.heap ([x,T]++g_ X.stack)) (X.env::X.outer):=by
  have z:=BT i B;rw[a]at z⊢;exact z
 refine wpAny_leaving_nextW (base:=hideAll s'.heap ([x,T]++g_ X.stack)) (by rw[<-a];exact I.ok.frames) hF d ⟨U,vs,T,W,Y,Z,hc,hd,h1,hideAll_none _ (by simp),k,hT,m,h3⟩ (λb o q=>Y5 _ q) (hideAll_none _ (by simp)) λh' L=>?_;refine⟨x,C,N,rfl,BD I a d f (os.trans I.os) bare U0 hok y (λb hb=>?_) (by simp) (R _ _ _ wish) L⟩;rcases Rq.mp hb with rfl|hb
 .exact⟨g _ xs,xn⟩
 .obtain rfl:b=T:=by simpa using hb
  exact⟨g _ p,n⟩
section
variable{X:Cx}{ba:List (Q6×RA)}{σ:St}{H H':Hp}{s s':Rg}{E:XK}{x C:Q6}
structure XC (K:RB) (C:Q6):Prop where
 sh:∃bm,∀h:SE,K.In h->Wi h C bm
 sa:Vc K (.ref C) "__setattr__"=on (on (.builtin "object.__setattr__"))
 cd:∃cd,PySem.W.clsIn K C=on cd/\cd.hasDict=Q4/\xu cd.mro=Q4
structure XMk (K:RB) (C f:Q6):Prop where
 xc:XC K C
 init:Vc K (.ref C) "__init__"=on (on (.ref f))
 fn:isFn K (.ref f)=Q4
 kp:WS K (.ref C)=Q4
end
section
variable{X:Cx}{CX:F_}{k:Nat}{f C:Q6}{fd:RG}{ps:List R3}{sp:Sp}{dvs:List V}{ds:List Ra}{E:St->XK}{x m:R3}{p pos apos:Vy}{e o:Expr}{es:List Expr}{ta:TE}{t:TA}
structure ClsFn (K:RB) (D:Q6) (m:R3) (f:Q6):Prop where
 ga:specialIn K (.ref D) "__getattribute__"=on (on (.builtin "type.__getattribute__"))
 rd:PySem.W.readsIn K D (.type "type")=Q4
 fnd:PySem.W.findCls K (.ref D) (.type "type") m=on (.val (.ref f))
 kp:WS K (.ref f)=Q4
end
section
variable{P:RT}{w:R8}{K:RB}{mg:R3->Option Ra}{base:SE}{N:List R3}{qual:R3}{scope:Scope}{f:Q6}{cd:Ra}{A:SB}{outer:List Yi}{s:Rg}{H:Hp}{E:XK}
theorem bH:cI (hY P w) (gn (hY P w) P w K mg base N qual scope f cd A outer s H E) (λ_=>E):=λa b c d e s' I h=>LB (X:=gn (hY P w) P w K mg base N qual scope f cd A outer s H E) rfl rfl rfl (λ_ _ _ z=>z) I h
theorem yk:cI (hY P w) X E0:=λ_ _ _ _ _ _ _ h=>by
 obtain⟨_,_,_,_,F⟩:=h;exact F.wish.elim
theorem cP:ZW (RN P w) (A.deeper (VL qual scope s.heap.objs.size f cd)) (VL qual scope s.heap.objs.size f cd) (gn (hY P w) P w K mg base N qual scope f cd A outer s H E).xe:=PassesOwn.leaving
structure dq (K:RB) (x qual:R3) (st:Sy) (f:Q6) (fd:RG):Prop where
 ex:∃(oc:Ra) (od:Option Q6) (dV kV doc pm:Ra) (an:Option Q6) (cdv ct:Ra) (osl:Array (Option Ra)),
  fd=Va x qual (iM st) (c8 st) (ae st) dV kV doc pm an cdv ct/\K.lookup f=on ⟨oc,od,.func fd,osl⟩/\VH K cdv qual=Q4
 kp:WS K (.ref f)=Q4
theorem Mf{K:RB}{x qual:R3}{st:Sy}{f:Q6}(l:K.lookup f=on ⟨oc,od,.func (Va x qual (iM st) (c8 st) (ae st) dV kV doc pm an cdv ct),osl⟩)
  (c:VH K cdv qual=Q4) (k:WS K (.ref f)=Q4):dq K x qual st f (Va x qual (iM st) (c8 st) (ae st) dV kV doc pm an cdv ct):=⟨⟨oc,od,dV,kV,doc,pm,an,cdv,ct,osl,rfl,l,c⟩,k⟩
theorem dq.okE{x qual:R3}{st:Sy}{f:Q6}{N ps:List R3}(F:dq K x qual st f fd)(S:cb N ps (ae st))(len:∀vs H Q E,sp vs H Q E->vs.length=ps.length)
  (b:∀(a:Ra) (A:SB) (outer:List Yi) (s:Rg) (H:Hp) (vs:List V) (Q:VK) (E:XK),ef k (A.deeper (VL qual (ae st) s.heap.objs.size f a))->sp vs H Q E->
   ∃t,PSs (gn (hY P w) P w K mg base N qual (ae st) f a A outer s H E) (c8 st) t/\t {nx:=λ_ e=>Q .non e,rt:=Q} (fJ N vs) H):fh P w K mg base (hY P w) (k+1) f fd ps sp:=by
 obtain⟨l,m,n,o,g,p,q,a,ct,h,rfl,i,c⟩:=F.ex;exact KD i c S len λA outer s H vs Q E j d=>b a A outer s H vs Q E j d
theorem dq.ok{x qual:R3}{st:Sy}{f:Q6}{N ps:List R3}(F:dq K x qual st f fd)(S:cb N ps (ae st))(len:∀vs H Q E,sp vs H Q E->vs.length=ps.length)
  (b:∀(a:Ra) (A:SB) (outer:List Yi) (s:Rg) (H:Hp) (vs:List V) (Q:VK) (E:XK),ef k (A.deeper (VL qual (ae st) s.heap.objs.size f a))->sp vs H Q E->
   ∃t,PSs (gn (hY P w) P w K mg base N qual (ae st) f a A outer s H E).nox (c8 st) t/\t {nx:=λ_ e=>Q .non e,rt:=Q} (fJ N vs) H):fh P w K mg base (hY P w) (k+1) f fd ps sp:=by
 obtain⟨m,n,o,p,g,r,u,a,ct,i,rfl,j,c⟩:=F.ex;refine KD j c S len λA outer s H vs Q E l d=>?_;obtain⟨t,h,q⟩:=b a A outer s H vs Q E l d;exact⟨t,h.nox,q⟩
abbrev TJ:=St->Hp->Nat->(Nat->Hp->Prop)->Prop
variable{X:Cx}{es:List Expr}{t:TJ}{pos:Vy}
theorem sU(i:X.calm=Q4):dJ X (.builtin "sum") (λxs H Q=>∃(a:Q6) (ns:List Int),xs=[.ref a]/\e_ X.K H a (ns.map V.int)/\Q (.int ns.sum) H):=by
 intro b s o H xs us Q I r h;obtain⟨a,ns,rfl,j,q⟩:=h;cases r with
 |cons r1 k=>
  cases r1;cases k;obtain⟨its,l,p,u⟩:=I.list j;have c:=qy l;obtain⟨xs,ex⟩:=c.allInts.items;have d:=p.isList;rw[ex]at d;refine sum_intListG (I.ok.hd i) d λh' v t' m=>?_;have e:preSum (numAt xs) xs.size=ns.sum:=by
   have g:=c.numsOf;have n:its=(Zc xs).toList:=by rw[<-ex]
   rw[n,nums_intItems]at g;rw[preSum_eq,TY (by simp),g]
  rw[e];exact⟨.int ns.sum,H,I.kept m,⟨_,rfl⟩,q⟩
def KO(i j:Int):Prop:=0<j/\j.natAbs.log2<9000
def ipC(C:Int->Int->Prop)(f:Int->Int->Int):TIp:=λx y H Q=>∃i j,x= .int i/\y= .int j/\C i j/\Q (.int (f i j)) H
theorem L8:PIp X .FloorDiv (ipC KO λi j=>i/j):=by
 intro a s d H x y v u Q I r1 b h;obtain⟨i,j,rfl,rfl,c,q⟩:=h;obtain⟨t,rfl⟩:=r1;obtain⟨t',rfl⟩:=b;have e:(0:Int)<j:=c.1;refine ifloordiv_int (by omega) ?_ (.inl (PyProof.noPylong_of_log2 c.2));rw[Yo _ (by omega)];exact⟨.int _,H,I.tok _,⟨_,rfl⟩,q⟩
theorem y0{K:RB}{xs:List V}{H:Hp}(Pv:Nat->St->Hp->Prop)(u:Pv 0 c H)(k:∀i c H,i<=xs.length->Pv i c H->e_ K H a xs)
  (h:∀i x c H,xs[i]?=on x->Pv i c H->g x c H λd v=>tt d v λb r=>if b=Q4 then tb d r (Pv (i+1))else Pv (i+1) d r) (l:∀c H,Pv xs.length c H->Q c H):dG (Itl K a) g tt tb c H Q:=by
 refine⟨λi m c H=>i<=xs.length/\m+i=xs.length/\Pv i c H,⟨xs.length,Ss _,by omega,u⟩,λi m c H ⟨n,hm,j⟩=>?_⟩;by_cases o:i<xs.length
 .refine .inr ⟨⟨xs,xs[i],k i c H n j,Q2 o⟩,Pv (i+1),λy p q=>⟨m-1,by omega,by omega,by omega,q⟩,λx p ⟨e,B⟩=>?_⟩
  subst e;exact h i x c p (B xs (k i c p n j)) j
 .obtain rfl:i=xs.length:=by omega
  exact .inl ⟨⟨xs,k _ c H n j,Rf _⟩,l c H j⟩
theorem dk.plain{X:Cx}{scope:Scope}(k:scope.kind= .function)(nd:(scope.names.map (·.1)).Nodup)(f:∀y∈scope.names,y.2≠ .free):dk X scope c_ c_ []:=
 ⟨k,nd,λy a e=>RJ e (f y a),by simp,λj b=>RJ b (by simp)⟩
def uj(i j:Int):Prop:=i.natAbs<2^1000/\j.natAbs<2^1000
theorem jP{k:Int}(h:k.natAbs<2^1000):Yh k<=2^20:=by
 unfold Yh;split
 .exact Ss _
 .rename_i a
  have b:k.natAbs≠0:=by
   intro z;have:k=0:=Int.natAbs_eq_zero.mp z;subst this;simp at a
  have:=(Nat.log2_lt b).mpr h;have e:(2:Nat)^20=1048576:=by decide
  omega
theorem kr{X:Cx}:fx X (Uk .Mult) (rI uj λi j=> .int (i*j)):=nj λ_ _ _ _ _ _ _ a q=>mul_int q (Zm (jP a.1) (jP a.2))
theorem bK.upd{H:Hp}(h:H a=QY):bK H (upd H a o):=λb u e=>by rw[b_ (az e h)];exact e
abbrev f_:=Int×List Int
noncomputable def hI(k:List Int):Int:=reduceHash (Vq (k.map hashInt))
def hB:Bool->f_->Int
 |true,k=>reduceHash (Vq [hashInt k.1,hI k.2])
 |false,k=>hI k.2
def zd(a:Q6)(b:Bool)(ep:Nat)(xs:List (f_×Q6×V))(h:SE):Prop:=
 ∃o es,∃ys:List (f_×Q6×Ra),h.get? a=on o/\o.ExactDict/\o.data= .dict es ep/\es.toList=ys.map (λy=>⟨hB b y.1,.ref y.2.1,y.2.2⟩)/\(ys.map (·.1)).Nodup/\(a==XQ)=Q9/\ys.length<=RF/\
  XM (λ(x:f_×Q6×V) (y:f_×Q6×Ra)=>x.1=y.1/\x.2.1=y.2.1/\aT x.2.2 y.2.2) xs ys
noncomputable def dW(a:Q6)(b:Bool)(ep:Nat)(xs:List (f_×Q6×V)):HO:= .ext (zd a b ep xs)
theorem xA{P:RT}{w:R8}{b:Bool}{H:Hp}(S:zd a b ep xs h):cL P w H h a (dW a b ep xs):=by
 refine⟨S,?_,λc d z k=>?_⟩
 .obtain⟨o,_,_,e,_⟩:=S
  exact⟨o,e⟩
 .obtain⟨o,es,ys,e,r⟩:=z
  exact⟨o,es,ys,k _ e,r⟩
end
end L2
namespace L2.Pu
open PySem PySem.Spec PyProof.Rows
theorem ll{α d e:Sort _}{P Q R:α->d->e->Prop}{C:Prop}(h:∃a b c,P a b c/\Q a b c/\R a b c)(k:∀a b c,P a b c->Q a b c->R a b c->C):C:=by
 obtain⟨a,b,c,x,y,z⟩:=h;exact k a b c x y z
theorem oa{α c:Sort _}{P Q R:α->c->Prop}{C:Prop}(h:∃a b,P a b/\Q a b/\R a b)(k:∀a b,P a b->Q a b->R a b->C):C:=by
 obtain⟨a,b,x,y,z⟩:=h;exact k a b x y z
inductive D where
 |non|bl (b:Bool)|int (i:Int)|str (x:R3)|ty (n:String)|txt
 |lst (xs:List D)|tup (xs:List D)|scr (xs:List Int)|obj (C:Q6) (ns:List R3) (xs:List D)|bag|adr (a:Q6)|dct (b:Bool) (ks:List f_) (vs:List D)
structure Bg where
 cells:List Int
 i:Int
 j:Int
structure Fx where
 A:Q6->Prop
 bg:Option (Q6×Q6)
def KL(K:RB)(a:Q6)(xs:List V):Prop:=
 ∃(o:RA) (its:Array Ra) (n:Nat),K.lookup a=on o/\o.cls= .type "list"/\o.dict=QY/\o.data= .seq its n/\its.size<=RF/\au xs its.toList
def KT(K:RB)(a:Q6)(xs:List V):Prop:=
 ∃(o:RA) (its:Array Ra) (n:Nat),K.lookup a=on o/\o.cls= .type "tuple"/\o.data= .seq its n/\its.size<=RF/\au xs its.toList
def TQ(K:RB)(F:Fx)(H:Hp)(c:Q6)(xs:List V):Prop:=(¬F.A c/\Rd H c (.tup xs))\/KT K c xs
def ik(K:RB)(F:Fx)(H:Hp):Bool->f_->Q6->Prop
 |true,k,c=>∃e,TQ K F H c [.int k.1,.ref e]/\TQ K F H e (k.2.map V.int)
 |false,k,c=>k.1=0/\TQ K F H c (k.2.map V.int)
mutual
noncomputable def cp(K:RB)(F:Fx)(H:Hp):D->V->Prop
 | .non,v=>v= .non
 | .bl b,v=>v= .bl b
 | .int i,v=>v= .int i
 | .str x,v=>v= .str x
 | .ty n,v=>v= .ty n
 | .txt,v=>∃z,v= .str z
 | .lst ds,v=>∃a xs,v= .ref a/\(¬F.A a/\Rd H a (.lst xs))/\bb K F H ds xs
 | .scr ns,v=>∃a,v= .ref a/\((¬F.A a/\Rd H a (.lst (ns.map V.int)))\/KL K a (ns.map V.int))
 | .tup ds,v=>∃a xs,v= .ref a/\((¬F.A a/\Rd H a (.tup xs))\/KT K a xs)/\bb K F H ds xs
 | .obj C ns ds,v=>∃a c xs,v= .ref a/\¬F.A a/\H a=on (.ins C c (ns.zip xs))/\ns.length=xs.length/\bb K F H ds xs
 | .bag,v=>∃b l,F.bg=on (b,l)/\v= .ref b
 | .adr a,v=>v= .ref a
 | .dct b ks vs,v=>∃a ep xs,v= .ref a/\(¬F.A a/\H a=on (dW a b ep xs))/\ks=xs.map (·.1)/\(∀x∈xs,ik K F H b x.1 x.2.1)/\bb K F H vs (xs.map (·.2.2))
noncomputable def bb(K:RB)(F:Fx)(H:Hp):List D->List V->Prop
 |[],xs=>xs=[]
 |d::ds,xs=>∃x r,xs=x::r/\cp K F H d x/\bb K F H ds r
end
structure Tr (F:Fx) (H:Hp) (F2:Fx) (H2:Hp):Prop where
 av:∀a,¬F.A a->H a≠QY->¬F2.A a
 kp:∀a o,¬F.A a->H a=on o->H2 a=on o
 bg:F2.bg=F.bg
theorem Tr.refl(F:Fx)(H:Hp):Tr F H F H:=⟨λ_ h _=>h,λ_ _ _ h=>h,rfl⟩
theorem Tr.trans(a:Tr F H F1 H1)(b:Tr F1 H1 F2 H2):Tr F H F2 H2:=
 ⟨λx c d=>b.av x (a.av x c d) (by
   cases q:H x with
   |none=>exact RJ q d
   |some o=>rw[a.kp x o c q];simp),
  λx o c d=>b.kp x o (a.av x c (by rw[d];simp)) (a.kp x o c d),b.bg.trans a.bg⟩
theorem Rd.tr{F b:Fx}(t:Tr F H b H2)(h:¬F.A a)(r:Rd H a u):¬b.A a/\Rd H2 a u:=by
 rcases r with r|⟨o,r⟩
 .exact⟨t.av a h (by rw[r];simp),.inl (t.kp a _ h r)⟩
 .exact⟨t.av a h (by rw[r];simp),.inr ⟨o,t.kp a _ h r⟩⟩
theorem TQ.tr{K:RB}(t:Tr F H F2 H2)(h:TQ K F H c xs):TQ K F2 H2 c xs:=h.imp (λh=>Rd.tr t h.1 h.2) id
theorem ik.tr{K:RB}{b:Bool}(t:Tr F H F2 H2)(h:ik K F H b k c):ik K F2 H2 b k c:=by
 cases b with
 |true=>
  obtain⟨e,a,d⟩:=h;exact⟨e,a.tr t,d.tr t⟩
 |false=>exact⟨h.1,h.2.tr t⟩
mutual
theorem cp.tr{K:RB}(t:Tr F H F2 H2):∀(d:D) (v:V),cp K F H d v->cp K F2 H2 d v
 | .non,v,h=>h
 | .bl b,v,h=>h
 | .int i,v,h=>h
 | .str x,v,h=>h
 | .ty n,v,h=>h
 | .txt,v,h=>h
 | .lst ds,v,h=>by
  unfold cp at h⊢;obtain⟨a,xs,e,c,f⟩:=h;exact⟨a,xs,e,Rd.tr t c.1 c.2,bb.tr t ds xs f⟩
 | .scr ns,v,h=>by
  unfold cp at h⊢;obtain⟨a,e,c⟩:=h;exact⟨a,e,c.imp (λ⟨p,q⟩=>Rd.tr t p q) id⟩
 | .tup ds,v,h=>by
  unfold cp at h⊢;obtain⟨a,xs,e,c,f⟩:=h;exact⟨a,xs,e,c.imp (λ⟨p,q⟩=>Rd.tr t p q) id,bb.tr t ds xs f⟩
 | .obj C ns ds,v,h=>by
  unfold cp at h⊢;obtain⟨a,k,xs,e,c,f,g,j⟩:=h;exact⟨a,k,xs,e,t.av a c (by rw[f];simp),t.kp a _ c f,g,bb.tr t ds xs j⟩
 | .bag,v,h=>by
  unfold cp at h⊢;rw[t.bg];exact h
 | .adr a,v,h=>by
  unfold cp at h⊢;exact h
 | .dct b ks vs,v,h=>by
  unfold cp at h⊢;obtain⟨a,ep,xs,e,c,f,g,j⟩:=h;exact⟨a,ep,xs,e,⟨t.av a c.1 (by rw[c.2];simp),t.kp a _ c.1 c.2⟩,f,λx l=>(g x l).tr t,bb.tr t vs _ j⟩
theorem bb.tr{K:RB}(t:Tr F H F2 H2):∀(ds:List D) (xs:List V),bb K F H ds xs->bb K F2 H2 ds xs
 |[],xs,h=>h
 |d::ds,xs,h=>by
  unfold bb at h⊢;obtain⟨x,r,e,a,b⟩:=h;exact⟨x,r,e,cp.tr t d x a,bb.tr t ds r b⟩
end
section
variable{K:RB}{F:Fx}{H:Hp}
theorem bb.nil:bb K F H [] []:=rfl
theorem bb.cons(h:cp K F H d x)(t:bb K F H ds xs):bb K F H (d::ds) (x::xs):=⟨x,xs,rfl,h,t⟩
theorem bb.length:∀{ds:List D} {xs:List V},bb K F H ds xs->ds.length=xs.length
 |[],xs,h=>by have e:xs=[]:=h;subst e;rfl
 |d::ds,xs,h=>by
  obtain⟨x,r,e,_,a⟩:=h;subst e;rw[Rl,Rl,bb.length a]
theorem bb.get:∀{ds:List D} {xs:List V} {i:Nat} {d:D},bb K F H ds xs->ds[i]?=on d->∃x,xs[i]?=on x/\cp K F H d x
 |[],_,_,_,_,e=>by simp at e
 |c::ds,xs,0,d,h,e=>by
  obtain⟨x,r,q,a,b⟩:=h;subst q;simp at e;subst e;exact⟨x,rfl,a⟩
 |c::ds,xs,i+1,d,h,e=>by
  obtain⟨x,r,q,a,b⟩:=h;subst q;obtain⟨y,f,g⟩:=bb.get (i:=i) (d:=d) b (by simpa using e);exact⟨y,by simpa using f,g⟩
theorem bb.getV:∀{ds:List D} {xs:List V} {i:Nat} {x:V},bb K F H ds xs->xs[i]?=on x->∃d,ds[i]?=on d/\cp K F H d x
 |[],xs,_,_,h,e=>by have q:xs=[]:=h;subst q;simp at e
 |c::ds,xs,0,d,h,e=>by
  obtain⟨x,r,q,a,b⟩:=h;subst q;simp at e;subst e;exact⟨c,rfl,a⟩
 |c::ds,xs,i+1,d,h,e=>by
  obtain⟨x,r,q,a,b⟩:=h;subst q;obtain⟨y,f,g⟩:=bb.getV (i:=i) (x:=d) b (by simpa using e);exact⟨y,by simpa using f,g⟩
theorem bb.append:∀{ds es:List D} {xs ys:List V},bb K F H ds xs->bb K F H es ys->bb K F H (ds++es) (xs++ys)
 |[],_,xs,_,h,h'=>by have q:xs=[]:=h;subst q;exact h'
 |c::ds,es,xs,ys,h,h'=>by
  obtain⟨x,r,q,a,b⟩:=h;subst q;exact⟨x,r++ys,rfl,a,bb.append b h'⟩
theorem bb.take:∀{ds:List D} {xs:List V} (n:Nat),bb K F H ds xs->bb K F H (ds.take n) (xs.take n)
 |[],xs,n,h=>by have q:xs=[]:=h;subst q;simp;rfl
 |c::ds,xs,0,h=>by simp;rfl
 |c::ds,xs,n+1,h=>by
  obtain⟨x,r,q,a,b⟩:=h;subst q;exact⟨x,r.take n,rfl,a,bb.take n b⟩
theorem bb.drop:∀{ds:List D} {xs:List V} (n:Nat),bb K F H ds xs->bb K F H (ds.drop n) (xs.drop n)
 |[],xs,n,h=>by have q:xs=[]:=h;subst q;simp;rfl
 |c::ds,xs,0,h=>h
 |c::ds,xs,n+1,h=>by
  obtain⟨x,r,q,b,a⟩:=h;subst q;exact bb.drop n a
theorem bb.set:∀{ds:List D} {xs:List V} (i:Nat) {d:D} {x:V},bb K F H ds xs->cp K F H d x->bb K F H (ds.set i d) (xs.set i x)
 |[],xs,i,_,_,h,_=>by have q:xs=[]:=h;subst q;simp;rfl
 |c::ds,xs,0,d,x,h,hd=>by
  obtain⟨y,r,q,b,a⟩:=h;subst q;exact⟨x,r,rfl,hd,a⟩
 |c::ds,xs,i+1,d,x,h,hd=>by
  obtain⟨y,r,q,b,a⟩:=h;subst q;exact⟨y,r.set i x,rfl,b,bb.set i a hd⟩
theorem cp.sqL(h:cp K F H (.lst ds) v):∃a xs,v= .ref a/\e_ K H a xs/\bb K F H ds xs:=by
 unfold cp at h;obtain⟨a,xs,e,b,c⟩:=h;exact⟨a,xs,e,.inl b.2,c⟩
theorem cp.rdL(h:cp K F H (.lst ds) v):∃a xs,v= .ref a/\Rd H a (.lst xs)/\bb K F H ds xs:=by
 unfold cp at h;obtain⟨a,xs,e,b,c⟩:=h;exact⟨a,xs,e,b.2,c⟩
theorem cp.scr{ns:List Int}(h:cp K F H (.scr ns) v):∃a,v= .ref a/\e_ K H a (ns.map V.int):=by
 unfold cp at h;obtain⟨a,e,b⟩:=h;exact⟨a,e,b.imp (λp=>p.2) id⟩
theorem cp.sqT(h:cp K F H (.tup ds) v):∃a xs,v= .ref a/\il K H a xs/\bb K F H ds xs:=by
 unfold cp at h;obtain⟨a,xs,e,b,c⟩:=h;exact⟨a,xs,e,b.imp (λp=>p.2) id,c⟩
theorem cp.int(h:cp K F H (.int i) v):v= .int i:=h
theorem cp.bl{i:Bool}(h:cp K F H (.bl i) v):v= .bl i:=h
theorem cp.str(h:cp K F H (.str i) v):v= .str i:=h
theorem cp.non(h:cp K F H .non v):v= .non:=h
theorem cp.ty(h:cp K F H (.ty n) v):v= .ty n:=h
theorem bb.ints:∀(ns:List Int) {xs:List V},bb K F H (ns.map D.int) xs->xs=ns.map V.int
 |[],xs,h=>h
 |n::ns,xs,h=>by
  obtain⟨x,r,e,a,b⟩:=h;rw[e,bb.ints ns b];have q:x= .int n:=a;rw[q];rfl
theorem bb.ofInts:∀(ns:List Int),bb K F H (ns.map D.int) (ns.map V.int)
 |[]=>rfl
 |n::ns=>⟨.int n,ns.map V.int,rfl,rfl,bb.ofInts ns⟩
structure Fr (F:Fx) (H:Hp) (β:Bg):Prop where
 occ:∀a,F.A a->H a≠QY
 bgA:∀b l,F.bg=on (b,l)->F.A b/\F.A l/\b≠l
 bag:∀b l,F.bg=on (b,l)->H b=on (.lst [.ref l,.int β.i,.int β.j])/\H l=on (.lst (β.cells.map V.int))
structure To (F:Fx) (H H':Hp) (β':Bg):Prop where
 kp:∀a o,H a=on o->(∀b l,F.bg=on (b,l)->a≠b/\a≠l)->H' a=on o
 fr:Fr F H' β'
theorem To.refl{F:Fx}{H:Hp}(fr:Fr F H β):To F H H β:=⟨λ_ _ h _=>h,fr⟩
theorem To.trans{F:Fx}{H c d:Hp}(a:To F H c β1)(b:To F c d β2):To F H d β2:=⟨λx o h n=>b.kp x o (a.kp x o h n) n,b.fr⟩
theorem Fr.same{F:Fx}{H c:Hp}(fr:Fr F H β)(s:bK H c):To F H c β:=
 ⟨λa o h _=>s a o h,⟨λa h q=>(by
  cases e:H a with
  |none=>exact fr.occ a h e
  |some o=>exact RJ ((s a o e).symm.trans q) (by simp)),fr.bgA,λb l e=>⟨s _ _ (fr.bag b l e).1,s _ _ (fr.bag b l e).2⟩⟩⟩
theorem Fr.upd{F:Fx}{H:Hp}(fr:Fr F H β)(o:HO)(h:H p=QY):To F H (upd H p o) β:=fr.same (bK.upd h)
theorem Fr.fresh{F:Fx}{H:Hp}(fr:Fr F H β)(h:H p=QY):¬F.A p:=λq=>fr.occ p q h
theorem To.tr{F:Fx}{H c:Hp}(fr:Fr F H β)(t:To F H c β'):Tr F H F c:=
 ⟨λ_ h _=>h,λa o h e=>t.kp a o e λb l q=>⟨λz=>h (z▸(fr.bgA b l q).1),λz=>h (z▸(fr.bgA b l q).2.1)⟩,rfl⟩
abbrev Dn:=List (Option D)
structure ix (K:RB) (F:Fx) (H:Hp) (δ:Dn) (σ:St):Prop where
 len:δ.length=σ.length
 tell:∀(i:Nat) (d:D),δ[i]?=on (on d)->∃v,σ[i]?=on (on v)/\cp K F H d v
theorem ix.tr{K:RB}{F a:Fx}{H b:Hp}(t:Tr F H a b)(h:ix K F H δ σ):ix K a b δ σ:=⟨h.len,λi d e=>let ⟨v,h1,h2⟩:=h.tell i d e;⟨v,h1,cp.tr t d v h2⟩⟩
theorem ix.set{K:RB}{F:Fx}{H:Hp}{δ:Dn}{a:St}(h:ix K F H δ a)(hd:cp K F H d v):ix K F H (δ.set i (on d)) (a.set i (on v)):=by
 refine⟨by rw[RV,RV,h.len],λj c e=>?_⟩;rw[R4]at e;rw[R4];by_cases q:i=j
 .subst q
  rw[Rb rfl]at e⊢;split at e
  .rename_i b
   cases e;rw[Rb (by rw[<-h.len];exact b)];exact⟨v,rfl,hd⟩
  .cases e
 .rw[Q8 q]at e⊢
  exact h.tell j c e
def Sub(δ δ1:Dn):Prop:=∀(i:Nat) (d:D),δ[i]?=on (on d)->δ1[i]?=on (on d)
theorem ix.sub{K:RB}{F:Fx}{H:Hp}{δ δ1:Dn}(h:ix K F H δ1 σ)(s:Sub δ δ1)(l:δ.length=δ1.length):ix K F H δ σ:=⟨l.trans h.len,λi d e=>h.tell i d (s i d e)⟩
abbrev M(α:Type):=Bg->Option (Except Q6 α×Bg)
noncomputable def M.ret{α:Type}(a:α):M α:=λβ=>on (.ok a,β)
noncomputable def M.bind{α b:Type}(m:M α)(k:α->M b):M b:=λβ=>match m β with
 |none=>QY
 |some (.error C,β1)=>on (.error C,β1)
 |some (.ok a,β1)=>k a β1
noncomputable def M.ofO{α:Type}(o:Option α):M α:=λβ=>match o with
 |some a=>on (.ok a,β)
 |none=>QY
noncomputable def M.fail{α:Type}:M α:=λ_=>QY
theorem M.bind_some{α b:Type}(a:α)(k:α->M b):M.bind (M.ofO (on a)) k=k a:=rfl
theorem M.bind_ok{α b:Type}{m:M α}{k:α->M b}{β β1:Bg}{a:α}(h:m β=on (.ok a,β1)):M.bind m k β=k a β1:=by unfold M.bind;rw[h]
theorem M.bind_err{α a:Type}{m:M α}{k:α->M a}{β β1:Bg}{C:Q6}(h:m β=on (.error C,β1)):M.bind m k β=on (.error C,β1):=by unfold M.bind;rw[h]
def run{α c:Type}(R:Hp->α->c->Prop)(F:Fx)(E:St->XK)(e:St)(m:M α)(H:Hp)(Q:c->Hp->Prop)(β:Bg):Prop:=
 ∃r a,m β=on (r,a)/\match r with
  | .ok d=>∀v b,To F H b a->R b d v->Q v b
  | .error C=>∀b,To F H b a->E e (.ref C) QY b
theorem run.mono{α c:Type}{R:Hp->α->c->Prop}{F:Fx}{E:St->XK}{g:St}{m:M α}{H:Hp}{Q i:c->Hp->Prop}{β:Bg}(h:run R F E g m H Q β)(f:∀v a,Q v a->i v a):run R F E g m H i β:=by
 obtain⟨r,b,e,h⟩:=h;refine⟨r,b,e,?_⟩;cases r with
 |ok d=>exact λv a t q=>f v a (h v a t q)
 |error C=>exact h
theorem run.bind{α l i j:Type}{R:Hp->α->l->Prop}{R2:Hp->i->j->Prop}{F:Fx}{E:St->XK}{b:St}{m:M α}{k:α->M i}{H:Hp}{Q:j->Hp->Prop}{β:Bg}(h:run R2 F E b (M.bind m k) H Q β):
  run R F E b m H (λv a=>∃d β1,To F H a β1/\R a d v/\run R2 F E b (k d) a Q β1) β:=by
 obtain⟨r,c,e,h⟩:=h;cases q:m β with
 |none=>unfold M.bind at e;rw[q]at e;cases e
 |some z=>
  obtain⟨r1,β1⟩:=z;refine⟨r1,β1,q,?_⟩;cases r1 with
  |error C=>
   rw[M.bind_err q]at e;cases e;exact h
  |ok d=>
   rw[M.bind_ok q]at e;intro v a t hd;refine⟨d,β1,t,hd,r,c,e,?_⟩;cases r with
   |ok d2=>exact λn f g o=>h n f (t.trans g) o
   |error C=>exact λf g=>h f (t.trans g)
theorem run.ret{α b:Type}{R:Hp->α->b->Prop}{F:Fx}{E:St->XK}{c:St}{a:α}{v:b}{H:Hp}{Q:b->Hp->Prop}{β:Bg}(fr:Fr F H β)(h:run R F E c (M.ret a) H Q β)(r:R H a v):Q v H:=by
 obtain⟨_,_,e,h⟩:=h;cases e;exact h v H (To.refl fr) r
theorem run.ofO{α c:Type}{R:Hp->α->c->Prop}{F:Fx}{E:St->XK}{d:St}{o:Option α}{H:Hp}{Q:c->Hp->Prop}{β:Bg}(h:run R F E d (M.ofO o) H Q β):∃a,o=on a/\∀v b,To F H b β->R b a v->Q v b:=by
 obtain⟨_,_,e,h⟩:=h;cases o with
 |none=>cases e
 |some a=>cases e;exact⟨a,rfl,h⟩
abbrev FD:=Dn->M D
abbrev FL:=Dn->M (List D)
def tV(K:RB)(f:FD)(E:St->XK):TE:=λa H Q=>∃F δ β,Fr F H β/\ix K F H δ a/\run (cp K F) F E a (f δ) H Q β
def i0(K:RB)(f:FL)(E:St->XK):TA:=λa H Q=>∃F δ β,Fr F H β/\ix K F H δ a/\run (bb K F) F E a (f δ) H Q β
def iv(K:RB)(f:Dn->M Bool)(E:St->XK):TT:=λc H Q=>∃F δ β,Fr F H β/\ix K F H δ c/\run (λ_ (a b:Bool)=>b=a) F E c (f δ) H Q β
theorem _root_.L2.PE.imp(h:PE X e t)(f:∀a H Q,t' a H Q->t a H Q):PE X e t':=λb s a H Q I q=>h b s a H Q I (f a H Q q)
theorem _root_.L2.PT.imp(h:PT X e t)(f:∀a H Q,t' a H Q->t a H Q):PT X e t':=λb s a H Q I q=>h b s a H Q I (f a H Q q)
theorem _root_.L2.PW.imp(h:PW X e t)(f:∀a H Q,t' a H Q->t a H Q):PW X e t':=λc b s a H Q I q=>h c b s a H Q I (f a H Q q)
theorem _root_.L2.PA.imp(h:PA X e t)(f:∀a H Q,t' a H Q->t a H Q):PA X e t':=λpos b s a H Q I q=>h pos b s a H Q I (f a H Q q)
def aj(i:Nat):FD:=λδ=>M.ofO (δ.getD i QY)
def fC(d:D):FD:=λ_=>M.ret d
def f1(op:D->Option D)(f:FD):FD:=λδ=>M.bind (f δ) λa=>M.ofO (op a)
def f2(op:D->D->Option D)(f g:FD):FD:=λδ=>M.bind (f δ) λa=>M.bind (g δ) λb=>M.ofO (op a b)
noncomputable def aN:FL:=λ_=>M.ret []
def ao(f:FD)(g:FL):FL:=λδ=>M.bind (f δ) λa=>M.bind (g δ) λas=>M.ret (a::as)
def bt(op:List D->Option D)(g:FL):FD:=λδ=>M.bind (g δ) λas=>M.ofO (op as)
def fP(m:List D->M D)(g:FL):FD:=λδ=>M.bind (g δ) λas=>m as
variable{X:Cx}{E:St->XK}{e a b:Expr}{es:List Expr}{pos:Vy}
theorem PJ(i:Nat)(h:PE X (.Name x pos) (lY i)):PE X (.Name x pos) (tV X.K (aj i) E):=h.imp λl H Q c=>by
 obtain⟨F,δ,β,fr,f,r⟩:=c;obtain⟨d,e,r⟩:=run.ofO r;have g:δ[i]?=on (on d):=by
  rw[QZ]at e;cases q:δ[i]? with
  |none=>rw[q]at e;cases e
  |some z=>rw[q]at e;simp at e;rw[e]
 obtain⟨v,j,k⟩:=f.tell i d g;exact⟨v,j,r v H (To.refl fr) k⟩
theorem v_c(h:PE X e (tC v))(hd:∀F H,cp X.K F H d v):PE X e (tV X.K (fC d) E):=h.imp λf H Q c=>by obtain⟨F,δ,β,fr,g,r⟩:=c;exact run.ret fr r (hd F H)
theorem ax{i j pos}:PE X (.Constant (.int i) j pos) (tV X.K (fC (.int i)) E):=v_c bQ λ_ _=>rfl
theorem PM{j pos}:PE X (.Constant .none j pos) (tV X.K (fC .non) E):=v_c Nn λ_ _=>rfl
theorem ft:PA X [] (i0 X.K aN E):=i8.imp λd H Q c=>by obtain⟨F,δ,β,fr,f,r⟩:=c;exact run.ret fr r bb.nil
theorem nw(ha:PE X e (tV X.K f E))(k:PA X es (i0 X.K g E))(hs:Rm (e::es) X.env=(Q9,Sw e X.env)::Rm es X.env:=by rfl):PA X (e::es) (i0 X.K (ao f g) E):=
 (eZ ha k hs).imp λm H Q c=>ll c λF δ β fr i r=>⟨F,δ,β,fr,i,(run.bind (R:=cp X.K F) r).mono λv n ⟨d,β1,t,hd,r1⟩=>
  ⟨F,δ,β1,t.fr,i.tr (t.tr fr),(run.bind (R:=bb X.K F) r1).mono λvs o c=>oa c λds β2 j h l=>run.ret j.fr l (bb.cons (cp.tr (j.tr t.fr) _ _ hd) h)⟩⟩
def bf(K:RB)(r:R2)(op:D->D->Option D):Prop:=∀(F:Fx) (H:Hp) (β:Bg) (Q:VK) (d1 d2 d:D) (f g:V),Fr F H β->cp K F H d1 f->cp K F H d2 g->op d1 d2=on d->
 (∀v c,To F H c β->cp K F c d v->Q v c)->r f g H Q
def KN(K:RB)(r:V->Hp->VK->Prop)(op:D->Option D):Prop:=∀(F:Fx) (H:Hp) (β:Bg) (Q:VK) (d1 d:D) (f:V),Fr F H β->cp K F H d1 f->op d1=on d->
 (∀v c,To F H c β->cp K F c d v->Q v c)->r f H Q
def fQ(K:RB)(r:List V->Hp->VK->Prop)(op:List D->Option D):Prop:=∀(F:Fx) (H:Hp) (β:Bg) (Q:VK) (ds:List D) (d:D) (vs:List V),Fr F H β->bb K F H ds vs->op ds=on d->
 (∀v c,To F H c β->cp K F c d v->Q v c)->r vs H Q
theorem pL{K:RB}(l:bf K r op){H:Hp}(h:tV K (f2 op f g) E σ H Q):Y_ r (tV K f E) (tV K g E) σ H Q:=by
 obtain⟨F,δ,β,fr,j,h⟩:=h;refine⟨F,δ,β,fr,j,(run.bind (R:=cp K F) h).mono λv u c=>oa c λd β1 t hd r1=>⟨F,δ,β1,t.fr,j.tr (t.tr fr),(run.bind (R:=cp K F) r1).mono λn o c=>oa c λd2 β2 m i p=>?_⟩⟩;obtain⟨d3,q,k⟩:=run.ofO p;exact l F o β2 Q d d2 d3 v n m.fr (cp.tr (m.tr t.fr) _ _ hd) i q k
theorem bp(c:fx X (Uk op) r)(l:bf X.K r o)(ha:PE X a (tV X.K f E))(d:PE X b (tV X.K g E)):PE X (.BinOp a op b pos) (tV X.K (f2 o f g) E):=
 (dZ c ha d).imp λ_ _ _=>pL l
theorem jr(c:fx X (SH op) r)(l:bf X.K r o)(ha:PE X a (tV X.K f E))(d:PE X b (tV X.K g E))(hm:VS op b=Q9:=by first|exact uX _|rfl):PE X (.Compare a [op] [b] pos) (tV X.K (f2 o f g) E):=
 (LA c ha d hm).imp λ_ _ _=>pL l
theorem v_un(g:UnR X (unaryOp op) r)(l:KN X.K r o)(ha:PE X a (tV X.K f E)):PE X (.UnaryOp op a pos) (tV X.K (f1 o f) E):=
 (P8 g ha).imp λm H Q c=>ll c λF δ β fr i h=>⟨F,δ,β,fr,i,(run.bind (R:=cp X.K F) h).mono λv j c=>oa c λd β1 t hd r1=>let ⟨d3,e3,k⟩:=run.ofO r1;l F j β1 Q d d3 v t.fr hd e3 k⟩
theorem bw(c:E_ X r)(l:bf X.K r o)(ha:PE X a (tV X.K f E))(d:PE X b (tV X.K g E))(hs:xJ b:=by exact λ_ _=>rfl):PE X (.Subscript a b pos) (tV X.K (f2 o f g) E):=
 (jI c ha d hs).imp λ_ _ _=>pL l
theorem zB{K:RB}(l:fQ K r op){H:Hp}(h:tV K (bt op g) E σ H Q):tCB r (i0 K g E) σ H Q:=by
 obtain⟨F,δ,β,fr,c,h⟩:=h;refine⟨F,δ,β,fr,c,(run.bind (R:=bb K F) h).mono λv f i=>oa i λd β1 t hd r1=>?_⟩;obtain⟨d3,j,k⟩:=run.ofO r1;exact l F f β1 Q d d3 v t.fr hd j k
theorem cX{f:String}(h:dJ X (.builtin f) r)(l:fQ X.K r op)(i:Gl X x)(hm:X.mg x=QY)(j:U5 x=on (.builtin f))(ha:PA X (e::es) (i0 X.K g E))(hn:x≠"__name__":=by decide)(c:(x==("__debug__":R3))=Q9:=by decide)
  (k:Rm (e::es) X.env=(Q9,Sw e X.env)::Rm es X.env:=by rfl) (d:(Tx pos (Rm es X.env)).any (·.1)=Q9:=by rfl):PE X (.Call (.Name x p) (e::es) [] pos) (tV X.K (bt op g) E):=
 (kT h i hm j ha hn c k d).imp λ_ _ _=>zB l
theorem bF(f:dJ X (.type T) r)(l:fQ X.K r op)(h:Gl X x)(hm:X.mg x=QY)(i:U5 x=on (.type T))(ha:PA X (e::es) (i0 X.K g E))(hn:x≠"__name__":=by decide)(c:(x==("__debug__":R3))=Q9:=by decide)
  (j:Rm (e::es) X.env=(Q9,Sw e X.env)::Rm es X.env:=by rfl) (d:(Tx pos (Rm es X.env)).any (·.1)=Q9:=by rfl):PE X (.Call (.Name x p) (e::es) [] pos) (tV X.K (bt op g) E):=
 (sE f h hm i ha hn c j d).imp λ_ _ _=>zB l
noncomputable def iz(ds:List D):Option D:=if ds.length<=RF then on (.tup ds)else QY
noncomputable def kZ(ds:List D):Option D:=if ds.length<=RF then on (.lst ds)else QY
theorem cp.newT{K:RB}{F:Fx}{H:Hp}(fr:Fr F H β)(h:H p=QY)(hd:bb K F H ds xs):cp K F (upd H p (.tup xs)) (.tup ds) (.ref p):=
 ⟨p,xs,rfl,.inl ⟨fr.fresh h,.inl aq⟩,bb.tr ((fr.upd _ h).tr fr) _ _ hd⟩
theorem cp.newL{K:RB}{F:Fx}{H:Hp}(fr:Fr F H β)(h:H p=QY)(hd:bb K F H ds xs):cp K F (upd H p (.lst xs)) (.lst ds) (.ref p):=
 ⟨p,xs,rfl,⟨fr.fresh h,.inl aq⟩,bb.tr ((fr.upd _ h).tr fr) _ _ hd⟩
theorem di{x1}(h:PA X es (i0 X.K g E)):PE X (.Tuple es x1 pos) (tV X.K (bt iz g) E):=
 (Nl h).imp λj H Q d=>ll d λF δ β fr i r=>⟨F,δ,β,fr,i,(run.bind (R:=bb X.K F) r).mono λvs l d=>by
  obtain⟨ds,β1,t,hd,r1⟩:=d;obtain⟨d3,c,k⟩:=run.ofO r1;unfold iz at c;split at c
  .cases c
   exact⟨by rw[<-hd.length];assumption,λp f=>k _ _ (t.fr.upd _ f) (cp.newT t.fr f hd)⟩
  .cases c⟩
theorem fG(h:PA X es (i0 X.K g E)):PE X (.List es pos) (tV X.K (bt kZ g) E):=
 (fE h).imp λj H Q d=>ll d λF δ β fr i r=>⟨F,δ,β,fr,i,(run.bind (R:=bb X.K F) r).mono λvs l d=>by
  obtain⟨ds,β1,t,hd,r1⟩:=d;obtain⟨d3,c,k⟩:=run.ofO r1;unfold kZ at c;split at c
  .cases c
   exact⟨by rw[<-hd.length];assumption,λp f=>k _ _ (t.fr.upd _ f) (cp.newL t.fr f hd)⟩
  .cases c⟩
def z_(K:RB)(n:Nat)(m:List D->M D):Sp:=λvs H Q E=>vs.length=n/\∃F ds β,Fr F H β/\bb K F H ds vs/\run (cp K F) F (λ_=>E) [] (m ds) H Q β
variable{p:Vy}{x:R3}{k n:Nat}{f:Q6}{fd:RG}{ps:List R3}
theorem run.toE{α c:Type}{R:Hp->α->c->Prop}{F:Fx}{E:St->XK}{d:St}{m:M α}{H:Hp}{Q:c->Hp->Prop}{β:Bg}(h:run R F E d m H Q β):run R F (λ_=>E d) [] m H Q β:=h
theorem Mu(G:fh X.prog X.w X.K X.mg X.base (hY X.prog X.w) k f fd ps (z_ X.K n m))(q:ef k X.A)(u:Gl X x)(hm:X.mg x=on (.ref f))(v:WS X.K (.ref f)=Q4)(y:ay X.K fd ps [])(B:cI (hY X.prog X.w) X E)
  (ha:PA X (e::es) (i0 X.K g E)) (hn:∀δ β r h,g δ β=on (.ok r,h)->r.length=n) (c:(x==("__debug__":R3))=Q9:=by decide) (I:Rm (e::es) X.env=(Q9,Sw e X.env)::Rm es X.env:=by rfl) (d:(Tx pos (Rm es X.env)).any (·.1)=Q9:=by rfl):
  PE X (.Call (.Name x p) (e::es) [] pos) (tV X.K (fP m g) E):=
 (rm G q u hm v y .nil B ha c I d).imp λT H Q J=>ll J λF δ β fr L r=>⟨F,δ,β,fr,L,by
  obtain⟨r0,i,l,o⟩:=run.bind (R:=bb X.K F) r;refine⟨r0,i,l,?_⟩;cases r0 with
  |error C=>exact o
  |ok ds=>
   intro vs N t hd;obtain⟨d',β1,O,j,r1⟩:=o vs N t hd;have P:=hn _ _ _ _ l;refine⟨by rw[RX,<-hd.length,P],F,d',β1,O.fr,by rw[RX];exact j,run.toE r1⟩⟩
theorem IV{r:List D}(h:aN δ β=on (.ok r,β')):r.length=0:=by cases h;rfl
theorem aL{f:FD}{n:Nat}(d:∀δ β r c,g δ β=on (.ok r,c)->r.length=n):∀δ β r c,ao f g δ β=on (.ok r,c)->r.length=n+1:=by
 intro δ β r c h;unfold ao M.bind at h;split at h
 .cases h
 .cases h
 .dsimp only at h
  split at h
  .cases h
  .cases h
  .rename_i as _ i
   cases h;rw[Rl,d _ _ _ _ i]
noncomputable def nj(g:Int->Int->Option D):D->D->Option D
 | .int i,.int j=>g i j
 |_,_=>QY
theorem gD{a b d:D}(h:nj g a b=on d):∃i j,a= .int i/\b= .int j/\g i j=on d:=by
 cases a<;>cases b<;>first|(exact⟨_,_,rfl,rfl,h⟩)|(cases h)
theorem BB{g:Int->Int->Int}:bf K (q_ λi j=> .int (g i j)) (nj λi j=>on (.int (g i j))):=λF H β Q d1 d2 d l m fr c h e k=>by
 obtain⟨i,j,rfl,rfl,e⟩:=gD e;cases e;exact⟨i,j,c,h,k _ H (To.refl fr) rfl⟩
theorem iB{g:Int->Int->Bool}:bf K (q_ λi j=> .bl (g i j)) (nj λi j=>on (.bl (g i j))):=λF H β Q d1 d2 d l m fr c h e k=>by
 obtain⟨i,j,rfl,rfl,e⟩:=gD e;cases e;exact⟨i,j,c,h,k _ H (To.refl fr) rfl⟩
theorem sH{C:Int->Int->Prop}{c:Int->Int->Bool}{g:Int->Int->Int}(l:∀i j,c i j=Q4->C i j):bf K (rI C λi j=> .int (g i j)) (nj λi j=>if c i j=Q4 then on (.int (g i j))else QY):=λF H β Q d1 d2 d q r fr m o e k=>by
 obtain⟨i,j,rfl,rfl,h⟩:=gD e;split at h
 .cases h
  exact⟨i,j,m,o,l _ _ (by assumption),k _ H (To.refl fr) rfl⟩
 .cases h
noncomputable def gQ(i:Int):Bool:=decide (i.natAbs<2^1000)
def MO:D->D->Option D:=nj λi j=>on (.int (i-j))
def KE:D->D->Option D:=nj λi j=>if(decide (0<j)&&decide (j.natAbs.log2<9000))=Q4 then on (.int (i/j))else QY
def modD:D->D->Option D:=nj λi j=>if decide (0<j)=Q4 then on (.int (i % j))else QY
def Tm:D->D->Option D:=nj λi j=>on (.bl (decide (i<j)))
def s9:D->D->Option D:=nj λi j=>on (.bl (decide (i<=j)))
def gtD:D->D->Option D:=nj λi j=>on (.bl (decide (j<i)))
def geD:D->D->Option D:=nj λi j=>on (.bl (decide (j<=i)))
theorem iC:bf K (q_ λi j=> .int (i-j)) MO:=BB
theorem o6:bf K (q_ λi j=> .bl (decide (i<j))) Tm:=iB
theorem gG:bf K (q_ λi j=> .bl (decide (i<=j))) s9:=iB
theorem vh:bf K (q_ λi j=> .bl (decide (j<i))) gtD:=iB
theorem l_ge:bf K (q_ λi j=> .bl (decide (j<=i))) geD:=iB
theorem Qo:bf K (rI (λ_ j=>0<j) λi j=> .int (i % j)) modD:=sH λi j h=>Sk h
noncomputable def yi:R2:=λx y H Q=>∃l b xs c,x= .ref l/\y= .ref b/\Rd H l (.lst xs)/\Rd H b (.lst c)/\xs.length+c.length<=RF/\∀p,H p=QY->Q (.ref p) (upd H p (.lst (xs++c)))
theorem LE:fx X (Uk .Add) yi:=by
 intro d s t H x y v u Q I i j h;obtain⟨l,b,xs,w,rfl,rfl,m,hB,A,q⟩:=h;cases i;cases j;obtain⟨z,its,n,r,e⟩:=m.ok I.hok;obtain⟨B,c,C,g,o⟩:=hB.ok I.hok;have l1:=r.length;have J:=g.length;refine ZD e o ?_ (by simp only[Rx];omega);rw[show its.toArray++c.toArray=(its++c).toArray by simp];exact⟨.ref _,_,I.lnew (t':=s.toks) (r.append g) (by rw[Ro];omega),rfl,q _ I.fresh⟩
def yj(K:RB):R2:=λx y H Q=>∃a b ys,x= .ref a/\y= .ref b/\il K H a []/\il K H b ys/\Q (.ref b) H
theorem LF:fx X (Uk .Add) (yj X.K):=by
 intro l s N H x y v u Q I t w h;obtain⟨a,b,ys,rfl,rfl,ha,A,q⟩:=h;cases t;cases w;obtain⟨its,r1,B,_⟩:=I.tuple ha;obtain⟨m,O,p2,_⟩:=I.tuple A;cases r1;obtain⟨⟨c1,d1,C,i⟩,o,r,n,hd⟩:=B;obtain⟨⟨c2,d2,J,j⟩,c,d,L,g⟩:=p2;simp only at r hd d g;subst r hd d g;exact PySem.concat_meets ⟨_,o,rfl⟩ ⟨_,c,rfl⟩ Yr ZJ Ws Wg (V8 _ _) (tuple_addW0 a b _ _ n L d1 d2 i j (by simp)) ⟨o,c,⟨.ref b,H,I,rfl,q⟩⟩
noncomputable def m6:D->D->Option D
 | .int i,.int j=>on (.int (i+j))
 | .tup [],.tup b=>on (.tup b)
 | .lst a,.lst b=>if a.length+b.length<=RF then on (.lst (a++b))else QY
 | .tup (c::a),.tup b=>if(c::a).length+b.length<=RF then on (.tup (c::a++b))else QY
 |_,_=>QY
theorem cz:bf K (λx y H Q=>(q_ λi j=> .int (i+j)) x y H Q\/yi x y H Q\/yh K x y H Q\/yj K x y H Q) m6:=λF H β Q d1 d2 d v w fr h l e k=>by
 unfold m6 at e;split at e
 .cases e
  exact .inl ⟨_,_,h,l,k _ H (To.refl fr) rfl⟩
 .cases e
  obtain⟨a,xs,rfl,r1,c⟩:=cp.sqT h;obtain⟨b,ys,rfl,m,g⟩:=cp.sqT l;have q:xs=[]:=c;subst q;exact .inr (.inr (.inr ⟨a,b,ys,rfl,rfl,r1,m,k _ H (To.refl fr) l⟩))
 .split at e
  .cases e
   obtain⟨a,xs,rfl,r1,c⟩:=cp.rdL h;obtain⟨b,ys,rfl,m,g⟩:=cp.rdL l;exact .inr (.inl ⟨a,b,xs,ys,rfl,rfl,r1,m,by rw[<-c.length,<-g.length];assumption,λp o=>k _ _ (fr.upd _ o) (cp.newL fr o (c.append g))⟩)
  .cases e
 .split at e
  .cases e
   obtain⟨a,xs,rfl,r1,c⟩:=cp.sqT h;obtain⟨b,ys,rfl,m,g⟩:=cp.sqT l;have r:=c.length;have t:=g.length;refine .inr (.inr (.inl ⟨a,b,xs,ys,rfl,rfl,r1,m,(λz=>by subst z;cases r),by rw[<-r,<-t];assumption,λz=>?_,λ_ p o=>k _ _ (fr.upd _ o) (cp.newT fr o (c.append g))⟩));subst z;have u:=Wx.mp t;subst u;rw[RX]at k;exact k _ H (To.refl fr) h
  .cases e
 .cases e
theorem bi:fx X (Uk .Add) (λx y H Q=>(q_ λi j=> .int (i+j)) x y H Q\/yi x y H Q\/yh X.K x y H Q\/yj X.K x y H Q):=qf.or (LE.or (LD.or LF))
def ER:D->D->Option D:=nj λi j=>if(gQ i&&gQ j)=Q4 then on (.int (i*j))else QY
theorem qr:bf K (rI uj λi j=> .int (i*j)) ER:=sH λi j h=>by
 simp only[RZ,gQ,R5]at h;exact h
noncomputable def eqS:D->D->Option Bool
 | .non,.non=>on Q4
 | .int i,.int j=>on (decide (i=j))
 | .bl i,.bl j=>on (decide (i=j))
 | .str i,.str j=>on (decide (i=j))
 | .int _,.str _=>on Q9
 | .str _,.int _=>on Q9
 | .bl _,.str _=>on Q9
 | .str _,.bl _=>on Q9
 | .non,.int _=>on Q9
 | .int _,.non=>on Q9
 | .non,.str _=>on Q9
 | .str _,.non=>on Q9
 |_,_=>QY
theorem BW{F:Fx}{H:Hp}{a b:D}{c:Bool}(h:eqS a b=on c)(d:cp K F H a v)(g:cp K F H b w):DS v w=Q4/\decide (v=w)=c:=by
 unfold eqS at h;split at h<;>first
  |(cases h;cases d.int;cases g.int;exact⟨rfl,by simp⟩)
  |(cases h;cases d.bl;cases g.bl;exact⟨rfl,by simp⟩)
  |(cases h;cases d.str;cases g.str;exact⟨rfl,by simp⟩)
  |(cases h;cases d.non;cases g.non;exact⟨rfl,by simp⟩)
  |(cases h;cases d.int;cases g.str;exact⟨rfl,rfl⟩)
  |(cases h;cases d.str;cases g.int;exact⟨rfl,rfl⟩)
  |(cases h;cases d.bl;cases g.str;exact⟨rfl,rfl⟩)
  |(cases h;cases d.str;cases g.bl;exact⟨rfl,rfl⟩)
  |(cases h;cases d.non;cases g.int;exact⟨rfl,rfl⟩)
  |(cases h;cases d.int;cases g.non;exact⟨rfl,rfl⟩)
  |(cases h;cases d.non;cases g.str;exact⟨rfl,rfl⟩)
  |(cases h;cases d.str;cases g.non;exact⟨rfl,rfl⟩)
  |cases h
noncomputable def isN:D->Bool
 | .non=>Q4
 |_=>Q9
theorem NR{F:Fx}{H:Hp}(h:cp K F H d v):decide (v= .non)=isN d:=by
 cases d with
 |non=>cases h.non;rfl
 |bl b=>cases h.bl;rfl
 |int b=>cases h.int;rfl
 |str b=>cases h.str;rfl
 |ty b=>cases h.ty;rfl
 |txt=>unfold cp at h;obtain⟨z,rfl⟩:=h;rfl
 |lst ds=>obtain⟨a,xs,rfl,_⟩:=cp.sqL h;rfl
 |tup ds=>obtain⟨a,xs,rfl,_⟩:=cp.sqT h;rfl
 |scr ds=>obtain⟨a,rfl,_⟩:=cp.scr h;rfl
 |obj C ns ds=>
  unfold cp at h;obtain⟨a,_,_,rfl,_⟩:=h;rfl
 |bag=>
  unfold cp at h;obtain⟨a,_,_,rfl⟩:=h;rfl
 |adr a=>
  unfold cp at h;obtain rfl:=h;rfl
 |dct b ks vs=>
  unfold cp at h;obtain⟨a,_,xs,rfl,_⟩:=h;rfl
noncomputable def NS:D->D->Option D
 |a,.non=>on (.bl (isN a))
 |_,_=>QY
theorem Qr:bf K (λx y H Q=>y= .non/\Q (.bl (decide (x= .non))) H) NS:=λF H β Q d1 d2 d h i fr c g e k=>by
 unfold NS at e;split at e
 .cases e
  exact⟨g,by rw[NR c];exact k _ H (To.refl fr) rfl⟩
 .cases e
noncomputable def gl:D->Bool
 | .int _=>Q4| .bl _=>Q4| .str _=>Q4| .non=>Q4|_=>Q9
noncomputable def eqF:D->D->Bool
 | .non,.non=>Q4
 | .bl a,.bl b=>a==b
 | .bl a,.int b=>(if a then 1 else 0)==b
 | .int a,.bl b=>a==(if b then 1 else 0)
 | .int a,.int b=>a==b
 | .str a,.str b=>a==b
 |_,_=>Q9
noncomputable def fK:D->Option (List D)
 | .lst a=>on a
 | .tup a=>on a
 |_=>QY
def inB(x:D)(ys:List D):Bool:=ys.any λy=>eqF y x
def inD(neg:Bool)(x y:D):Option D:=(fK y).bind λys=>if(gl x&&ys.all gl)=Q4 then on (.bl (if neg then !inB x ys else inB x ys))else QY
theorem rH{F:Fx}{H:Hp}(f:gl d=Q4)(h:cp K F H d v):gM v=Q4:=by
 cases d<;>first|(cases h.int;rfl)|(cases h.bl;rfl)|(cases h.str;rfl)|(cases h.non;rfl)|cases f
theorem N2{F:Fx}{H:Hp}{a b:D}(g:gl a=Q4)(h:gl b=Q4)(c:cp K F H a v)(d:cp K F H b w):Iv v w=eqF a b:=by
 cases a<;>first
  |(exfalso;exact Ri g)
  |(cases b<;>first
   |(exfalso;exact Ri h)
   |(cases c.int;cases d.int;rfl)|(cases c.int;cases d.bl;rfl)|(cases c.int;cases d.str;rfl)|(cases c.int;cases d.non;rfl)
   |(cases c.bl;cases d.int;rfl)|(cases c.bl;cases d.bl;rfl)|(cases c.bl;cases d.str;rfl)|(cases c.bl;cases d.non;rfl)
   |(cases c.str;cases d.int;rfl)|(cases c.str;cases d.bl;rfl)|(cases c.str;cases d.str;rfl)|(cases c.str;cases d.non;rfl)
   |(cases c.non;cases d.int;rfl)|(cases c.non;cases d.bl;rfl)|(cases c.non;cases d.str;rfl)|(cases c.non;cases d.non;rfl))
theorem vA{F:Fx}{H:Hp}{x:D}(c:gl x=Q4)(g:cp K F H x v):∀{ds:List D} {vs:List V},ds.all gl=Q4->bb K F H ds vs->vs.all gM=Q4/\inV v vs=inB x ds
 |[],vs,_,h=>by have q:vs=[]:=h;subst q;exact⟨rfl,rfl⟩
 |d::ds,vs,f,h=>by
  obtain⟨y,r,q,i,l⟩:=h;subst q;rw[Xc,RZ]at f;obtain⟨m,j⟩:=vA c g f.2 l;refine⟨by rw[Xc,rH f.1 i,m];rfl,?_⟩;unfold inV inB at j⊢;rw[Wm,Wm,j,N2 f.1 c i g]
theorem NL{neg:Bool}:bf K (rIn K neg) (inD neg):=λF H β Q d1 d2 d l m fr g j e k=>by
 unfold inD at e;cases q:fK d2 with
 |none=>rw[q]at e;cases e
 |some ys=>
  rw[q]at e;simp only[Xx]at e;split at e
  .rename_i c
   rw[RZ]at c;cases e;cases d2<;>first|(cases q;obtain⟨a,xs,rfl,r1,dl⟩:=cp.sqL j;obtain⟨h,i⟩:=vA c.1 g c.2 dl;exact⟨a,xs,rfl,.inl r1,rH c.1 g,h,by rw[i];exact k _ H (To.refl fr) rfl⟩)|(cases q;obtain⟨a,xs,rfl,r1,dl⟩:=cp.sqT j;obtain⟨h,i⟩:=vA c.1 g c.2 dl;exact⟨a,xs,rfl,.inr r1,rH c.1 g,h,by rw[i];exact k _ H (To.refl fr) rfl⟩)|cases q
  .cases e
def ko:D->D->Option D
 | .lst xs,.int i=>ui xs i
 | .tup xs,.int i=>ui xs i
 |_,_=>QY
theorem CM{F:Fx}{H:Hp}(h:bb K F H ds vs)(e:ui ds i=on d):∃v,ui vs i=on v/\cp K F H d v:=by
 unfold ui at e⊢;rw[<-h.length];cases q:mm ds.length i with
 |none=>rw[q]at e;cases e
 |some j=>
  rw[q]at e;exact h.get e
theorem bz:bf K (λx y H Q=>yg K x y H Q\/DW K x y H Q) ko:=λF H β Q d1 d2 d i j fr g h e k=>by
 unfold ko at e;split at e
 .obtain⟨a,xs,rfl,r1,dl⟩:=cp.sqL g
  obtain⟨v,c,hd⟩:=CM dl e;exact .inl ⟨a,xs,_,v,rfl,h,r1,c,k _ H (To.refl fr) hd⟩
 .obtain⟨a,xs,rfl,r1,dl⟩:=cp.sqT g
  obtain⟨v,c,hd⟩:=CM dl e;exact .inr ⟨a,xs,_,v,rfl,h,r1,c,k _ H (To.refl fr) hd⟩
 .cases e
theorem aK:E_ X (λx y H Q=>yg X.K x y H Q\/DW X.K x y H Q):=fY.or NQ
noncomputable def eV:List D->Option D
 |[.lst xs]=>on (.int xs.length)
 |[.tup xs]=>on (.int xs.length)
 |_=>QY
theorem bb.one{F:Fx}{H:Hp}(h:bb K F H [d] vs):∃v,vs=[v]/\cp K F H d v:=by
 obtain⟨x,r,e,c,g⟩:=h;have q:r=[]:=g;subst q;exact⟨x,e,c⟩
theorem bb.two{F:Fx}{H:Hp}(h:bb K F H [d,c] vs):∃v w,vs=[v,w]/\cp K F H d v/\cp K F H c w:=by
 obtain⟨x,r,e,g,i⟩:=h;obtain⟨y,rfl,j⟩:=bb.one i;exact⟨x,y,e,g,j⟩
theorem Qq:fQ K (λxs H Q=>∃p ys,xs=[.ref p]/\(e_ K H p ys\/il K H p ys)/\Q (.int ys.length) H) eV:=λF H β Q ds d vs fr h e k=>by
 unfold eV at e;split at e
 .cases e
  obtain⟨v,rfl,g⟩:=bb.one h;obtain⟨a,xs,rfl,r,dl⟩:=cp.sqL g;exact⟨a,xs,rfl,.inl r,by rw[<-dl.length];exact k _ H (To.refl fr) rfl⟩
 .cases e
  obtain⟨v,rfl,g⟩:=bb.one h;obtain⟨a,xs,rfl,r,dl⟩:=cp.sqT g;exact⟨a,xs,rfl,.inr r,by rw[<-dl.length];exact k _ H (To.refl fr) rfl⟩
 .cases e
noncomputable def u7:List D->Option D
 |[.int i,.int j]=>on (.int (if j<i then j else i))
 |_=>QY
noncomputable def yr:List D->Option D
 |[.int i,.int j]=>on (.int (if j>i then j else i))
 |_=>QY
theorem yz:fQ K (λxs H Q=>∃i j,xs=[.int i,.int j]/\Q (.int (if j<i then j else i)) H) u7:=λF H β Q ds d vs fr h e k=>by
 unfold u7 at e;split at e
 .cases e
  obtain⟨v,w,rfl,g,g'⟩:=bb.two h;cases g.int;cases g'.int;exact⟨_,_,rfl,k _ H (To.refl fr) rfl⟩
 .cases e
theorem Qp:fQ K (λxs H Q=>∃i j,xs=[.int i,.int j]/\Q (.int (if j>i then j else i)) H) yr:=λF H β Q ds d vs fr h e k=>by
 unfold yr at e;split at e
 .cases e
  obtain⟨v,w,rfl,g,g'⟩:=bb.two h;cases g.int;cases g'.int;exact⟨_,_,rfl,k _ H (To.refl fr) rfl⟩
 .cases e
noncomputable def eW:List D->Option (List Int)
 |[]=>on []
 | .int i::r=>(eW r).map (i::·)
 |_=>QY
theorem jm:∀{ds:List D} {ns:List Int},eW ds=on ns->ds=ns.map D.int
 |[],ns,h=>by cases h;rfl
 |d::ds,ns,h=>by
  cases d with
  |int i=>
   unfold eW at h;cases q:eW ds with
   |none=>rw[q]at h;cases h
   |some c=>rw[q]at h;cases h;rw[jm q];rfl
  |_=>cases h
def DN:List D->Option D
 |[.lst xs]=>(eW xs).map λns=> .int ns.sum
 |_=>QY
theorem Ql:fQ K (λxs H Q=>∃(a:Q6) (ns:List Int),xs=[.ref a]/\e_ K H a (ns.map V.int)/\Q (.int ns.sum) H) DN:=λF H β Q ds d vs fr h e k=>by
 unfold DN at e;split at e
 .rename_i xs
  cases q:eW xs with
  |none=>rw[q]at e;cases e
  |some ns=>
   rw[q]at e;cases e;obtain⟨v,rfl,g⟩:=bb.one h;obtain⟨a,ys,rfl,r,dl⟩:=cp.sqL g;rw[jm q]at dl;have c:=bb.ints ns dl;subst c;exact⟨a,ns,rfl,r,k _ H (To.refl fr) rfl⟩
 .cases e
noncomputable def nS:List D->Option D
 |[.lst xs]=>on (.lst xs)
 |[.tup xs]=>on (.lst xs)
 |_=>QY
theorem gi:fQ K (λxs H Q=>∃p ys,xs=[.ref p]/\(e_ K H p ys\/il K H p ys)/\∀l,H l=QY->Q (.ref l) (upd H l (.lst ys))) nS:=λF H β Q ds d vs fr h e k=>by
 unfold nS at e;split at e
 .cases e
  obtain⟨v,rfl,g⟩:=bb.one h;obtain⟨a,xs,rfl,r,dl⟩:=cp.sqL g;exact⟨a,xs,rfl,.inl r,λl c=>k _ _ (fr.upd _ c) (cp.newL fr c dl)⟩
 .cases e
  obtain⟨v,rfl,g⟩:=bb.one h;obtain⟨a,xs,rfl,r,dl⟩:=cp.sqT g;exact⟨a,xs,rfl,.inr r,λl c=>k _ _ (fr.upd _ c) (cp.newL fr c dl)⟩
 .cases e
noncomputable def uo:List D->Option D
 |[.lst xs]=>on (.tup xs)
 |[.tup xs]=>on (.tup xs)
 |_=>QY
theorem gF:fQ K (λxs H Q=>∃p ys,xs=[.ref p]/\((e_ K H p ys/\∀l,H l=QY->Q (.ref l) (upd H l (.tup ys)))\/(il K H p ys/\Q (.ref p) H))) uo:=λF H β Q ds d vs fr h e k=>by
 unfold uo at e;split at e
 .cases e
  obtain⟨v,rfl,g⟩:=bb.one h;obtain⟨a,xs,rfl,r,dl⟩:=cp.sqL g;exact⟨a,xs,rfl,.inl ⟨r,λl c=>k _ _ (fr.upd _ c) (cp.newT fr c dl)⟩⟩
 .cases e
  obtain⟨v,rfl,g⟩:=bb.one h;obtain⟨a,xs,rfl,r,dl⟩:=cp.sqT g;exact⟨a,xs,rfl,.inr ⟨r,k _ H (To.refl fr) g⟩⟩
 .cases e
noncomputable def asB:D->Option Bool
 | .bl b=>on b
 |_=>QY
theorem jl{b:Bool}(h:asB d=on b):d= .bl b:=by cases d<;>first|(cases h;rfl)|cases h
noncomputable def DG:D->Option Bool
 | .non=>on Q9
 | .bl b=>on b
 | .int i=>on (i !=0)
 | .lst xs=>on (!xs.isEmpty)
 | .tup xs=>on (!xs.isEmpty)
 |_=>QY
def fB(f:FD):Dn->M Bool:=λδ=>M.bind (f δ) λd=>M.ofO (asB d)
def yV(f:FD):Dn->M Bool:=λδ=>M.bind (f δ) λd=>M.ofO (DG d)
def yW(f g:Dn->M Bool):Dn->M Bool:=λδ=>M.bind (f δ) λc=>if c=Q4 then M.ret Q4 else g δ
def yX(f:Dn->M Bool):Dn->M Bool:=λδ=>M.bind (f δ) λc=>M.ret (!c)
def fIf(t:Dn->M Bool)(f g:FD):FD:=λδ=>M.bind (t δ) λc=>if c=Q4 then f δ else g δ
def kE(o d:D->D->Option D)(f g h:FD):FD:=λδ=>M.bind (f δ) λa=>M.bind (g δ) λb=>M.bind (M.ofO (o a b)) λz=>M.bind (M.ofO (asB z)) λc=>if c=Q4 then M.bind (h δ) (λw=>M.ofO (d b w))else M.ret (.bl Q9)
variable{c:Expr}{rest:List Expr}
theorem M.ofO_bind{α d:Type}{o:Option α}{k:α->M d}{β:Bg}{z:Except Q6 d×Bg}(h:M.bind (M.ofO o) k β=on z):∃a,o=on a/\k a β=on z:=by
 cases o with
 |none=>cases h
 |some a=>exact⟨a,rfl,h⟩
theorem run.ofO_bind{α g i:Type}{R:Hp->g->i->Prop}{F:Fx}{j:St}{o:Option α}{k:α->M g}{H:Hp}{Q:i->Hp->Prop}{β:Bg}(h:run R F E j (M.bind (M.ofO o) k) H Q β):∃a,o=on a/\run R F E j (k a) H Q β:=by
 obtain⟨r,d,e,h⟩:=h;obtain⟨a,q,e⟩:=M.ofO_bind e;exact⟨a,q,r,d,e,h⟩
theorem run.bOk{F:Fx}{H:Hp}(fr:Fr F H β)(hd:cp K F H d v)(h:run (λ_ (a b:Bool)=>b=a) F E σ (M.ofO (asB d)) H Q β):∃k,v= .bl k/\Q k H:=by
 obtain⟨b,e,k⟩:=run.ofO h;rw[jl e]at hd;exact⟨b,hd,k b H (To.refl fr) rfl⟩
theorem oJ{f:FD}{H:Hp}(h:iv K (fB f) E σ H Q):tV K f E σ H λx g=>∃k,x= .bl k/\Q k g:=by
 obtain⟨F,δ,β,fr,i,h⟩:=h;exact⟨F,δ,β,fr,i,(run.bind (R:=cp K F) h).mono λv l j=>oa j λd β1 t hd r1=>run.bOk t.fr hd r1⟩
theorem cu{f g:FD}(d:fx X (SH op) r)(l:bf X.K r o)(ha:PE X a (tV X.K f E))(i:PE X b (tV X.K g E))(hm:VS op b=Q9:=by first|exact uX _|rfl):PT X (.Compare a [op] [b] pos) (iv X.K (fB (f2 o f g)) E):=
 (wS d ha i hm).imp λj H Q h=>pL l (oJ h)
theorem zy{f g h:FD}(l:bf K r o)(Y:bf K r' o'){H:Hp}(B:tV K (kE o o' f g h) E σ H Q):zA r r' (tV K f E) (tV K g E) (tV K h E) σ H Q:=by
 obtain⟨F,δ,β,fr,I,B⟩:=B;refine⟨F,δ,β,fr,I,(run.bind (R:=cp K F) B).mono λv H1 j=>oa j λd β1 t hd r1=>⟨F,δ,β1,t.fr,I.tr (t.tr fr),(run.bind (R:=cp K F) r1).mono λP Z j=>oa j λd2 β2 m u r2=>?_⟩⟩;obtain⟨z,T,r3⟩:=run.ofO_bind r2;obtain⟨c,ec,A⟩:=run.ofO_bind r3;rw[jl ec]at T;refine l F Z β2 _ d d2 _ v P m.fr (cp.tr (m.tr t.fr) _ _ hd) u T λvz U i hz=>⟨c,hz,?_⟩;cases c with
 |true=>
  rw[Rb rfl]at A;refine⟨F,δ,β2,i.fr,I.tr ((t.tr fr).trans ((m.tr t.fr).trans (i.tr m.fr))),?_⟩;have r5:run (cp K F) F E σ (M.bind (h δ) λw=>M.ofO (o' d2 w)) U Q β2:=by
   obtain⟨J,y,e,q⟩:=A;refine⟨J,y,e,?_⟩;cases J with
   |ok d=>exact λv L tt=>q v L (i.trans tt)
   |error C=>exact λL tt=>q L (i.trans tt)
  refine(run.bind (R:=cp K F) r5).mono λw H4 j=>oa j λdw N W O r6=>?_;obtain⟨d3,e3,k⟩:=run.ofO r6;exact Y F H4 N Q d2 dw d3 P w W.fr (cp.tr ((i.tr m.fr).trans (W.tr i.fr)) _ _ u) O e3 k
 |false=>
  rw[Q8 Ri]at A;obtain⟨J,y,e,q⟩:=A;cases e;exact q _ U i rfl
theorem iF{f g h:FD}(i:fx X (SH op) r)(d:fx X (SH op') r')(l:bf X.K r o)(j:bf X.K r' o')(ha:PE X a (tV X.K f E))(m:PE X b (tV X.K g E))(t:PE X c (tV X.K h E))(hm:Z6 [op,op'] [b,c]=Q9:=by with_unfolding_all rfl):
  PT X (.Compare a [op,op'] [b,c] pos) (iv X.K (fB (kE o o' f g h)) E):=(DY i d ha m t hm).imp λu H Q q=>zy l j (oJ q)
theorem K0{F:Fx}{H:Hp}{k:Bool}(h:DG d=on k)(hd:cp K F H d v):IW K v H k:=by
 cases d with
 |non=>cases h;cases hd.non;rfl
 |bl b=>cases h;cases hd.bl;rfl
 |int i=>cases h;cases hd.int;rfl
 |lst xs=>
  cases h;obtain⟨a,ys,rfl,r,dl⟩:=cp.sqL hd;refine .inl ⟨ys,r,?_⟩;have:=dl.length;cases xs<;>cases ys<;>first|rfl|(simp at this)
 |tup xs=>
  cases h;obtain⟨a,ys,rfl,r,dl⟩:=cp.sqT hd;refine .inr ⟨ys,r,?_⟩;have:=dl.length;cases xs<;>cases ys<;>first|rfl|(simp at this)
 |_=>cases h
theorem jt{f:FD}(ha:PE X a (tV X.K f E))(j:∀g,isTrue a X.env g=(do let v <-g;UF a.pos;U6 [v] (truthy v)):=by intro _;rfl):PT X a (iv X.K (yV f) E):=
 (DX ha j).imp λo H Q i=>ll i λF δ β fr l h=>⟨F,δ,β,fr,l,(run.bind (R:=cp X.K F) h).mono λv m i=>by
  obtain⟨d,β1,t,hd,r1⟩:=i;obtain⟨k,e,q⟩:=run.ofO r1;exact⟨k,K0 e hd,q k m (To.refl t.fr) rfl⟩⟩
theorem ju{f:Dn->M Bool}(ha:PT X a (iv X.K f E)):PT X (.UnaryOp .Not a pos) (iv X.K (yX f) E):=
 (Ng ha).imp λj H Q g=>ll g λF δ β fr i h=>⟨F,δ,β,fr,i,(run.bind (R:=λ_ (a b:Bool)=>b=a) h).mono λv l g=>by
  obtain⟨d,β1,t,hd,r1⟩:=g;subst hd;exact run.ret t.fr r1 rfl⟩
theorem MF{f g:Dn->M Bool}{H:Hp}(h:iv K (yW f g) E σ H Q):tOr (iv K f E) (iv K g E) σ H Q:=by
 obtain⟨F,δ,β,fr,i,h⟩:=h;refine⟨F,δ,β,fr,i,(run.bind (R:=λ_ (a b:Bool)=>b=a) h).mono λv l j=>oa j λd β1 t hd r1=>?_⟩;subst hd;cases v with
 |false=>rw[Q8 Ri]at r1⊢;exact⟨F,δ,β1,t.fr,i.tr (t.tr fr),r1⟩
 |true=>rw[Rb rfl]at r1⊢;exact run.ret t.fr r1 rfl
theorem tJ{f:Dn->M Bool}(ha:PT X a (iv X.K f E)):PW X (.BoolOp .Or [a] pos) (iv X.K f E):=Nd ha
theorem xM{f g:Dn->M Bool}(ha:PT X a (iv X.K f E))(d:PW X (.BoolOp .Or (b::rest) pos) (iv X.K g E)):PW X (.BoolOp .Or (a::b::rest) pos) (iv X.K (yW f g) E):=(P6 ha d).imp λ_ _ _=>MF
theorem pK{e:Expr}{f:Dn->M Bool}(h:PW X e (iv X.K f E)):PT X e (iv X.K f E):=PW.pt h
theorem run.asB{F:Fx}{k:Bool->M D}{H:Hp}(hd:cp K F H d v)(h:run (cp K F) F E σ (M.bind (M.ofO (asB d)) k) H Q β):∃c,v= .bl c/\run (cp K F) F E σ (k c) H Q β:=by
 obtain⟨c,e,h⟩:=run.ofO_bind h;rw[jl e]at hd;exact⟨c,hd,h⟩
theorem v_if{f g:FD}(l:PT X c (iv X.K t E))(ha:PE X a (tV X.K f E))(m:PE X b (tV X.K g E)):PE X (.IfExp c a b pos) (tV X.K (fIf t f g) E):=
 (EG l ha m).imp λo H Q i=>ll i λF δ β fr j h=>⟨F,δ,β,fr,j,(run.bind (R:=λ_ (a b:Bool)=>b=a) h).mono λv q i=>by
  obtain⟨d,β1,t,hd,r1⟩:=i;subst hd;cases v with
  |true=>rw[Rb rfl]at r1⊢;exact⟨F,δ,β1,t.fr,j.tr (t.tr fr),r1⟩
  |false=>rw[Q8 Ri]at r1⊢;exact⟨F,δ,β1,t.fr,j.tr (t.tr fr),r1⟩⟩
def x0(K:RB)(J:It)(F:Fx)(H:Hp)(ds:List D):Prop:=∀(h:Fx) (g:Hp) (β2:Bg),Tr F H h g->Fr h g β2->∀i,(∀d,ds[i]?=on d->J.go i g/\∀x j,J.yld i g x j->bK g j/\cp K h j d x)/\(i=ds.length->J.stop i g)
theorem x0.tr{K:RB}{F d:Fx}{H g:Hp}(t:Tr F H d g)(h:x0 K J F H ds):x0 K J d g ds:=λi j β3 l fr=>h i j β3 (t.trans l) fr
def iV(K:RB)(f:FL)(E:St->XK):TI:=λd H R=>∃F δ β,Fr F H β/\ix K F H δ d/\run (λg (ds:List D) (J:It)=>x0 K J F g ds) F E d (f δ) H R β
theorem _root_.L2.PI.imp{X:Cx}{tg e:Expr}(h:PI X tg e t)(f:∀d H Q,t' d H Q->t d H Q):PI X tg e t':=λg s d H Q I q=>h g s d H Q I (f d H Q q)
variable{tg:Expr}
def iSeq(K:RB)(g:TE):TI:=λh H R=>g h H λx d=>(∃a,x= .ref a/\(∃xs,e_ K d a xs)/\R (Itl K a) d)\/(∃a,x= .ref a/\(∃xs,il K d a xs)/\R (Itt K a) d)
theorem Nj(t:PE X l tl):PI X tg l (iSeq X.K tl):=by
 intro g s u H R I h;refine ee (t g s u H _ I h) λv d ⟨x,m,i,r1,q1⟩=>?_;have j:∀b∈[d.heap.objs.size],fq X g m b:=λb w=>by
  obtain rfl:b=d.heap.objs.size:=by simpa using w
  exact i.fpOk (Rf _) (i.hok.fresh (Rf _))
 rcases q1 with⟨a,e,⟨xs,r⟩,q⟩|⟨a,e,⟨xs,r⟩,q⟩
 .subst e
  cases r1;obtain⟨its,y,p,A⟩:=i.list r;exact WK p.isList ⟨d.heap.objs.size,[d.heap.objs.size],_,_,m,rfl,i.kept (t':=d.toks) λb o e=>Q3 _ e,rV a _,⟨_,Rw _ rfl,rfl,rfl⟩,j,q⟩
 .subst e
  cases r1;obtain⟨its,y,p,A⟩:=i.tuple r;exact XR (show d.heap.IsTuple a its.toArray from p) ⟨d.heap.objs.size,[d.heap.objs.size],_,_,m,rfl,i.kept (t':=d.toks) λb o e=>Q3 _ e,xR a _,⟨_,Rw _ rfl,rfl,rfl⟩,j,q⟩
theorem FP{F:Fx}{H:Hp}{a:Q6}(h:cp K F H (.lst ds) (.ref a)):x0 K (Itl K a) F H ds:=λr u β2 t fr i=>by
 have m:=cp.tr t _ _ h;obtain⟨v,xs,e,sq,dl⟩:=cp.sqL m;cases e;refine⟨λd hd=>?_,λo=>⟨xs,sq,by rw[<-dl.length,o];exact Rf _⟩⟩;obtain⟨x,q,_⟩:=dl.get hd;refine⟨⟨xs,x,sq,q⟩,λy w g=>?_⟩;obtain⟨rfl,g⟩:=g;obtain⟨d',l,j⟩:=dl.getV (g xs sq);rw[hd]at l;cases l;exact⟨bK.refl _,j⟩
theorem L7{F:Fx}{H:Hp}{a:Q6}(h:cp K F H (.tup ds) (.ref a)):x0 K (Itt K a) F H ds:=λr u β2 t fr i=>by
 have m:=cp.tr t _ _ h;obtain⟨v,xs,e,sq,dl⟩:=cp.sqT m;cases e;refine⟨λd hd=>?_,λo=>⟨xs,sq,by rw[<-dl.length,o];exact Rf _⟩⟩;obtain⟨x,q,_⟩:=dl.get hd;refine⟨⟨xs,x,sq,q⟩,λy w g=>?_⟩;obtain⟨rfl,g⟩:=g;obtain⟨d',l,j⟩:=dl.getV (g xs sq);rw[hd]at l;cases l;exact⟨bK.refl _,j⟩
def cQ(f:FD):FL:=λδ=>M.bind (f δ) λd=>M.ofO (fK d)
theorem aR{f:FD}(j:PE X l (tV X.K f E)):PI X tg l (iV X.K (cQ f) E):=
 (Nj j).imp λo H R g=>ll g λF δ β fr m h=>⟨F,δ,β,fr,m,(run.bind (R:=cp X.K F) h).mono λv i g=>by
  obtain⟨d,β1,t,hd,r1⟩:=g;obtain⟨ds,e,k⟩:=run.ofO r1;cases d<;>first
   |(cases e;obtain⟨a,xs,rfl,sq,dl⟩:=cp.sqL hd;exact .inl ⟨a,rfl,⟨xs,sq⟩,k _ i (To.refl t.fr) (FP hd)⟩)
   |(cases e;obtain⟨a,xs,rfl,sq,dl⟩:=cp.sqT hd;exact .inr ⟨a,rfl,⟨xs,sq⟩,k _ i (To.refl t.fr) (L7 hd)⟩)
   |cases e⟩
noncomputable def bh(lo:Int)(n:Nat):List D:=(Re n).map λ(i:Nat)=> .int (lo+(i:Int))
theorem sJ{F:Fx}{H:Hp}{lo:Int}{n:Nat}:x0 K (Itr lo n) F H (bh lo n):=λl m β2 t fr i=>by
 refine⟨λd hd=>?_,λg=>?_⟩
 .unfold bh at hd
  have g:i<n:=by
   have:=(Rj.mp hd).1;simpa using this
  rw[Q5,Se g]at hd;cases hd;exact⟨g,λx o ⟨h,j⟩=>by subst h j;exact⟨bK.refl _,rfl⟩⟩
 .show n<=i
  rw[g];simp[bh]
def fS:List D->Option (List D)
 |[.int j]=>if(decide (-(2^62)<=j)&&decide (j<2^62))=Q4 then on (bh 0 j.toNat)else QY
 |_=>QY
def oV:List D->Option (List D)
 |[.int i,.int j]=>if(decide (-(2^62)<=i)&&decide (i<2^62)&&decide (-(2^62)<=j)&&decide (j<2^62))=Q4 then on (bh i (j-i).toNat)else QY
 |_=>QY
def cU(op:List D->Option (List D))(g:FL):FL:=λδ=>M.bind (g δ) λas=>M.ofO (op as)
theorem bY{a:Expr}{p pos:Vy}(j:Gl X "range")(hm:X.mg "range"=QY)(ha:PA X [a] (i0 X.K g E))(hs:Rm [a] X.env=[(Q9,Sw a X.env)]:=by rfl):PI X tg (.Call (.Name "range" p) [a] [] pos) (iV X.K (cU fS g) E):=
 (AD j hm ha hs).imp λr H R d=>ll d λF δ β fr m h=>⟨F,δ,β,fr,m,(run.bind (R:=bb X.K F) h).mono λvs o d=>by
  obtain⟨ds,β1,t,hd,r1⟩:=d;obtain⟨l,e,k⟩:=run.ofO r1;unfold fS at e;split at e
  .split at e
   .rename_i i
    cases e;simp only[RZ,R5]at i;obtain⟨v,rfl,q⟩:=bb.one hd;cases q.int;exact⟨_,rfl,i.1,i.2,k _ o (To.refl t.fr) sJ⟩
   .cases e
  .cases e⟩
theorem pf{a b:Expr}{p pos:Vy}(m:Gl X "range")(hm:X.mg "range"=QY)(ha:PA X [a,b] (i0 X.K g E))(hs:Rm [a,b] X.env=[(Q9,Sw a X.env),(Q9,Sw b X.env)]:=by rfl)(i:Rm [b] X.env=[(Q9,Sw b X.env)]:=by rfl):PI X tg (.Call (.Name "range" p) [a,b] [] pos) (iV X.K (cU oV g) E):=
 (AC m hm ha hs i).imp λy H R j=>ll j λF δ β fr o h=>⟨F,δ,β,fr,o,(run.bind (R:=bb X.K F) h).mono λvs q j=>by
  obtain⟨ds,β1,t,hd,r1⟩:=j;obtain⟨l,e,k⟩:=run.ofO r1;unfold oV at e;split at e
  .split at e
   .rename_i d
    cases e;simp only[RZ,R5]at d;obtain⟨v,w,rfl,r,u⟩:=bb.two hd;cases r.int;cases u.int;exact⟨_,_,rfl,⟨d.1.1.1,d.1.1.2,d.1.2,d.2⟩,k _ q (To.refl t.fr) sJ⟩
   .cases e
  .cases e⟩
abbrev m_:=D->Dn->Option Dn
abbrev jo:=List D->Dn->Option Dn
def dH(K:RB)(g:TG)(tg:m_):Prop:=∀(F:Fx) (H:Hp) (δ δ1:Dn) (i:St) (d:D) (v:V) (Q:St->Hp->Prop),ix K F H δ i->cp K F H d v->tg d δ=on δ1->(∀h,ix K F H δ1 h->Q h H)->g v i H Q
def qR(K:RB)(g:J_)(tg:jo):Prop:=∀(F:Fx) (H:Hp) (δ δ1:Dn) (h:St) (ds:List D) (vs:List V) (Q:St->Hp->Prop),ix K F H δ h->bb K F H ds vs->tg ds δ=on δ1->(∀d,ix K F H δ1 d->Q d H)->g vs h H Q
noncomputable def gs(i:Nat):m_:=λd δ=>if(δ.getD i (on .non)).isNone then on (δ.set i (on d))else QY
noncomputable def lX:jo:=λds δ=>match ds with
 |[]=>on δ
 |_=>QY
noncomputable def gz(t:m_)(u:jo):jo:=λds δ=>match ds with
 |[]=>QY
 |d::r=>(t d δ).bind λδ1=>u r δ1
noncomputable def Q_(t:jo):m_:=λd δ=>match d with
 | .tup ds=>t ds δ
 |_=>QY
theorem ut{δ δ1:Dn}(h:gs i d δ=on δ1):δ[i]?=on QY/\δ1=δ.set i (on d):=by
 unfold gs at h;split at h
 .rename_i q
  cases h;refine⟨?_,rfl⟩;rw[QZ]at q;cases e:δ[i]? with
  |none=>rw[e]at q;cases q
  |some z=>
   rw[e]at q;cases z with
   |none=>rfl
   |some w=>cases q
 .cases h
theorem ah:dH K (fi i) (gs i):=λF H δ δ1 h d v Q g hd e k=>by
 obtain⟨_,rfl⟩:=ut e;exact k _ (g.set hd)
theorem c7:qR K gNil lX:=λF H δ δ1 g ds vs Q d hd e k=>by
 cases ds with
 |nil=>cases e;exact⟨hd,k _ d⟩
 |cons _ _=>cases e
theorem aW(m:dH K t tf)(o:qR K u uf):qR K (yN t u) (gz tf uf):=λF H δ δ1 v ds vs Q w hd e k=>by
 cases ds with
 |nil=>cases e
 |cons d r=>
  obtain⟨x,l,rfl,y,A⟩:=hd;have h:(tf d δ).bind (λδ1=>uf r δ1)=on δ1:=e;cases q:tf d δ with
  |none=>rw[q]at h;cases h
  |some g=>
   rw[q]at h;exact⟨x,l,rfl,m F H δ g v d x _ w y q λi j=>o F H g δ1 i r l Q j A h k⟩
theorem dR{n:Nat}(h:qR K t tf)(hn:∀ds δ δ1,tf ds δ=on δ1->ds.length=n):dH K (FW K n t) (Q_ tf):=λF H δ δ1 g d v Q i hd e k=>by
 cases d<;>first
  |(obtain⟨a,xs,rfl,sq,dl⟩:=cp.sqT hd;exact⟨a,xs,rfl,sq,by rw[<-dl.length];exact hn _ _ _ e,h F H δ δ1 g _ xs Q i dl e k⟩)
  |cases e
theorem cm:∀ds δ δ1,lX ds δ=on δ1->ds.length=0:=λds δ δ1 h=>by
 cases ds with
 |nil=>rfl
 |cons _ _=>cases h
theorem aU{n:Nat}(h:∀ds δ δ1,u ds δ=on δ1->ds.length=n):∀ds δ δ1,gz t u ds δ=on δ1->ds.length=n+1:=λds δ δ1 e=>by
 cases ds with
 |nil=>cases e
 |cons d r=>
  have g:(t d δ).bind (λδ1=>u r δ1)=on δ1:=e;cases q:t d δ with
  |none=>rw[q]at g;cases g
  |some i=>rw[q]at g;rw[Rl,h _ _ _ g]
def eX(tg:m_):Prop:=∀d δ δ1,tg d δ=on δ1->Sub δ δ1/\δ.length=δ1.length
def ue(tg:jo):Prop:=∀d δ δ1,tg d δ=on δ1->Sub δ δ1/\δ.length=δ1.length
theorem am:eX (gs i):=λd δ δ1 e=>by
 obtain⟨q,rfl⟩:=ut e;refine⟨λj c g=>?_,by rw[RV]⟩;rw[R4];by_cases z:i=j
 .subst z;rw[q]at g;cases g
 .rw[Q8 z];exact g
theorem cY:ue lX:=λds δ δ1 e=>by
 cases ds with
 |nil=>cases e;exact⟨λ_ _ h=>h,rfl⟩
 |cons _ _=>cases e
theorem aV(j:eX t)(l:ue u):ue (gz t u):=λds δ δ1 e=>by
 cases ds with
 |nil=>cases e
 |cons d r=>
  have g:(t d δ).bind (λδ1=>u r δ1)=on δ1:=e;cases q:t d δ with
  |none=>rw[q]at g;cases g
  |some m=>
   rw[q]at g;obtain⟨a1,a2⟩:=j _ _ _ q;obtain⟨b1,b2⟩:=l _ _ _ g;exact⟨λi c h=>b1 i c (a1 i c h),a2.trans b2⟩
theorem dM(h:ue t):eX (Q_ t):=λd δ δ1 e=>by
 cases d<;>first|exact h _ _ _ e|cases e
structure lQ (F:Fx) (D:Q6) (H H':Hp) (β':Bg):Prop where
 kp:∀a o,H a=on o->a≠D->(∀b l,F.bg=on (b,l)->a≠b/\a≠l)->H' a=on o
 fr:Fr F H' β'
theorem lQ.trans{F:Fx}{D:Q6}{H d g:Hp}(a:lQ F D H d β1)(b:lQ F D d g β2):lQ F D H g β2:=⟨λx o h n m=>b.kp x o (a.kp x o h n m) n m,b.fr⟩
theorem To.toD{F:Fx}{H d:Hp}(t:To F H d β')(D:Q6):lQ F D H d β':=⟨λa o h _ m=>t.kp a o h m,t.fr⟩
theorem lQ.tr{F:Fx}{D:Q6}{H d:Hp}(fr:Fr F H β)(g:F.A D)(t:lQ F D H d β'):Tr F H F d:=
 ⟨λ_ h _=>h,λa o h e=>t.kp a o e (λz=>h (z▸g)) λb l q=>⟨λz=>h (z▸(fr.bgA b l q).1),λz=>h (z▸(fr.bgA b l q).2.1)⟩,rfl⟩
structure AR where
 R:Fx->Hp->Q6->List Pu.D->Prop
 Z:List Pu.D->Prop
 tr:∀{F F2:Fx} {H H':Hp} {D:Q6} {as:List Pu.D},R F H D as->(∀o,H D=on o->H' D=on o)->Tr F H F2 H'->R F2 H' D as
 zp:∀{as os:List Pu.D},Z (as++os)->Z as
noncomputable def RL(K:RB):AR where
 R:=λF H D as=>∃acc,H D=on (.lst acc)/\bb K F H as acc
 Z:=λl=>l.length<=RF
 tr:=λh k t=>by
  obtain⟨acc,d,g⟩:=h;exact⟨acc,k _ d,bb.tr t _ _ g⟩
 zp:=λh=>by rw[Ro]at h;omega
def eY(K:RB)(R:AR)(D:Q6)(j:TB)(f:Dn->M (List Pu.D)):Prop:=∀(F:Fx) (H:Hp) (δ:Dn) (β d:Bg) (i:St) (as os:List Pu.D) (Q:St->Hp->Prop),Fr F H β->F.A D->(∀b l,F.bg=on (b,l)->D≠b/\D≠l)->ix K F H δ i->R.R F H D as->
 f δ β=on (.ok os,d)->R.Z (as++os)->(∀g h,lQ F D H h d->ix K F h δ g->R.R F h D (as++os)->Q g h)->j i H Q
abbrev oo(K:RB):=eY K (RL K)
def k_(f:Dn->M Pu.D):Dn->M (List Pu.D):=λδ=>M.bind (f δ) λd=>M.ret [d]
theorem M.bind_inv{α g:Type}{m:M α}{k:α->M g}{β d:Bg}{r:g}(h:M.bind m k β=on (.ok r,d)):∃a β1,m β=on (.ok a,β1)/\k a β1=on (.ok r,d):=by
 unfold M.bind at h;split at h
 .cases h
 .cases h
 .rename_i a β1 e
  exact⟨a,β1,e,h⟩
theorem E0.run{α i:Type}{R:Hp->α->i->Prop}{F:Fx}{j:St}{m:M α}{H:Hp}{Q:i->Hp->Prop}{β d:Bg}{a:α}(e:m β=on (.ok a,d))(h:∀v g,To F H g d->R g a v->Q v g):run R F E0 j m H Q β:=⟨.ok a,d,e,h⟩
theorem aD{D:Q6}{f:Dn->M Pu.D}:oo K D (y9 D (tV K f E0)) (k_ f):=λF H δ β g w as os Q fr y i m A e B k=>by
 obtain⟨acc,C,hd⟩:=A;obtain⟨d,β1,I,J⟩:=M.bind_inv e;cases J;refine⟨F,δ,β,fr,m,E0.run I λv r t L=>?_⟩;have j:=t.kp D _ C i;have dl:=bb.tr (t.tr fr) _ _ hd;refine⟨acc,j,by rw[<-hd.length];have:=(show(as++[d]).length<=RF from B);simp at this;omega,?_⟩;have u:lQ F D r (upd r D (.lst (acc++[v]))) g:=by
  refine⟨λa o h n _=>by rw[b_ n];exact h,λa h q=>?_,fr.bgA,λb l q=>?_⟩
  .by_cases z:a=D
   .subst z;rw[aq]at q;cases q
   .rw[b_ z]at q;exact t.fr.occ a h q
  .rw[b_ (i b l q).1.symm,b_ (i b l q).2.symm]
   exact t.fr.bag b l q
 have tt:=u.tr t.fr y;exact k w _ ((t.toD D).trans u) (m.tr ((t.tr fr).trans tt)) ⟨_,aq,bb.append (bb.tr tt _ _ dl) ⟨v,[],rfl,cp.tr tt _ _ L,rfl⟩⟩
def p4(tg:m_)(tt:Dn->M Bool)(b:Dn->M (List Pu.D)):List Pu.D->Dn->M (List Pu.D)
 |[],_=>M.ret []
 |d::ds,δ=>match tg d δ with
  |none=>M.fail
  |some δ1=>M.bind (tt δ1) λc=>M.bind (if c=Q4 then b δ1 else M.ret []) λo=>M.bind (p4 tg tt b ds δ) λos=>M.ret (o++os)
theorem rA{R:AR}{D:Q6}{tg:m_}{b:Dn->M (List Pu.D)}(hg:dH K g tg)(sg:eX tg)(hb:eY K R D tb b){F:Fx}{H:Hp}{as os ds:List Pu.D}(fr:Fr F H β)(hA:F.A D)(hn:∀b l,F.bg=on (b,l)->D≠b/\D≠l)(vk:ix K F H δ σ)(hR:R.R F H D as)
  (it:x0 K J F H ds) (e:p4 tg tt b ds δ β=on (.ok os,β')) (hz:R.Z (as++os)) (k:∀j t,lQ F D H t β'->ix K F t δ j->R.R F t D (as++os)->Q j t):dG J g (iv K tt E0) tb σ H Q:=by
 refine⟨λi m j t=>m+i=ds.length/\∃β1 r v,lQ F D H t β1/\ix K F t δ j/\R.R F t D r/\p4 tg tt b (ds.drop i) δ β1=on (.ok v,β')/\r++v=as++os,
  ⟨ds.length,by omega,β,as,os,⟨λ_ _ h _ _=>h,fr⟩,vk,hR,e,rfl⟩,?_⟩
 rintro i m j t ⟨hm,β1,r,v,B,C,I,u,ea⟩;have tr1:=B.tr fr hA;obtain⟨iy,is⟩:=it F t β1 tr1 B.fr i;cases T:ds[i]? with
 |none=>
  have U:ds.length<=i:=Wb.mp T;rw[S5 U]at u;cases u;refine .inl ⟨is (by omega),k j t B C ?_⟩;rw[<-ea,RX];exact I
 |some d=>
  have U:i<ds.length:=(Rj.mp T).1;obtain⟨go,yl⟩:=iy d T;have ed:ds.drop i=d::ds.drop (i+1):=by
   rw[R7 U];congr 1;exact RO ((Q2 U).symm.trans T)
  rw[ed]at u;unfold p4 at u;cases q:tg d δ with
  |none=>rw[q]at u;cases u
  |some δ1=>
   rw[q]at u;obtain⟨c,β2,e2,e3⟩:=M.bind_inv u;obtain⟨o,β3,W,e5⟩:=M.bind_inv e3;obtain⟨os2,β4,e6,e7⟩:=M.bind_inv e5;cases e7;obtain⟨s1,s2⟩:=sg _ _ _ q;refine .inr ⟨go,λL Y=>lQ F D H Y β3/\ix K F Y δ L/\R.R F Y D (r++o),?_,λx H2 hy=>?_⟩
   .rintro L Y ⟨t9,vk9,hR9⟩
    exact⟨m-1,by omega,by omega,β3,r++o,os2,t9,vk9,hR9,e6,by rw[Sm];exact ea⟩
   .obtain⟨sm,dx⟩:=yl x H2 hy
    have t2:To F t H2 β1:=B.fr.same sm;have N:=t2.tr B.fr;refine hg F H2 δ δ1 j d x _ (C.tr N) dx q λσ2 w=>⟨F,δ1,β1,t2.fr,w,E0.run e2 λc' H3 t3 ec=>?_⟩;subst ec;have y:=t3.tr t2.fr;have O:=R.tr I (λo z=>t3.kp D o (sm _ _ z) hn) (N.trans y);have P:lQ F D H H3 β2:=B.trans ((t2.trans t3).toD D);have hle:R.Z (r++o):=by
     rw[<-ea,<-Sm]at hz;exact R.zp hz
    cases c' with
    |true=>
     rw[Rb rfl]at W⊢;refine hb F H3 δ1 β2 β3 σ2 r o _ t3.fr hA hn (w.tr y) O W hle λσ4 H4 t4 vk4 hR4=>?_;exact⟨P.trans t4,vk4.sub s1 s2,hR4⟩
    |false=>
     rw[Q8 Ri]at W⊢;cases W;exact⟨P,(w.tr y).sub s1 s2,by rw[RX];exact O⟩
def U_(it:Dn->M (List Pu.D))(tg:m_)(tt:Dn->M Bool)(b:Dn->M (List Pu.D)):Dn->M (List Pu.D):=λδ=>M.bind (it δ) λds=>p4 tg tt b ds δ
theorem o4{D:Q6}{tg:m_}{b:Dn->M (List Pu.D)}(j:dH K g tg)(l:eX tg)(m:eY K R D tb b):eY K R D (y8 (iV K it E0) λJ=>dG J g (iv K tt E0) tb) (U_ it tg tt b):=λF H δ β q C as os Q fr r hn h u e v k=>by
 obtain⟨ds,β1,w,y⟩:=M.bind_inv e;refine⟨F,δ,β,fr,h,E0.run w λJ i t A=>?_⟩;exact rA j l m t.fr r hn (h.tr (t.tr fr)) (R.tr u (λo z=>t.kp D o z hn) (t.tr fr)) A y v λd i B=>k d i ((t.toD D).trans B)
theorem xf{D:Q6}{tg:m_}{b:Dn->M (List Pu.D)}(d:dH K g tg)(h:eX tg)(i:oo K D tb b):oo K D (y8 (iV K it E0) λJ=>dG J g (iv K tt E0) tb) (U_ it tg tt b):=o4 d h i
noncomputable def lK(nv:Nat)(cw:List Nat)(δ:Dn):Dn:=Rr nv QY++cw.map λj=>δ.getD j QY
def bT(nv:Nat)(cw:List Nat)(it:Dn->M (List Pu.D))(tg:m_)(tt:Dn->M Bool)(b:Dn->M (List Pu.D)):Dn->M Pu.D:=λδ β=>match it δ β with
 |none=>QY
 |some (.error C,β1)=>on (.error C,β1)
 |some (.ok ds,β1)=>match p4 tg tt b ds (lK nv cw δ) β1 with
  |some (.ok os,β2)=>if os.length<=RF then on (.ok (.lst os),β2)else QY
  |_=>QY
theorem vZ{F:Fx}{H:Hp}{c_:List R3}(h:ix K F H δ σ):ix K F H (lK c_.length cw δ) (kF c_ cw σ):=by
 refine⟨by simp[lK,kF],λi d e=>?_⟩;unfold lK at e;unfold kF;rw[WZ]at e⊢;rw[Td]at e⊢;by_cases g:i<c_.length
 .rw[Rb g,Ts,Rb g]at e
  cases e
 .rw[Q8 g,Q5]at e⊢
  cases q:cw[i-c_.length]? with
  |none=>rw[q]at e;cases e
  |some j=>
   rw[q]at e;simp only[SY,Yx]at e⊢;rw[QZ]at e;cases z:δ[j]? with
   |none=>rw[z]at e;cases e
   |some w=>
    rw[z]at e;have l:w=on d:=e;subst l;obtain⟨v,m,o⟩:=h.tell j d z;exact⟨v,by rw[QZ,m];rfl,o⟩
theorem uu{c_:List R3}{cw:List Nat}{it:Dn->M (List Pu.D)}{g:TG}{tg:m_}{tt:Dn->M Bool}{P:Q6->TB}{b:Dn->M (List Pu.D)}(Z:dH K g tg)(sg:eX tg)(hb:∀D,oo K D (P D) b){T:St}{H:Hp}{Q:VK}(h:tV K (bT c_.length cw it tg tt b) E T H Q):
  tM c_ cw (iV K it E) (λD J=>dG J g (iv K tt E0) (P D)) T H Q:=by
 obtain⟨F,δ,β,fr,U,r,v,e,h⟩:=h;unfold bT at e;refine⟨F,δ,β,fr,U,?_⟩;split at e
 .cases e
 .rename_i C β1 q
  cases e;exact⟨.error C,_,q,h⟩
 .rename_i ds β1 q
  split at e
  .rename_i os β2 q2
   split at e
   .rename_i hz
    cases e;refine⟨.ok ds,β1,q,λJ u t hJ D i=>?_⟩;have d:¬F.A D:=t.fr.fresh i;have nb:∀b l,F.bg=on (b,l)->D≠b/\D≠l:=λb l z=>⟨λw=>d (w▸(fr.bgA b l z).1),λw=>d (w▸(fr.bgA b l z).2.1)⟩;have W:=t.fr.upd (.lst []) i;have B:Fr ⟨λa=>F.A a\/a=D,F.bg⟩ (upd u D (.lst [])) β1:=by
     refine⟨λa ha z=>?_,λb l z=>let ⟨x,y,w⟩:=fr.bgA b l z;⟨.inl x,.inl y,w⟩,W.fr.bag⟩
     rcases ha with ha|ha
     .exact W.fr.occ a ha z
     .subst ha;rw[aq]at z;cases z
    have j:Tr F u ⟨λa=>F.A a\/a=D,F.bg⟩ (upd u D (.lst [])):=⟨λa ha hs z=>by
     rcases z with z|z
     .exact ha z
     .subst z;exact hs i,λa o ha z=>by rw[b_ (az z i)];exact z,rfl⟩
    refine rA (R:=RL K) (D:=D) (as:=[]) (os:=os) Z sg (hb D) B (.inr rfl) nb (vZ (U.tr ((t.tr fr).trans j))) ⟨[],aq,rfl⟩ (hJ.tr j) q2 (show os.length<=RF from hz) λσ1 Y I vk3 L=>?_;obtain⟨m,N,O⟩:=L;have tf:To F u Y v:=by
     refine⟨λa o z n=>I.kp a o (by rw[b_ (az z i)];exact z) (az z i) n,λa ha z=>I.fr.occ a (Tg ha) z,fr.bgA,I.fr.bag⟩
    refine h _ Y (t.trans tf) ⟨D,m,rfl,⟨d,.inl N⟩,bb.tr (F:=⟨λa=>F.A a\/a=D,F.bg⟩) ⟨λa ha _ z=>ha (Tg z),λa o _ z=>z,rfl⟩ _ _ O⟩
   .cases e
  .cases e
inductive Sl where
 |sh (d:D)|own (ds:List D)|grd (a_:List (List D))
abbrev Ds:=List (Option Sl)
inductive xr where
 |nx (δ:Ds)|rt (d:D)|bk (δ:Ds)|ct (δ:Ds)|ex (C:Q6) (δ:Ds)|rg (a_:List (List D))
abbrev G:=Ds->Bg->Option (xr×Bg)
abbrev Ow:=Q6->Option Nat
noncomputable def eg(B:Ow)(bg:Option (Q6×Q6)):Fx:=⟨λa=>B a≠QY,bg⟩
noncomputable def o0(B:Ow)(bg:Option (Q6×Q6)):Fx:=⟨λa=>B a=on 0\/B a=on 1,bg⟩
def d4(K:RB)(F:Fx)(H:Hp)(P:Q6->Prop):List (List D)->List Q6->Prop
 |[],[]=>True
 |ds::a_,r::rs=>P r/\(∃xs,H r=on (.lst xs)/\bb K F H ds xs)/\d4 K F H P a_ rs
 |_,_=>False
theorem d4.tr{K:RB}{F i:Fx}{H d:Hp}(t:Tr F H i d):∀{a_:List (List D)} {rs:List Q6},d4 K F H P a_ rs->(∀r xs,r∈rs->P r->H r=on (.lst xs)->P2 r/\d r=on (.lst xs))->d4 K i d P2 a_ rs
 |[],[],_,_=>trivial
 |ds::a_,r::rs,h,f=>by
  obtain⟨j,⟨xs,l,m⟩,o⟩:=h;obtain⟨p,q⟩:=f r xs Q7 j l;exact⟨p,⟨xs,q,bb.tr t _ _ m⟩,d4.tr t o λu g v=>f u g (Q1 _ v)⟩
 |[],_::_,h,_=>h.elim
 |_::_,[],h,_=>h.elim
theorem d4.all{K:RB}{F:Fx}{H:Hp}:∀{a_:List (List D)} {rs:List Q6},d4 K F H P a_ rs->∀r∈rs,P r/\∃xs,H r=on (.lst xs)
 |[],[],_,r,hr=>by cases hr
 |ds::a_,r0::rs,h,r,hr=>by
  obtain⟨d,⟨xs,g,j⟩,i⟩:=h;rcases Rq.mp hr with rfl|hr
  .exact⟨d,xs,g⟩
  .exact d4.all i r hr
 |[],_::_,h,_,_=>h.elim
 |_::_,[],h,_,_=>h.elim
theorem d4.den{K:RB}{F d:Fx}{H:Hp}(t:Tr F H d H):∀{a_:List (List D)} {rs:List Q6},d4 K F H P a_ rs->(∀r,r∈rs->P r->¬d.A r)->bb K d H (a_.map D.lst) (rs.map V.ref)
 |[],[],_,_=>rfl
 |ds::a_,r::rs,h,f=>by
  obtain⟨g,⟨xs,i,j⟩,l⟩:=h;exact bb.cons ⟨r,xs,rfl,⟨f r Q7 g,.inl i⟩,bb.tr t _ _ j⟩ (d4.den t l λm o=>f m (Q1 _ o))
 |[],_::_,h,_=>h.elim
 |_::_,[],h,_=>h.elim
theorem d4.len{K:RB}{F:Fx}{H:Hp}:∀{a_:List (List D)} {rs:List Q6},d4 K F H P a_ rs->a_.length=rs.length
 |[],[],_=>rfl
 |ds::a_,r::rs,h=>by simp[d4.len h.2.2]
 |[],_::_,h=>h.elim
 |_::_,[],h=>h.elim
def v9(K:RB)(F:Fx)(H0 H:Hp)(a_:List (List D))(v:V):Prop:=∃a rs,v= .ref a/\H0 a=QY/\H a=on (.lst (rs.map V.ref))/\(a::rs).Nodup/\d4 K F H (λr=>H0 r=QY) a_ rs
def DenS(K:RB)(B:Ow)(bg:Option (Q6×Q6))(H:Hp)(i:Nat):Sl->V->Prop
 | .sh d,v=>cp K (eg B bg) H d v
 | .own ds,v=>∃a xs,v= .ref a/\B a=on (i+2)/\H a=on (.lst xs)/\bb K (eg B bg) H ds xs
 | .grd a_,v=>∃a rs,v= .ref a/\B a=on (i+2)/\H a=on (.lst (rs.map V.ref))/\(a::rs).Nodup/\d4 K (eg B bg) H (λr=>B r=on (i+2)) a_ rs
structure fw (K:RB) (H₀:Hp) (B:Ow) (bg:Option (Q6×Q6)) (H:Hp) (δ:Ds) (β:Bg) (σ:St):Prop where
 fr:Fr (eg B bg) H β
 bgt:∀b l,bg=on (b,l)->B b=on 1/\B l=on 1
 len:δ.length=σ.length
 cov:∀a,H₀ a≠QY->H a≠QY
 new:∀a k,B a=on (k+2)->H₀ a=QY
 lst:∀a k,B a=on (k+2)->∃xs,H a=on (.lst xs)
 tell:∀(i:Nat) (s:Sl),δ[i]?=on (on s)->∃v,σ[i]?=on (on v)/\DenS K B bg H i s v
structure hE (B:Ow) (H:Hp) (B':Ow) (H':Hp):Prop where
 kp:∀a o,H a=on o->(B a=QY\/B a=on 0)->H' a=on o
 tg:∀a,B a=on 0\/B a=on 1->B' a=B a
 nn:∀a o,H a=on o->B a=QY->B' a=QY
 al:∀a,H a≠QY->H' a≠QY
theorem hE.refl(B:Ow)(H:Hp):hE B H B H:=⟨λ_ _ h _=>h,λ_ _=>rfl,λ_ _ _ h=>h,λ_ h=>h⟩
theorem hE.trans{H d g:Hp}(a:hE B H B1 d)(b:hE B1 d B2 g):hE B H B2 g:=by
 refine⟨λx o h n=>b.kp x o (a.kp x o h n) ?_,λx h=>?_,λx o h n=>b.nn x o (a.kp x o h (.inl n)) (a.nn x o h n),λx h=>b.al x (a.al x h)⟩
 .rcases n with n|n
  .exact .inl (a.nn x o h n)
  .exact .inr ((a.tg x (.inl n)).trans n)
 .have e:=a.tg x h
  rw[<-e]at h;exact(b.tg x h).trans e
def gN(K:RB)(H₀:Hp)(bg:Option (Q6×Q6))(E:St->XK)(Dn:o_)(B:Ow)(H:Hp)(o:xr)(j:Bg):Prop:=match o with
 | .nx δ'=>∀h i g,hE B H i g->fw K H₀ i bg g δ' j h->Dn.nx h g
 | .bk δ'=>∀h i g,hE B H i g->fw K H₀ i bg g δ' j h->Dn.bk h g
 | .ct δ'=>∀h i g,hE B H i g->fw K H₀ i bg g δ' j h->Dn.ct h g
 | .rt d=>∀v i g,hE B H i g->Fr (eg i bg) g j->cp K (eg i bg) g d v->Dn.rt v g
 | .rg a_=>∀v i g,hE B H i g->Fr (eg i bg) g j->v9 K (eg i bg) H₀ g a_ v->Dn.rt v g
 | .ex C δ'=>∀h i g,hE B H i g->fw K H₀ i bg g δ' j h->E h (.ref C) QY g
theorem gN.pre{K:RB}{E:St->XK}{Dn:o_}{H l:Hp}(s:hE B H B1 l)(h:gN K H₀ bg E Dn B H o β'):gN K H₀ bg E Dn B1 l o β':=by
 cases o with
 |nx δ=>exact λg i j t=>h g i j (s.trans t)
 |bk δ=>exact λg i j t=>h g i j (s.trans t)
 |ct δ=>exact λg i j t=>h g i j (s.trans t)
 |rt d=>exact λv i j t=>h v i j (s.trans t)
 |rg d=>exact λv i j t=>h v i j (s.trans t)
 |ex C δ=>exact λg i j t=>h g i j (s.trans t)
def tG(K:RB)(H₀:Hp)(g:G)(E:St->XK):TS:=λDn h H=>∃B bg δ β o d,fw K H₀ B bg H δ β h/\g δ β=on (o,d)/\gN K H₀ bg E Dn B H o d
theorem _root_.L2.PS.imp{X:Cx}{e:Sy}(h:PS X e t)(f:∀D d H,t' D d H->t D d H):PS X e t':=λg s d H D I q=>h g s d H D I (f D d H q)
theorem _root_.L2.PSs.imp{X:Cx}{e:List Sy}(h:PSs X e t)(f:∀D d H,t' D d H->t D d H):PSs X e t':=λg s d H D I q=>h g s d H D I (f D d H q)
noncomputable def vw(δ:Ds):Dn:=δ.map λs=>match s with
 |some (.sh d)=>on d
 |_=>QY
noncomputable def hO(δ:Ds):Dn:=δ.map λs=>match s with
 |some (.sh d)=>on d
 |some (.own ds)=>on (.lst ds)
 |some (.grd a_)=>on (.lst (a_.map D.lst))
 |none=>QY
variable{H₀:Hp}{B:Ow}{bg:Option (Q6×Q6)}{H':Hp}{δ:Ds}{β β':Bg}{σ:St}
theorem PH{i:Nat}{d:D}(e:(vw δ)[i]?=on (on d)):δ[i]?=on (on (.sh d)):=by
 unfold vw at e;rw[Q5]at e;cases q:δ[i]? with
 |none=>rw[q]at e;cases e
 |some z=>
  rw[q]at e;cases z with
  |none=>cases e
  |some s=>
   cases s with
   |sh c=>cases e;rfl
   |own ds=>cases e
   |grd a_=>cases e
theorem fw.view(h:fw K H₀ B bg H δ β σ):ix K (eg B bg) H (vw δ) σ:=⟨by unfold vw;rw[QX,h.len],λi d e=>h.tell i _ (PH e)⟩
theorem trA:Tr (eg B bg) H (o0 B bg) H:=⟨λa h _ z=>by
 have h':¬(B a≠QY):=h;rcases z with z|z
 .exact h' (by rw[z];simp)
 .exact h' (by rw[z];simp),λ_ _ _ h=>h,rfl⟩
theorem fw.frA(h:fw K H₀ B bg H δ β σ):Fr (o0 B bg) H β:=⟨λa ha=>h.fr.occ a (by
 show B a≠QY;rcases ha with z|z<;>rw[z]<;>simp),λb l e=>⟨.inr (h.bgt b l e).1,.inr (h.bgt b l e).2,(h.fr.bgA b l e).2.2⟩,h.fr.bag⟩
theorem fw.viewA(h:fw K H₀ B bg H δ β σ):ix K (o0 B bg) H (hO δ) σ:=by
 refine⟨by unfold hO;rw[QX,h.len],λi d e=>?_⟩;unfold hO at e;rw[Q5]at e;cases q:δ[i]? with
 |none=>rw[q]at e;cases e
 |some z=>
  rw[q]at e;cases z with
  |none=>cases e
  |some s=>
   obtain⟨v,g,j⟩:=h.tell i s q;cases s with
   |sh c=>cases e;exact⟨v,g,cp.tr trA _ _ j⟩
   |own ds=>
    cases e;obtain⟨a,xs,l,m,o,t⟩:=j;refine⟨v,g,a,xs,l,⟨λz=>?_,.inl o⟩,bb.tr trA _ _ t⟩;have z':B a=on 0\/B a=on 1:=z;rw[m]at z';rcases z' with z'|z'<;>cases z'
   |grd a_=>
    cases e;obtain⟨a,rs,l,m,o,t,w⟩:=j;have u:∀c,B c=on (i+2)->¬(o0 B bg).A c:=λc y z=>by
     have z':B c=on 0\/B c=on 1:=z;rw[y]at z';rcases z' with z'|z'<;>cases z'
    exact⟨v,g,a,_,l,⟨u a m,.inl o⟩,d4.den trA w λr _ C=>u r C⟩
theorem fw.to{F:Fx}(h:fw K H₀ B bg H δ β σ)(hF:F.bg=bg)(t:To F H H' β'):fw K H₀ B bg H' δ β' σ/\hE B H B H':=by
 have J:∀a,B a≠on 1->∀b l,F.bg=on (b,l)->a≠b/\a≠l:=λa ha b l e=>by
  rw[hF]at e;exact⟨λz=>ha (z▸(h.bgt b l e).1),λz=>ha (z▸(h.bgt b l e).2)⟩
 have kp:∀a o,H a=on o->B a≠on 1->H' a=on o:=λa o e n=>t.kp a o e (J a n);have fr:Fr (eg B bg) H' β':=⟨λa ha z=>(by
  by_cases L:B a=on 1
  .by_cases d:∃b l,bg=on (b,l)/\(a=b\/a=l)
   .obtain⟨b,l,e,q⟩:=d
    obtain⟨j,m⟩:=t.fr.bag b l (hF.trans e);rcases q with rfl|rfl
    .rw[j]at z;cases z
    .rw[m]at z;cases z
   .cases q:H a with
    |none=>exact h.fr.occ a ha q
    |some o=>
     rw[t.kp a o q λb l e=>⟨λw=>d ⟨b,l,hF.symm.trans e,.inl w⟩,λw=>d ⟨b,l,hF.symm.trans e,.inr w⟩⟩]at z;cases z
  .cases q:H a with
   |none=>exact h.fr.occ a ha q
   |some o=>rw[kp a o q L]at z;cases z),h.fr.bgA,λb l e=>t.fr.bag b l (hF.trans e)⟩
 have tr:Tr (eg B bg) H (eg B bg) H':=⟨λ_ n _=>n,λa o n e=>kp a o e (λz=>n (by show B a≠QY;rw[z];simp)),rfl⟩;have al:∀a,H a≠QY->H' a≠QY:=λa ha z=>by
  by_cases d:∃b l,bg=on (b,l)/\(a=b\/a=l)
  .obtain⟨b,l,e,q⟩:=d
   obtain⟨j,m⟩:=t.fr.bag b l (hF.trans e);rcases q with rfl|rfl
   .rw[j]at z;cases z
   .rw[m]at z;cases z
  .cases q:H a with
   |none=>exact ha q
   |some o=>
    rw[t.kp a o q λb l e=>⟨λw=>d ⟨b,l,hF.symm.trans e,.inl w⟩,λw=>d ⟨b,l,hF.symm.trans e,.inr w⟩⟩]at z;cases z
 refine⟨⟨fr,h.bgt,h.len,λa ha=>al a (h.cov a ha),h.new,λc k I=>(let ⟨xs,z⟩:=h.lst c k I;⟨xs,kp c _ z (by rw[I];intro z;cases z)⟩),λi s e=>?_⟩,λa o e n=>kp a o e (by rcases n with n|n<;>rw[n]<;>simp),λ_ _=>rfl,λ_ _ _ n=>n,al⟩
 obtain⟨v,N,u⟩:=h.tell i s e;refine⟨v,N,?_⟩;cases s with
 |sh c=>exact cp.tr tr _ _ u
 |own ds=>
  obtain⟨a,xs,y,g,A,C⟩:=u;exact⟨a,xs,y,g,kp a _ A (by rw[g];intro z;cases z),bb.tr tr _ _ C⟩
 |grd a_=>
  obtain⟨a,rs,y,g,A,C,O⟩:=u;exact⟨a,rs,y,g,kp a _ A (by rw[g];intro z;cases z),C,d4.tr tr O λr xs _ p q=>⟨p,kp r _ q (by rw[p];intro z;cases z)⟩⟩
theorem fw.set(h:fw K H₀ B bg H δ β σ)(hd:cp K (eg B bg) H d v):fw K H₀ B bg H (δ.set i (on (.sh d))) β (σ.set i (on v)):=by
 refine⟨h.fr,h.bgt,by rw[RV,RV,h.len],h.cov,h.new,h.lst,λj c e=>?_⟩;rw[R4]at e;rw[R4];by_cases q:i=j
 .subst q
  rw[Rb rfl]at e⊢;split at e
  .rename_i g
   cases e;rw[Rb (by rw[<-h.len];exact g)];exact⟨v,rfl,hd⟩
  .cases e
 .rw[Q8 q]at e⊢
  exact h.tell j c e
noncomputable def gNil:G:=λδ β=>on (.nx δ,β)
noncomputable def bo(g h:G):G:=λδ β=>match g δ β with
 |some (.nx δ1,β1)=>h δ1 β1
 |r=>r
def mS(i:Nat)(f:FD):G:=λδ β=>match f (vw δ) β with
 |some (.ok d,β1)=>on (.nx (δ.set i (on (.sh d))),β1)
 |some (.error C,β1)=>on (.ex C δ,β1)
 |none=>QY
noncomputable def li(f:FD):G:=λδ β=>match f (hO δ) β with
 |some (.ok _,β1)=>on (.nx δ,β1)
 |some (.error C,β1)=>on (.ex C δ,β1)
 |none=>QY
noncomputable def yJ(f:FD):G:=λδ β=>match f (hO δ) β with
 |some (.ok d,β1)=>on (.rt d,β1)
 |some (.error C,β1)=>on (.ex C δ,β1)
 |none=>QY
noncomputable def T_(t:Dn->M Bool)(g h:G):G:=λδ β=>match t (hO δ) β with
 |some (.ok Q4,β1)=>g δ β1
 |some (.ok Q9,β1)=>h δ β1
 |some (.error C,β1)=>on (.ex C δ,β1)
 |none=>QY
variable{st:Sy}{sts:List Sy}
theorem bL:PSs X [] (tG X.K X.H₀ gNil E):=rj.imp λD σ H d=>by
 obtain⟨B,bg,δ,β,o,β',ok,e,h⟩:=d;cases e;exact h σ B H (hE.refl B H) ok
theorem ac(i:PS X st (tG X.K X.H₀ g E))(j:PSs X sts (tG X.K X.H₀ h E)):PSs X (st::sts) (tG X.K X.H₀ (bo g h) E):=(db i j).imp λD σ H l=>by
 obtain⟨B,bg,δ,β,o,β',ok,e,q⟩:=l;unfold bo at e;split at e
 .rename_i δ1 β1 m
  refine⟨B,bg,δ,β,.nx δ1,β1,ok,m,λt u H' s d=>⟨u,bg,δ1,β1,o,β',d,e,gN.pre s ?_⟩⟩;exact q
 .rename_i r v
  refine⟨B,bg,δ,β,o,β',ok,e,?_⟩;cases o with
  |nx δ1=>exact RJ e (v δ1 β')
  |_=>exact q
theorem ai(d:PS X st (tG X.K X.H₀ g E)):PSs X [st] (tG X.K X.H₀ g E):=nJ d
theorem aJ{x:R3}{f:FD}(h:PS X (.Assign [.Name x pos'] e pos) (h9 (tV X.K f E) (fi i))):PS X (.Assign [.Name x pos'] e pos) (tG X.K X.H₀ (mS i f) E):=h.imp λD σ H m=>by
 obtain⟨B,bg,δ,β,o,β',ok,e,q⟩:=m;refine⟨eg B bg,vw δ,β,ok.fr,ok.view,?_⟩;unfold mS at e;split at e
 .rename_i d β1 j
  cases e;refine⟨.ok d,_,j,λv H' t hd=>?_⟩;obtain⟨g,l⟩:=ok.to rfl t;exact q _ B H' l (g.set hd)
 .rename_i C β1 j
  cases e;refine⟨.error C,_,j,λH' t=>?_⟩;obtain⟨g,l⟩:=ok.to rfl t;exact q _ B H' l g
 .cases e
theorem gU{f:FD}(h:PS X (.Expr e pos) (xX (tV X.K f E))):PS X (.Expr e pos) (tG X.K X.H₀ (li f) E):=h.imp λD σ H l=>by
 obtain⟨B,bg,δ,β,o,β',ok,e,q⟩:=l;refine⟨o0 B bg,hO δ,β,ok.frA,ok.viewA,?_⟩;unfold li at e;split at e
 .rename_i d β1 i
  cases e;refine⟨.ok d,_,i,λv H' t hd=>?_⟩;obtain⟨g,j⟩:=ok.to rfl t;exact q _ B H' j g
 .rename_i C β1 i
  cases e;refine⟨.error C,_,i,λH' t=>?_⟩;obtain⟨g,j⟩:=ok.to rfl t;exact q _ B H' j g
 .cases e
noncomputable def gE(B:Ow):Ow:=λa=>if B a=on 0\/B a=on 1 then B a else QY
theorem NG{B:Ow}{bg:Option (Q6×Q6)}{H:Hp}:Tr (o0 B bg) H (eg (gE B) bg) H:=⟨λa h _ z=>by
 have d:gE B a≠QY:=z;unfold gE at d;split at d
 .rename_i q;exact h q
 .exact d rfl,λ_ _ _ h=>h,rfl⟩
theorem FF{B:Ow}{H:Hp}:hE B H (gE B) H:=⟨λ_ _ h _=>h,λa h=>by unfold gE;rw[Rb h],λa o h n=>by unfold gE;rw[n];simp,λ_ h=>h⟩
theorem aM{f:FD}(h:PS X (.Return (on e) pos) (ME (tV X.K f E))):PS X (.Return (on e) pos) (tG X.K X.H₀ (yJ f) E):=h.imp λD σ H r=>by
 obtain⟨B,bg,δ,β,o,β',ok,e,q⟩:=r;refine⟨o0 B bg,hO δ,β,ok.frA,ok.viewA,?_⟩;unfold yJ at e;split at e
 .rename_i d β1 j
  cases e;refine⟨.ok d,_,j,λv H' t hd=>?_⟩;obtain⟨g,m⟩:=ok.to rfl t;refine q _ (gE B) H' (m.trans FF) ⟨λa ha=>g.fr.occ a ?_,λb l e=>?_,g.fr.bag⟩ (cp.tr NG _ _ hd)
  .have i:gE B a≠QY:=ha
   show B a≠QY;unfold gE at i;split at i
   .exact i
   .exact RJ rfl i
  .refine⟨?_,?_,(g.fr.bgA b l e).2.2⟩
   .show gE B b≠QY
    unfold gE;rw[Rb (.inr (ok.bgt b l e).1),(ok.bgt b l e).1];simp
   .show gE B l≠QY
    unfold gE;rw[Rb (.inr (ok.bgt b l e).2),(ok.bgt b l e).2];simp
 .rename_i C β1 j
  cases e;refine⟨.error C,_,j,λH' t=>?_⟩;obtain⟨g,m⟩:=ok.to rfl t;exact q _ B H' m g
 .cases e
theorem cM{c:Expr}{a b:List Sy}(l:PT X c (iv X.K t E))(ha:PSs X a (tG X.K X.H₀ g E))(m:PSs X b (tG X.K X.H₀ h E)):PS X (.If c a b pos) (tG X.K X.H₀ (T_ t g h) E):=(JU l ha m).imp λD σ H r=>by
 obtain⟨B,bg,δ,β,o,β',ok,e,q⟩:=r;refine⟨o0 B bg,hO δ,β,ok.frA,ok.viewA,?_⟩;unfold T_ at e;split at e
 .rename_i β1 i
  refine⟨.ok Q4,_,i,λv H' t hd=>?_⟩;subst hd;obtain⟨d,j⟩:=ok.to rfl t;rw[Rb rfl];exact⟨B,bg,δ,β1,o,β',d,e,gN.pre j q⟩
 .rename_i β1 i
  refine⟨.ok Q9,_,i,λv H' t hd=>?_⟩;subst hd;obtain⟨d,j⟩:=ok.to rfl t;rw[Q8 Ri];exact⟨B,bg,δ,β1,o,β',d,e,gN.pre j q⟩
 .rename_i C β1 i
  cases e;refine⟨.error C,_,i,λH' t=>?_⟩;obtain⟨d,j⟩:=ok.to rfl t;exact q _ B H' j d
 .cases e
abbrev Mm:=D->Ds->Option Ds
abbrev m7:=List D->Ds->Option Ds
def qQ(K:RB)(g:TG)(tg:Mm):Prop:=∀(H₀:Hp) (B:Ow) (bg:Option (Q6×Q6)) (H:Hp) (δ δ1:Ds) (β:Bg) (σ:St) (d:D) (v:V) (Q:St->Hp->Prop),fw K H₀ B bg H δ β σ->cp K (eg B bg) H d v->tg d δ=on δ1->(∀h,fw K H₀ B bg H δ1 β h->Q h H)->g v σ H Q
def qP(K:RB)(g:J_)(tg:m7):Prop:=∀(H₀:Hp) (B:Ow) (bg:Option (Q6×Q6)) (H:Hp) (δ δ1:Ds) (β:Bg) (σ:St) (ds:List D) (vs:List V) (Q:St->Hp->Prop),fw K H₀ B bg H δ β σ->bb K (eg B bg) H ds vs->tg ds δ=on δ1->(∀d,fw K H₀ B bg H δ1 β d->Q d H)->g vs σ H Q
noncomputable def sgN(i:Nat):Mm:=λd δ=>on (δ.set i (on (.sh d)))
noncomputable def MT:m7:=λds δ=>match ds with
 |[]=>on δ
 |_=>QY
noncomputable def MS(t:Mm)(u:m7):m7:=λds δ=>match ds with
 |[]=>QY
 |d::r=>(t d δ).bind λδ1=>u r δ1
noncomputable def sgT(t:m7):Mm:=λd δ=>match d with
 | .tup ds=>t ds δ
 |_=>QY
theorem aE:qQ K (fi i) (sgN i):=λH₀ B bg H δ δ1 β σ d v Q ok hd e k=>by
 cases e;exact k _ (ok.set hd)
theorem dQ:qP K L2.gNil MT:=λH₀ B bg H δ δ1 β σ ds vs Q ok hd e k=>by
 cases ds with
 |nil=>cases e;exact⟨hd,k _ ok⟩
 |cons _ _=>cases e
theorem bn(m:qQ K t tf)(o:qP K u uf):qP K (yN t u) (MS tf uf):=λH₀ B bg H δ δ1 β σ ds vs Q ok hd e k=>by
 cases ds with
 |nil=>cases e
 |cons d r=>
  obtain⟨x,l,rfl,v,w⟩:=hd;have h:(tf d δ).bind (λδ1=>uf r δ1)=on δ1:=e;cases q:tf d δ with
  |none=>rw[q]at h;cases h
  |some g=>
   rw[q]at h;exact⟨x,l,rfl,m H₀ B bg H δ g β σ d x _ ok v q λi j=>o H₀ B bg H g δ1 β i r l Q j w h k⟩
theorem c9:∀ds δ δ1,MT ds δ=on δ1->ds.length=0:=λds δ δ1 h=>by
 cases ds with
 |nil=>rfl
 |cons _ _=>cases h
theorem bj{n:Nat}(h:∀ds δ δ1,u ds δ=on δ1->ds.length=n):∀ds δ δ1,MS t u ds δ=on δ1->ds.length=n+1:=λds δ δ1 e=>by
 cases ds with
 |nil=>cases e
 |cons d r=>
  have g:(t d δ).bind (λδ1=>u r δ1)=on δ1:=e;cases q:t d δ with
  |none=>rw[q]at g;cases g
  |some i=>rw[q]at g;rw[Rl,h _ _ _ g]
theorem eU{n:Nat}(h:qP K t tf)(hn:∀ds δ δ1,tf ds δ=on δ1->ds.length=n):qQ K (FW K n t) (sgT tf):=λH₀ B bg H δ δ1 β σ d v Q ok hd e k=>by
 cases d<;>first
  |(obtain⟨a,xs,rfl,sq,dl⟩:=cp.sqT hd;exact⟨a,xs,rfl,sq,by rw[<-dl.length];exact hn _ _ _ e,h H₀ B bg H δ δ1 β σ _ xs Q ok dl e k⟩)
  |cases e
def yP(f:FD)(tg:Mm):G:=λδ β=>match f (vw δ) β with
 |some (.ok d,β1)=>(tg d δ).map λδ1=>(.nx δ1,β1)
 |some (.error C,β1)=>on (.ex C δ,β1)
 |none=>QY
theorem nE{f:FD}{tg:Mm}(l:qQ X.K g tg)(h:PS X (.Assign [tgt] e pos) (h9 (tV X.K f E) g)):PS X (.Assign [tgt] e pos) (tG X.K X.H₀ (yP f tg) E):=h.imp λD σ H w=>by
 obtain⟨B,bg,δ,β,o,β',ok,e,q⟩:=w;refine⟨eg B bg,vw δ,β,ok.fr,ok.view,?_⟩;unfold yP at e;split at e
 .rename_i d β1 j
  cases q1:tg d δ with
  |none=>rw[q1]at e;cases e
  |some δ1=>
   rw[q1]at e;cases e;refine⟨.ok d,_,j,λv H' t hd=>?_⟩;obtain⟨i,m⟩:=ok.to rfl t;exact l X.H₀ B bg H' δ δ1 _ σ d v _ i hd q1 λr u=>q r B H' m u
 .rename_i C β1 j
  cases e;refine⟨.error C,_,j,λH' t=>?_⟩;obtain⟨i,m⟩:=ok.to rfl t;exact q _ B H' m i
 .cases e
def yO(i:Nat)(op:D->D->Option D)(f:FD):G:=λδ β=>match(vw δ).getD i QY with
 |none=>QY
 |some c=>match f (vw δ) β with
  |some (.ok d,β1)=>(op c d).map λz=>(.nx (δ.set i (on (.sh z))),β1)
  |some (.error C,β1)=>on (.ex C δ,β1)
  |none=>QY
theorem gb{f:FD}(l:bf X.K ti op)(h:PS X st (MK i (tV X.K f E) ti)):PS X st (tG X.K X.H₀ (yO i op f) E):=h.imp λD σ H I=>by
 obtain⟨B,bg,δ,β,o,β',ok,e,q⟩:=I;unfold yO at e;split at e
 .cases e
 .rename_i c j
  have m:(vw δ)[i]?=on (on c):=by
   rw[QZ]at j;cases z:(vw δ)[i]? with
   |none=>rw[z]at j;cases j
   |some w=>rw[z]at j;simp at j;rw[j]
  obtain⟨v,J,L⟩:=ok.view.tell i c m;refine⟨v,J,eg B bg,vw δ,β,ok.fr,ok.view,?_⟩;split at e
  .rename_i d β1 r
   cases q1:op c d with
   |none=>rw[q1]at e;cases e
   |some z=>
    rw[q1]at e;cases e;refine⟨.ok d,_,r,λw H' t hd=>?_⟩;obtain⟨g,y⟩:=ok.to rfl t;refine l (eg B bg) H' β' _ c d z v w t.fr (cp.tr (t.tr ok.fr) _ _ L) hd q1 λu N O P=>?_;obtain⟨A,Q⟩:=g.to rfl O;exact q _ B N (y.trans Q) (A.set P)
  .rename_i C β1 r
   cases e;refine⟨.error C,_,r,λH' t=>?_⟩;obtain⟨g,y⟩:=ok.to rfl t;exact q _ B H' y g
  .cases e
theorem hE.tr{B d:Ow}{H H':Hp}{bg:Option (Q6×Q6)}(s:hE B H d H'):Tr (eg B bg) H (eg d bg) H':=
 ⟨λa h hs z=>by
  have hn:B a=QY:=by
   cases q:B a with
   |none=>rfl
   |some t=>exact RJ (show B a≠QY by rw[q];simp) h
  cases q:H a with
  |none=>exact hs q
  |some o=>exact z (s.nn a o q hn),λa o h e=>s.kp a o e (.inl (by
  cases q:B a with
  |none=>rfl
  |some t=>exact RJ (show B a≠QY by rw[q];simp) h)),rfl⟩
def bZ(t:Dn->M Bool)(g:G):Nat->G
 |0,_,_=>QY
 |n+1,δ,β=>match t (hO δ) β with
  |some (.ok Q4,β1)=>match g δ β1 with
   |some (.nx δ1,β2)=>bZ t g n δ1 β2
   |some (.ct δ1,β2)=>bZ t g n δ1 β2
   |some (.bk δ1,β2)=>on (.nx δ1,β2)
   |r=>r
  |some (.ok Q9,β1)=>on (.nx δ,β1)
  |some (.error C,β1)=>on (.ex C δ,β1)
  |none=>QY
theorem mR:∀{n:Nat} {δ:Ds} {β:Bg} {r:xr×Bg},bZ t g n δ β=on r->bZ t g (n+1) δ β=on r
 |0,_,_,_,h=>by cases h
 |n+1,δ,β,r,h=>by
  have e:∀m,bZ t g (m+1) δ β=match t (hO δ) β with
    |some (.ok Q4,β1)=>match g δ β1 with
     |some (.nx δ1,β2)=>bZ t g m δ1 β2
     |some (.ct δ1,β2)=>bZ t g m δ1 β2
     |some (.bk δ1,β2)=>on (.nx δ1,β2)
     |r=>r
    |some (.ok Q9,β1)=>on (.nx δ,β1)
    |some (.error C,β1)=>on (.ex C δ,β1)
    |none=>QY:=λm=>rfl
  rw[e]at h⊢;cases q:t (hO δ) β with
  |none=>rw[q]at h;cases h
  |some z=>
   obtain⟨b,β1⟩:=z;rw[q]at h;cases b with
   |error C=>exact h
   |ok b=>
    cases b with
    |false=>exact h
    |true=>
     dsimp only at h⊢
     cases q2:g δ β1 with
     |none=>rw[q2]at h;cases h
     |some y=>
      obtain⟨o,β2⟩:=y;rw[q2]at h;cases o with
      |nx δ1=>exact mR h
      |ct δ1=>exact mR h
      |bk δ1=>exact h
      |rt d=>exact h
      |rg d=>exact h
      |ex C δ1=>exact h
theorem sL{n m:Nat}{δ:Ds}{β:Bg}(h:bZ t g n δ β=on r)(l:n<=m):bZ t g m δ β=on r:=by
 induction m with
 |zero=>
  obtain rfl:n=0:=by omega
  exact h
 |succ m ih=>
  by_cases q:n=m+1
  .subst q;exact h
  .exact mR (ih (by omega))
end
open Classical in
def gWh(t:Dn->M Bool)(g:G):G:=λδ β=>if h:∃r n,bZ t g n δ β=on r then on h.choose else QY
theorem NY(h:bZ t g n δ β=on r):gWh t g δ β=on r:=by
 have a:∃r n,bZ t g n δ β=on r:=⟨r,n,h⟩;unfold gWh;rw[dif_pos a];obtain⟨m,hm⟩:=a.choose_spec;have c:=sL h (Nat.le_max_left n m);have b:=sL hm (Nat.le_max_right n m);rw[c]at b;rw[<-RO b]
theorem Md(h:gWh t g δ β=on r):∃n,bZ t g n δ β=on r:=by
 unfold gWh at h;split at h
 .rename_i a
  obtain⟨m,hm⟩:=a.choose_spec;cases h;exact⟨m,hm⟩
 .cases h
section
variable{X:Cx}{E:St->XK}{e:Expr}{st:Sy}{sts:List Sy}{pos:Vy}{K:RB}
theorem Lg(T:ZW (RN X.prog X.w) X.A X.env X.xe)(U:PT X c (iv X.K t E))(W:PSs X body (tG X.K X.H₀ g E)):PS X (.While c body [] pos) (tG X.K X.H₀ (gWh t g) E):=(DZ T U W).imp λD σ H Y=>by
 obtain⟨B,bg,δ,β,o,l,ok,e,q⟩:=Y;obtain⟨n,e⟩:=Md e;refine⟨λm u P=>∃j δ1 β1,hE B H j P/\fw X.K X.H₀ j bg P δ1 β1 u/\bZ t g m δ1 β1=on (o,l),⟨n,B,δ,β,hE.refl B H,ok,e⟩,?_⟩;rintro m u P ⟨j,δ1,β1,r,h,f⟩;refine⟨o0 j bg,hO δ1,β1,h.frA,h.viewA,?_⟩;cases m with
 |zero=>cases f
 |succ m=>
  unfold bZ at f;split at f
  .rename_i β2 y
   refine⟨.ok Q4,_,y,λv N tt hd=>?_⟩;subst hd;obtain⟨b,k⟩:=h.to rfl tt;rw[Rb rfl];refine⟨λF Q=>∃O a β3,hE B H O Q/\fw X.K X.H₀ O bg Q a β3 F/\bZ t g m a β3=on (o,l),λF Q ⟨O,a,β3,z⟩=>⟨m,WF m,O,a,β3,z⟩,?_⟩;split at f
   .rename_i a β3 I
    exact⟨j,bg,δ1,β2,.nx a,β3,b,I,λp J R L i=>⟨J,a,β3,r.trans (k.trans L),i,f⟩⟩
   .rename_i a β3 I
    exact⟨j,bg,δ1,β2,.ct a,β3,b,I,λp J R L i=>⟨J,a,β3,r.trans (k.trans L),i,f⟩⟩
   .rename_i a β3 I
    cases f;exact⟨j,bg,δ1,β2,.bk a,_,b,I,λp J R L i=>q p J R (r.trans (k.trans L)) i⟩
   .rename_i x Z h2 h3
    refine⟨j,bg,δ1,β2,o,l,b,f,?_⟩;have q2:=gN.pre (r.trans k) q;cases o with
    |nx a=>exact RJ f (Z _ _)
    |ct a=>exact RJ f (h2 _ _)
    |bk a=>exact RJ f (h3 _ _)
    |rt d=>exact q2
    |rg d=>exact q2
    |ex C a=>exact q2
  .rename_i β2 y
   cases f;refine⟨.ok Q9,_,y,λv N tt hd=>?_⟩;subst hd;obtain⟨b,k⟩:=h.to rfl tt;rw[Q8 Ri];exact q _ j N (r.trans k) b
  .rename_i C β2 y
   cases f;refine⟨.error C,_,y,λN tt=>?_⟩;obtain⟨b,k⟩:=h.to rfl tt;exact q _ j N (r.trans k) b
  .cases f
noncomputable def n_(tg:Mm)(g:G):List D->G
 |[],δ,β=>on (.nx δ,β)
 |d::ds,δ,β=>match tg d δ with
  |none=>QY
  |some δ1=>match g δ1 β with
   |some (.nx δ2,β2)=>n_ tg g ds δ2 β2
   |some (.ct δ2,β2)=>n_ tg g ds δ2 β2
   |some (.bk δ2,β2)=>on (.nx δ2,β2)
   |r=>r
def yL(it:FL)(tg:Mm)(g:G):G:=λδ β=>match it (vw δ) β with
 |some (.ok ds,β1)=>n_ tg g ds δ β1
 |some (.error C,β1)=>on (.ex C δ,β1)
 |none=>QY
theorem bS(l:qQ X.K tgg tg)(h:PS X (.For tgt iter body [] pos) (MJ (iV X.K it E) tgg (tG X.K X.H₀ g E))):PS X (.For tgt iter body [] pos) (tG X.K X.H₀ (yL it tg g) E):=h.imp λD σ H h_=>by
 obtain⟨B,bg,δ,β,o,A,ok,e,q⟩:=h_;refine⟨eg B bg,vw δ,β,ok.fr,ok.view,?_⟩;unfold yL at e;split at e
 .rename_i ds β1 W
  refine⟨.ok ds,_,W,λJ Y t hJ=>?_⟩;obtain⟨Z,s1⟩:=ok.to rfl t;refine⟨λi m p I=>m+i=ds.length/\∃n r β2,hE B Y n I/\fw X.K X.H₀ n bg I r β2 p/\n_ tg g (ds.drop i) r β2=on (o,A),⟨ds.length,by omega,B,δ,β1,hE.refl B Y,Z,e⟩,?_⟩;rintro i m p I ⟨hm,n,r,β2,L,c,b⟩;obtain⟨iy,is⟩:=hJ (eg n bg) I β2 L.tr c.fr i;cases R:ds[i]? with
  |none=>
   have T:ds.length<=i:=Wb.mp R;rw[S5 T]at b;cases b;exact .inl ⟨is (by omega),q p n I (s1.trans L) c⟩
  |some d=>
   have T:i<ds.length:=(Rj.mp R).1;obtain⟨go,yl⟩:=iy d R;have ed:ds.drop i=d::ds.drop (i+1):=by
    rw[R7 T];congr 1;exact RO ((Q2 T).symm.trans R)
   rw[ed]at b;unfold n_ at b;split at b
   .cases b
   .rename_i j e3
    refine .inr ⟨go,λN H9=>∃U u v,hE B Y U H9/\fw X.K X.H₀ U bg H9 u v N/\n_ tg g (ds.drop (i+1)) u v=on (o,A),λN H9 ⟨U,u,v,z1,z2,z3⟩=>⟨m-1,by omega,by omega,U,u,v,z1,z2,z3⟩,λx H3 hy=>?_⟩;obtain⟨sm,dx⟩:=yl x H3 hy;obtain⟨ok3,s3⟩:=c.to rfl (c.fr.same sm);refine l X.H₀ n bg H3 r j β2 p d x _ ok3 dx e3 λσ4 w=>?_;have y:=L.trans s3;split at b
    .rename_i a f O
     exact⟨n,bg,j,β2,.nx a,f,w,O,λF P H6 Q k=>⟨P,a,f,y.trans Q,k,b⟩⟩
    .rename_i a f O
     exact⟨n,bg,j,β2,.ct a,f,w,O,λF P H6 Q k=>⟨P,a,f,y.trans Q,k,b⟩⟩
    .rename_i a f O
     cases b;exact⟨n,bg,j,β2,.bk a,_,w,O,λF P H6 Q k=>q F P H6 (s1.trans (y.trans Q)) k⟩
    .rename_i x h1 h2 h3
     refine⟨n,bg,j,β2,o,A,w,b,?_⟩;have q2:=gN.pre (s1.trans y) q;cases o with
     |nx a=>exact RJ b (h1 _ _)
     |ct a=>exact RJ b (h2 _ _)
     |bk a=>exact RJ b (h3 _ _)
     |rt d=>exact q2
     |rg d=>exact q2
     |ex C a=>exact q2
 .rename_i C β1 W
  cases e;refine⟨.error C,_,W,λH' t=>?_⟩;obtain⟨c,L⟩:=ok.to rfl t;exact q _ B H' L c
 .cases e
theorem fw.newOwn{δ:Ds}{Q:St}(ok:fw K H₀ B bg H δ β Q)(g:H p=QY)(hd:bb K (eg B bg) H ds xs):
  fw K H₀ (λa=>if a=p then on (i+2)else B a) bg (upd H p (.lst xs)) (δ.set i (on (.own ds))) β (Q.set i (on (.ref p)))/\hE B H (λa=>if a=p then on (i+2)else B a) (upd H p (.lst xs)):=by
 have hB:B p=QY:=by
  cases q:B p with
  |none=>rfl
  |some t=>exact RJ g (ok.fr.occ p (by show B p≠QY;rw[q];simp))
 have m:hE B H (λa=>if a=p then on (i+2)else B a) (upd H p (.lst xs)):=by
  refine⟨λa o h _=>by rw[b_ (az h g)];exact h,λa h=>?_,λa o h n=>?_,?_⟩
  .have:a≠p:=λz=>by subst z;rw[hB]at h;rcases h with h|h<;>cases h
   simp only[Q8 this]
  .simp only[Q8 (az h g)];exact n
  .exact λa ha=>by
    by_cases z:a=p
    .subst z;rw[aq];simp
    .rw[b_ z];exact ha
 have tr:Tr (eg B bg) H (eg (λa=>if a=p then on (i+2)else B a) bg) (upd H p (.lst xs)):=m.tr;have I:∀b l,bg=on (b,l)->b≠p/\l≠p:=λb l e=>by
  obtain⟨b1,b2⟩:=ok.bgt b l e;exact⟨λz=>(by subst z;rw[hB]at b1;cases b1),λz=>(by subst z;rw[hB]at b2;cases b2)⟩
 refine⟨⟨⟨λa ha z=>?_,λb l e=>?_,λb l e=>?_⟩,λb l e=>?_,by rw[RV,RV,ok.len],λa ha=>m.al a (ok.cov a ha),λc k J=>(by
  have f:(if c=p then on (i+2)else B c)=on (k+2):=J;by_cases z:c=p
  .cases w:H₀ c with
   |none=>rfl
   |some o=>exact RJ (z▸g) (ok.cov c (by rw[w];simp))
  .rw[Q8 z]at f;exact ok.new c k f),λc k J=>(by
  have f:(if c=p then on (i+2)else B c)=on (k+2):=J;by_cases z:c=p
  .subst z;exact⟨xs,aq⟩
  .rw[Q8 z]at f;rw[b_ z];exact ok.lst c k f),λj s e=>?_⟩,m⟩
 .by_cases q:a=p
  .subst q;rw[aq]at z;cases z
  .rw[b_ q]at z
   have u:(if a=p then on (i+2)else B a)≠QY:=ha;rw[Q8 q]at u;exact ok.fr.occ a u z
 .obtain⟨y,A⟩:=I b l e
  obtain⟨b1,b2⟩:=ok.bgt b l e;refine⟨?_,?_,(ok.fr.bgA b l e).2.2⟩
  .show(if b=p then on (i+2)else B b)≠QY
   rw[Q8 y,b1];simp
  .show(if l=p then on (i+2)else B l)≠QY
   rw[Q8 A,b2];simp
 .obtain⟨y,A⟩:=I b l e
  rw[b_ y,b_ A];exact ok.fr.bag b l e
 .obtain⟨y,A⟩:=I b l e
  simp only[Q8 y,Q8 A];exact ok.bgt b l e
 .rw[R4]at e
  rw[R4];by_cases q:i=j
  .subst q
   rw[Rb rfl]at e⊢;split at e
   .rename_i R
    cases e;rw[Rb (by rw[<-ok.len];exact R)];exact⟨_,rfl,p,xs,rfl,Rb rfl,aq,bb.tr tr _ _ hd⟩
   .cases e
  .rw[Q8 q]at e⊢
   obtain⟨v,T,L⟩:=ok.tell j s e;refine⟨v,T,?_⟩;cases s with
   |sh d=>exact cp.tr tr _ _ L
   |own cs=>
    obtain⟨a,ys,N,O,C,P⟩:=L;have F:=az C g;exact⟨a,ys,N,by simp only[Q8 F];exact O,by rw[b_ F];exact C,bb.tr tr _ _ P⟩
   |grd a_=>
    obtain⟨a,rs,N,O,C,P,U⟩:=L;have F:=az C g;exact⟨a,rs,N,by simp only[Q8 F];exact O,by rw[b_ F];exact C,P,d4.tr tr U λr W _ p q=>⟨by simp only[Q8 (az q g)];exact p,by rw[b_ (az q g)];exact q⟩⟩
theorem fw.writeOwn{δ:Ds}(ok:fw K H₀ B bg H δ β σ)(hs:σ[i]?=on (on (.ref a)))(hB:B a=on (i+2))(ha:H a=on (.lst ys))(hd:bb K (eg B bg) H ds xs):
  fw K H₀ B bg (upd H a (.lst xs)) (δ.set i (on (.own ds))) β σ/\hE B H B (upd H a (.lst xs)):=by
 have g:hE B H B (upd H a (.lst xs)):=by
  refine⟨λc o h n=>?_,λ_ _=>rfl,λ_ _ _ n=>n,λc m=>?_⟩
  .rw[b_]
   .exact h
   .intro z;subst z;rw[hB]at n;rcases n with n|n<;>cases n
  .by_cases z:c=a
   .subst z;rw[aq];simp
   .rw[b_ z];exact m
 have tr:Tr (eg B bg) H (eg B bg) (upd H a (.lst xs)):=g.tr;refine⟨⟨⟨λc m z=>?_,ok.fr.bgA,λb l e=>?_⟩,ok.bgt,by rw[RV,ok.len],λa ha=>g.al a (ok.cov a ha),ok.new,λc k m=>(by
  by_cases z:c=a
  .subst z;exact⟨xs,aq⟩
  .rw[b_ z];exact ok.lst c k m),λj s e=>?_⟩,g⟩
 .by_cases q:c=a
  .subst q;rw[aq]at z;cases z
  .rw[b_ q]at z;exact ok.fr.occ c m z
 .obtain⟨b1,b2⟩:=ok.bgt b l e
  rw[b_ (λz=>by subst z;rw[hB]at b1;cases b1),b_ (λz=>by subst z;rw[hB]at b2;cases b2)];exact ok.fr.bag b l e
 .rw[R4]at e
  by_cases q:i=j
  .subst q
   rw[Rb rfl]at e;split at e
   .cases e
    exact⟨_,hs,a,xs,rfl,hB,aq,bb.tr tr _ _ hd⟩
   .cases e
  .rw[Q8 q]at e
   obtain⟨v,F,u⟩:=ok.tell j s e;refine⟨v,F,?_⟩;cases s with
   |sh d=>exact cp.tr tr _ _ u
   |own cs=>
    obtain⟨c,C,w,f,y,A⟩:=u;have t:c≠a:=λz=>by subst z;rw[hB]at f;cases f;exact q rfl
    exact⟨c,C,w,f,by rw[b_ t];exact y,bb.tr tr _ _ A⟩
   |grd a_=>
    obtain⟨c,rs,w,f,y,A,I⟩:=u;have t:∀c,B c=on (j+2)->c≠a:=λc f z=>by subst z;rw[hB]at f;cases f;exact q rfl
    exact⟨c,rs,w,f,by rw[b_ (t c f)];exact y,A,d4.tr tr I λr C _ p q=>⟨p,by rw[b_ (t r p)];exact q⟩⟩
def yK(i:Nat)(f:FL):G:=λδ β=>match f (vw δ) β with
 |some (.ok ds,β1)=>if ds.length<=RF then on (.nx (δ.set i (on (.own ds))),β1)else QY
 |some (.error C,β1)=>on (.ex C δ,β1)
 |none=>QY
theorem nB(h:PS X st (h9 (MH (i0 X.K f E)) (fi i))):PS X st (tG X.K X.H₀ (yK i f) E):=h.imp λD r H j=>by
 obtain⟨B,bg,δ,β,o,k,ok,e,q⟩:=j;refine⟨eg B bg,vw δ,β,ok.fr,ok.view,?_⟩;unfold yK at e;split at e
 .rename_i ds β1 b
  split at e
  .rename_i l
   cases e;refine⟨.ok ds,_,b,λvs g t hd=>⟨by rw[<-hd.length];exact l,λp m=>?_⟩⟩;obtain⟨a,c⟩:=ok.to rfl t;obtain⟨d,n⟩:=a.newOwn (i:=i) m hd;exact q _ _ _ (c.trans n) d
  .cases e
 .rename_i C β1 b
  cases e;refine⟨.error C,_,b,λg t=>?_⟩;obtain⟨a,c⟩:=ok.to rfl t;exact q _ B g c a
 .cases e
def yQ(i:Nat)(f:FL):G:=λδ β=>match δ.getD i QY with
 |some (.own cs)=>match f (vw δ) β with
  |some (.ok [d],β1)=>if cs.length<RF then on (.nx (δ.set i (on (.own (cs++[d])))),β1)else QY
  |some (.error C,β1)=>on (.ex C δ,β1)
  |_=>QY
 |_=>QY
theorem getD_some{α:Type}{δ:List (Option α)}{i:Nat}{s:α}(h:δ.getD i QY=on s):δ[i]?=on (on s):=by
 rw[QZ]at h;cases z:δ[i]? with
 |none=>rw[z]at h;cases h
 |some w=>rw[z]at h;simp at h;rw[h]
theorem nF(h:PS X st (xX (tBM X.K "list" wO (lY i) (i0 X.K f E)))):PS X st (tG X.K X.H₀ (yQ i f) E):=h.imp λD P H y=>by
 obtain⟨B,bg,δ,β,o,A,ok,e,q⟩:=y;unfold yQ at e;split at e
 .rename_i cs u
  obtain⟨v,l,a,ys,rfl,F,I,Q⟩:=ok.tell i _ (getD_some u);refine⟨_,l,.inl ⟨rfl,ys,e_.of I⟩,eg B bg,vw δ,β,ok.fr,ok.view,?_⟩;split at e
  .rename_i d β1 m
   split at e
   .rename_i J
    cases e;refine⟨.ok [d],_,m,λvs w t hd=>?_⟩;obtain⟨b,n⟩:=ok.to rfl t;obtain⟨v,rfl,L⟩:=bb.one hd;obtain⟨R,c,T,g,p,N,j,k⟩:=b.tell i _ (getD_some u);rw[l]at c;cases c;cases p;refine⟨a,g,v,rfl,rfl,j,by rw[<-k.length];exact J,?_⟩;obtain⟨r,O⟩:=b.writeOwn (ds:=cs++[d]) (xs:=g++[v]) l F j (bb.append k (bb.cons L bb.nil));exact q _ _ _ (n.trans O) r
   .cases e
  .rename_i C β1 m
   cases e;refine⟨.error C,_,m,λw t=>?_⟩;obtain⟨b,n⟩:=ok.to rfl t;exact q _ B w n b
  .cases e
 .cases e
noncomputable def fz(i:Nat)(δ:Ds):Ds:=match δ.getD i QY with
 |some (.own ds)=>δ.set i (on (.sh (.lst ds)))
 |some (.grd a_)=>δ.set i (on (.sh (.lst (a_.map D.lst))))
 |_=>δ
theorem fw.freeze(i:Nat)(ok:fw K H₀ B bg H δ β σ):∃U,fw K H₀ U bg H (fz i δ) β σ/\hE B H U H:=by
 unfold fz;split
 .rename_i ds L
  obtain⟨v,N,a,ys,O,t,P,Y⟩:=ok.tell i _ (getD_some L);have g:hE B H (λc=>if c=a then QY else B c) H:=by
   refine⟨λ_ _ h _=>h,λc hc=>?_,λc o h n=>?_,λ_ h=>h⟩
   .have:c≠a:=λz=>by subst z;rw[t]at hc;rcases hc with hc|hc<;>cases hc
    simp only[Q8 this]
   .by_cases z:c=a
    .simp only[Rb z]
    .simp only[Q8 z];exact n
  have tr:Tr (eg B bg) H (eg (λc=>if c=a then QY else B c) bg) H:=g.tr;have F:∀b l,bg=on (b,l)->b≠a/\l≠a:=λb l e=>by
   obtain⟨b1,b2⟩:=ok.bgt b l e;exact⟨λz=>(by subst z;rw[t]at b1;cases b1),λz=>(by subst z;rw[t]at b2;cases b2)⟩
  refine⟨λc=>if c=a then QY else B c,⟨⟨λc hc=>ok.fr.occ c ?_,λb l e=>?_,ok.fr.bag⟩,λb l e=>?_,by rw[RV,ok.len],ok.cov,λc k hc=>(by
   have f:(if c=a then QY else B c)=on (k+2):=hc;split at f
   .cases f
   .exact ok.new c k f),λc k hc=>(by
   have f:(if c=a then QY else B c)=on (k+2):=hc;split at f
   .cases f
   .exact ok.lst c k f),λj s e=>?_⟩,g⟩
  .have f:(if c=a then QY else B c)≠QY:=hc
   split at f
   .exact RJ rfl f
   .exact f
  .obtain⟨u,w⟩:=F b l e
   obtain⟨b1,b2⟩:=ok.bgt b l e;refine⟨?_,?_,(ok.fr.bgA b l e).2.2⟩
   .show(if b=a then QY else B b)≠QY
    rw[Q8 u,b1];simp
   .show(if l=a then QY else B l)≠QY
    rw[Q8 w,b2];simp
  .obtain⟨u,w⟩:=F b l e
   simp only[Q8 u,Q8 w];exact ok.bgt b l e
  .rw[R4]at e
   by_cases q:i=j
   .subst q
    rw[Rb rfl]at e;split at e
    .cases e
     refine⟨_,N,a,ys,O,⟨λz=>?_,.inl P⟩,bb.tr tr _ _ Y⟩;have I:(if a=a then QY else B a)≠QY:=z;rw[Rb rfl]at I;exact I rfl
    .cases e
   .rw[Q8 q]at e
    obtain⟨Q,R,y⟩:=ok.tell j s e;refine⟨Q,R,?_⟩;cases s with
    |sh d=>exact cp.tr tr _ _ y
    |own cs=>
     obtain⟨c,J,d1,d2,d3,C⟩:=y;have m:c≠a:=λz=>by subst z;rw[t]at d2;cases d2;exact q rfl
     exact⟨c,J,d1,by simp only[Q8 m];exact d2,d3,bb.tr tr _ _ C⟩
    |grd a_=>
     obtain⟨c,rs,d1,d2,d3,C,T⟩:=y;have m:∀c,B c=on (j+2)->c≠a:=λc d2 z=>by subst z;rw[t]at d2;cases d2;exact q rfl
     exact⟨c,rs,d1,by simp only[Q8 (m c d2)];exact d2,d3,C,d4.tr tr T λr J _ p q=>⟨by simp only[Q8 (m r p)];exact p,q⟩⟩
 .rename_i a_ L
  classical
  obtain⟨v,N,a,rs,O,t,P,nd,W⟩:=ok.tell i _ (getD_some L);have own:∀c,c=a\/c∈rs->B c=on (i+2):=λc hc=>by
   rcases hc with rfl|hc
   .exact t
   .exact(W.all c hc).1
  have g:hE B H (λc=>if c=a\/c∈rs then QY else B c) H:=by
   refine⟨λ_ _ h _=>h,λc hc=>?_,λc o h n=>?_,λ_ h=>h⟩
   .have:¬(c=a\/c∈rs):=λz=>by rw[own c z]at hc;rcases hc with hc|hc<;>cases hc
    simp only[Q8 this]
   .by_cases z:c=a\/c∈rs
    .simp only[Rb z]
    .simp only[Q8 z];exact n
  have tr:Tr (eg B bg) H (eg (λc=>if c=a\/c∈rs then QY else B c) bg) H:=g.tr;have F:∀b l,bg=on (b,l)->¬(b=a\/b∈rs)/\¬(l=a\/l∈rs):=λb l e=>by
   obtain⟨b1,b2⟩:=ok.bgt b l e;exact⟨λz=>(by rw[own b z]at b1;cases b1),λz=>(by rw[own l z]at b2;cases b2)⟩
  have free:∀c,c=a\/c∈rs->¬(eg (λc=>if c=a\/c∈rs then QY else B c) bg).A c:=λc hc z=>by
   have I:(if c=a\/c∈rs then QY else B c)≠QY:=z;rw[Rb hc]at I;exact I rfl
  refine⟨λc=>if c=a\/c∈rs then QY else B c,⟨⟨λc hc=>ok.fr.occ c ?_,λb l e=>?_,ok.fr.bag⟩,λb l e=>?_,by rw[RV,ok.len],ok.cov,λc k hc=>(by
   have f:(if c=a\/c∈rs then QY else B c)=on (k+2):=hc;split at f
   .cases f
   .exact ok.new c k f),λc k hc=>(by
   have f:(if c=a\/c∈rs then QY else B c)=on (k+2):=hc;split at f
   .cases f
   .exact ok.lst c k f),λj s e=>?_⟩,g⟩
  .have f:(if c=a\/c∈rs then QY else B c)≠QY:=hc
   split at f
   .exact RJ rfl f
   .exact f
  .obtain⟨u,w⟩:=F b l e
   obtain⟨b1,b2⟩:=ok.bgt b l e;refine⟨?_,?_,(ok.fr.bgA b l e).2.2⟩
   .show(if b=a\/b∈rs then QY else B b)≠QY
    rw[Q8 u,b1];simp
   .show(if l=a\/l∈rs then QY else B l)≠QY
    rw[Q8 w,b2];simp
  .obtain⟨u,w⟩:=F b l e
   simp only[Q8 u,Q8 w];exact ok.bgt b l e
  .rw[R4]at e
   by_cases q:i=j
   .subst q
    rw[Rb rfl]at e;split at e
    .cases e
     exact⟨_,N,a,_,O,⟨free a (.inl rfl),.inl P⟩,d4.den tr W λr Z _=>free r (.inr Z)⟩
    .cases e
   .rw[Q8 q]at e
    obtain⟨Q,R,y⟩:=ok.tell j s e;refine⟨Q,R,?_⟩;have m:∀c,B c=on (j+2)->¬(c=a\/c∈rs):=λc d2 z=>by rw[own c z]at d2;cases d2;exact q rfl
    cases s with
    |sh d=>exact cp.tr tr _ _ y
    |own cs=>
     obtain⟨c,J,d1,d2,d3,C⟩:=y;exact⟨c,J,d1,by simp only[Q8 (m c d2)];exact d2,d3,bb.tr tr _ _ C⟩
    |grd rows2=>
     obtain⟨c,qs,d1,d2,d3,C,T⟩:=y;exact⟨c,qs,d1,by simp only[Q8 (m c d2)];exact d2,d3,C,d4.tr tr T λr J _ p q=>⟨by simp only[Q8 (m r p)];exact p,q⟩⟩
 .exact⟨B,ok,hE.refl B H⟩
noncomputable def fzG(i:Nat)(g:G):G:=λδ β=>g (fz i δ) β
theorem MY(i:Nat)(h:PSs X sts (tG X.K X.H₀ g E)):PSs X sts (tG X.K X.H₀ (fzG i g) E):=h.imp λD f H c=>by
 obtain⟨B,bg,δ,β,o,a,ok,e,q⟩:=c;obtain⟨d,b,s⟩:=ok.freeze i;exact⟨d,bg,fz i δ,β,o,a,b,e,gN.pre s q⟩
noncomputable def vu(n:Nat)(ds:List D):Ds:=ds.map (λd=>on (Sl.sh d))++Rr (n-ds.length) QY
def jO(n:Nat)(g:G):List D->M D:=λds β=>match g (vu n ds) β with
 |some (.rt d,β')=>on (.ok d,β')
 |some (.nx _,β')=>on (.ok .non,β')
 |some (.ex C _,β')=>on (.error C,β')
 |_=>QY
theorem zG{F:Fx}{N:List R3}(fr:Fr F H β)(hd:bb K F H ds vs):∃B,fw K H B F.bg H (vu N.length ds) β (fJ N vs)/\(∀a,F.A a->B a=on 0\/B a=on 1)/\(∀a,B a=on 1->∃b l,F.bg=on (b,l)/\(a=b\/a=l))/\(∀a,B a≠QY->F.A a):=by
 classical
 refine⟨λa=>if F.A a then(if ∃b l,F.bg=on (b,l)/\(a=b\/a=l)then on 1 else on 0)else QY,⟨⟨λa ha=>fr.occ a ?_,λb l e=>?_,fr.bag⟩,λb l e=>?_,?_,λ_ h=>h,λc k m=>(by
  have f:(if F.A c then(if ∃b l,F.bg=on (b,l)/\(c=b\/c=l)then on 1 else on 0)else QY)=on (k+2):=m;split at f
  .split at f<;>cases f
  .cases f),λc k m=>(by
  have f:(if F.A c then(if ∃b l,F.bg=on (b,l)/\(c=b\/c=l)then on 1 else on 0)else QY)=on (k+2):=m;split at f
  .split at f<;>cases f
  .cases f),λi s e=>?_⟩,λa ha=>?_,λa ha=>?_,λa ha=>?_⟩
 .have g:(if F.A a then(if ∃b l,F.bg=on (b,l)/\(a=b\/a=l)then on 1 else on 0)else QY)≠(QY:Option Nat):=ha
  split at g
  .assumption
  .exact RJ rfl g
 .obtain⟨a1,a2,a3⟩:=fr.bgA b l e
  refine⟨?_,?_,a3⟩
  .show(if F.A b then(if ∃j l,F.bg=on (j,l)/\(b=j\/b=l)then on 1 else on 0)else QY)≠(QY:Option Nat)
   rw[Rb a1];split<;>simp
  .show(if F.A l then(if ∃j p,F.bg=on (j,p)/\(l=j\/l=p)then on 1 else on 0)else QY)≠(QY:Option Nat)
   rw[Rb a2];split<;>simp
 .obtain⟨a1,a2,a3⟩:=fr.bgA b l e
  exact⟨by rw[Rb a1,Rb ⟨b,l,e,.inl rfl⟩],by rw[Rb a2,Rb ⟨b,l,e,.inr rfl⟩]⟩
 .unfold vu fJ
  rw[Ro,Ro,QX,QX,Td,Td,hd.length]
 .unfold vu at e
  unfold fJ;rw[WZ,QX]at e;rw[WZ,QX,<-hd.length];by_cases n:i<ds.length
  .rw[Rb n,Q5]at e
   rw[Rb n,Q5];cases z:ds[i]? with
   |none=>rw[z]at e;cases e
   |some d=>
    rw[z]at e;cases e;obtain⟨v,r,t⟩:=hd.get z;refine⟨v,by rw[r];rfl,?_⟩;have o:Tr F H (eg (λa=>if F.A a then(if ∃b l,F.bg=on (b,l)/\(a=b\/a=l)then on 1 else on 0)else QY) F.bg) H:=by
     refine⟨λa ha _ u=>?_,λ_ _ _ h=>h,rfl⟩;have q:(if F.A a then(if ∃b l,F.bg=on (b,l)/\(a=b\/a=l)then on 1 else on 0)else QY)≠(QY:Option Nat):=u;rw[Q8 ha]at q;exact q rfl
    exact cp.tr o _ _ t
  .rw[Q8 n,Ts]at e
   split at e<;>cases e
 .simp only[Rb ha]
  split
  .exact .inr rfl
  .exact .inl rfl
 .simp only at ha
  split at ha
  .split at ha
   .assumption
   .cases ha
  .cases ha
 .simp only at ha
  split at ha
  .assumption
  .exact RJ rfl ha
variable{P:RT}{w:R8}{mg:R3->Option Ra}{base:SE}
theorem Mg{st:Sy}{N ps:List R3}(F:dq K x qual st f fd)(S:cb N ps (ae st))
  (y:∀(j:Ra) (A:SB) (outer:List Yi) (s:Rg) (H:Hp) (E:XK),ef k (A.deeper (VL qual (ae st) s.heap.objs.size f j))->
   PSs (gn (hY P w) P w K mg base N qual (ae st) f j A outer s H E) (c8 st) (tG K H g (λ_=>E))):fh P w K mg base (hY P w) (k+1) f fd ps (z_ K ps.length (jO N.length g)):=by
 refine F.okE S (λvs H Q E h=>h.1) λj A outer s H vs Q E Y h=>?_;obtain⟨hl,p,ds,β,fr,hd,r,i,e,h⟩:=h;refine⟨_,y j A outer s H E Y,?_⟩;obtain⟨B,ok,T,Z,hn⟩:=zG (N:=N) fr hd;have I:∀{u:Ow} {c:Hp},hE B H u c->Fr (eg u p.bg) c i->To p H c i/\Tr (eg u p.bg) c p c:=λ{u c} s m=>by
  have hs:∀a,p.A a->u a≠QY:=λa ha=>by
   rw[s.tg a (T a ha)];rcases T a ha with z|z<;>rw[z]<;>simp
  refine⟨⟨λa o ha n=>s.kp a o ha ?_,λa ha=>m.occ a (hs a ha),λb l e=>fr.bgA b l e,m.bag⟩,λa ha _ z=>ha (hs a z),λ_ _ _ h=>h,rfl⟩;cases q:B a with
  |none=>exact .inl rfl
  |some t=>
   have:=T a (hn a (by rw[q];simp));rcases this with z|z
   .rw[q]at z;exact .inr z
   .obtain⟨b,l,e,w⟩:=Z a z
    obtain⟨n1,n2⟩:=n b l e;rcases w with w|w
    .exact RJ w n1
    .exact RJ w n2
 unfold jO at e;split at e
 .rename_i d β1 O
  cases e;refine⟨B,p.bg,vu N.length ds,β,.rt d,i,ok,O,λv u c s m hv=>?_⟩;obtain⟨R,U⟩:=I s m;exact h v c R (cp.tr U _ _ hv)
 .rename_i J β1 O
  cases e;refine⟨B,p.bg,vu N.length ds,β,.nx J,i,ok,O,λW u c s L=>?_⟩;obtain⟨R,U⟩:=I s L.fr;exact h _ c R rfl
 .rename_i C J β1 O
  cases e;refine⟨B,p.bg,vu N.length ds,β,.ex C J,i,ok,O,λW u c s L=>?_⟩;obtain⟨R,U⟩:=I s L.fr;exact h c R
 .cases e
variable{prog:RT}{A:SB}
theorem QS(l:A.handled=QY)(it t:Q6)(ne:t≠it)(b:Array Ra):Yt prog w A it [it,t] b.size (λi v=>b[i]?=on v) (λi h=>h.IsTupleIter it t i/\h.IsTuple t b) where
 live:=λ_ _ st=>let ⟨o,e,_⟩:=st.1;⟨o,e⟩
 frame:=λ_ _ _ st k=>⟨st.1.at λo e=>k it (by simp) o e,by
  obtain⟨o,e,r⟩:=st.2;exact⟨o,k t (by simp) o e,r⟩⟩
 item:=λi s Q E p st q=>by
  obtain⟨o,d,co,c⟩:=id st.1;obtain⟨n,f,_,nt,g⟩:=st.2;have j:b[i]?=on b[i]:=by simp[p]
  unfold Tj;refine My (wpAny_callSpecial?_slot (name:=TU "__next__") st.1.typeIs UP (Sc UP st.1.typeIs Yu ?_ (Yn _)));show Rt _ _ (Z5 (.ref it) 0>>=_) _ _ _;refine My (SS d c (x:= .ref t) rfl ?_);show Rt _ _ (if(RI t==Sv)=Q4 then _ else _) _ _ _;rw[Q8 (show ¬((RI t==Sv)=Q4)from Ri)];show Rt _ _ (Z5 (.ref it) 1>>=_) _ _ _;refine My (SS d c (x:= .int i 0) rfl ?_);show Rt _ _ (seqItems? (.ref t)>>=_) _ _ _;refine My (Tp f g ?_);simp only[SQ,j];refine My (Vw d c (by simp) (Q0 ⟨b[i],rfl,Q0 (q _ _ s.toks j ⟨?_,?_⟩ (SZ ..))⟩))
  .exact⟨_,UE _ d (WV (TN c _)),(XA ..).trans co,by rw[TN c];simp[Vv]⟩
  .exact⟨n,(SZ ..).extBut _ _ ne f,by assumption,nt,g⟩
 done:=λs Q E st u=>by
  obtain⟨o,d,co,c⟩:=id st.1;obtain⟨n,f,_,nt,g⟩:=st.2;have j:b[b.size]?=QY:=by simp
  unfold Tj;refine My (wpAny_callSpecial?_slot (name:=TU "__next__") st.1.typeIs UP (Sc UP st.1.typeIs Yu ?_ (Yn _)));show Rt _ _ (Z5 (.ref it) 0>>=_) _ _ _;refine My (SS d c (x:= .ref t) rfl ?_);show Rt _ _ (if(RI t==Sv)=Q4 then _ else _) _ _ _;rw[Q8 (show ¬((RI t==Sv)=Q4)from Ri)];show Rt _ _ (Z5 (.ref it) 1>>=_) _ _ _;refine My (SS d c (x:= .int b.size 0) rfl ?_);show Rt _ _ (seqItems? (.ref t)>>=_) _ _ _;refine My (Tp f g ?_);simp only[SQ,j];refine My (UZ (My (Vw d c (by simp) ?_)));show Rt _ _ (newExc (.type "StopIteration") []>>=_) _ _ _;refine My ?_;simp only[newExc,newTuple];refine My (SK ?_ (by size_fits));refine My (m:=Vt _ _) (UY (a:=Sv) (by first|rfl|(simp only[Vt];rfl)) ?_);refine SK ?_ (by size_fits)
  simp only[raiseNew];refine My (ZM ?_)
  first|rw[show A.in1.handled=QY from l]|rw[l];skip
  refine My (Q0 (wpAny_throw ?_));exact u _ _ (((SZ ..).extBut.push _).push _) ⟨_,Rw _ rfl,rfl⟩
structure Ap (z TI TO i1 i2:Q6) (f1 f2:List Q6):Prop where
 a1:TI≠z
 a2:TO≠z
 a3:i1≠z
 a4:i2≠z
 a5:TI≠TO
 a6:TI≠i1
 a7:TI≠i2
 a8:TO≠i1
 a9:TO≠i2
 b1:i1≠i2
 c1:z∉f1
 c2:TO∉f1
 c3:i2∉f1
 d1:z∉f2
 d2:TO∉f2
 d3:i1∉f2
 m1:i1∈f1
 m2:i2∈f2
end
section
variable{prog:RT}{w:R8}{A:SB}{E:Ra->Rg->Prop}{s:Rg}
theorem cq{it:Q6}{f:List Q6}{h h':SE}(a:RQ it h h')(n:it∉f):∀b∈f,∀o,h.get? b=on o->h'.get? b=on o:=λb c o e=>a.extBut b o (λq=>n (q▸c)) e
theorem zf{z TI TO r t:Q6}{f1 f2:List Q6}{u B k:Nat}{P1 P2:Nat->Ra->Prop}{W X:Nat->SE->Prop}{a b:Ra}{Q:Ra->Rg->Prop}(L:Yt prog w A r f1 u P1 W)(N:Yt prog w A t f2 B P2 X)(d:Ap z TI TO r t f1 f2)
  (P:WG s.heap z TI TO .none) (eI:Uw s.heap TI (.ref r) (.ref t)) (eO:Uw s.heap TO a b) (s1:W k s.heap) (s2:X k s.heap) (k1:k<u) (k2:k<B)
  (hQ:∀h' tk x y,P1 k x->P2 k y->WG h' z TI TO (Vv s.heap.objs.size)->Uw h' TO x y->W (k+1) h'->X (k+1) h'->Uw h' s.heap.objs.size x y->h'.objs.size=s.heap.objs.size+1->(∀c o,c≠z->c≠TO->c≠r->c≠t->s.heap.get? c=on o->h'.get? c=on o)->Q (.ref s.heap.objs.size) {s with heap:=h',toks:=tk}):
  Rt (RN prog w) A (Builtin.«zip.__next__» ⟨[.ref z],[]⟩) (λZ s'=>∃v,Z= .done (.ret v)/\Q v s') E s:=by
 obtain⟨hp,gg,dd,tk0,os⟩:=s;show Rt _ _ (Z5 (.ref z) 2>>=_) _ _ _;refine My (SS P rfl (x:= .bool Q9) rfl ?_);show Rt _ _ (Z5 (.ref z) 3>>=_) _ _ _;refine My (SS P rfl (x:= .ref TI) rfl ?_);refine My (Tp eI rfl ?_);show Rt _ _ (Tz (.ref z)>>=_) _ _ _;refine My ?_;unfold Tz;refine My (SS P rfl (x:= .none) rfl (Q0 ?_));simp only[SA];refine My (UZ ?_);refine My (SS P rfl (x:= .ref TO) rfl ?_);refine My (SU P (by simp) λg1 C g=>?_)
 replace C:WG g1 z TI TO .ellipsis:=C
 replace g:RQ z hp g1:=g
 refine My ?_;simp only[List.zipIdx_cons,List.zipIdx_nil,UB,UJ];refine My (My (XG ?_));show Rt _ _ (Tj (.ref r)>>=_) _ _ _;refine My (L.item k _ _ _ k1 (L.frame _ _ _ s1 (cq g d.c1)) λx g2 tk2 px st2 h=>Q0 ?_)
 replace h:RQ r g1 g2:=h
 have R:Uw g2 TO a b:=h.extBut _ _ d.a8 (g.extBut _ _ d.a2 eO);refine My (Tp R rfl ?_);refine My (Xp R λg3 F i=>?_)
 replace F:Uw g3 TO x b:=F
 replace i:RQ TO g2 g3:=i
 refine My (YB (Q0 ?_));refine My (My (XG ?_));show Rt _ _ (Tj (.ref t)>>=_) _ _ _;refine My (N.item k _ _ _ k2 (N.frame _ _ _ (N.frame _ _ _ (N.frame _ _ _ s2 (cq g d.d1)) (cq h d.d3)) (cq i d.d2)) λy g4 tk4 py st4 j=>Q0 ?_)
 replace j:RQ t g3 g4:=j
 have T:Uw g4 TO x b:=j.extBut _ _ d.a9 F;refine My (Tp T rfl ?_);refine My (Xp T λf m l=>?_)
 replace m:Uw f TO x y:=m
 replace l:RQ TO g4 f:=l
 refine My (YB (Q0 (Q0 ?_)));refine My (Tp m rfl ?_);refine My (Zi ?_);have zs:f.objs.size=hp.objs.size:=by rw[l.1,j.1,i.1,h.1,g.1]
 have U:WG f z TI TO .ellipsis:=l.extBut _ _ d.a2.symm (j.extBut _ _ d.a4.symm (i.extBut _ _ d.a2.symm (h.extBut _ _ d.a3.symm C)));have kp5:∀c o,c≠z->c≠TO->c≠r->c≠t->hp.get? c=on o->f.get? c=on o:=λc o u B n3 n4 e=>l.extBut _ _ B (j.extBut _ _ n4 (i.extBut _ _ B (h.extBut _ _ n3 (g.extBut _ _ u e))));have st1:W (k+1) f:=L.frame _ _ _ (L.frame _ _ _ (L.frame _ _ _ st2 (cq i d.c2)) (cq j d.c3)) (cq l d.c2);have st5:X (k+1) f:=N.frame _ _ _ st4 (cq l d.d2);have zl:z<f.objs.size:=RM U;show Rt _ _ (VX (.ref z) (.ref f.objs.size)>>=_) _ _ _;refine My ?_;unfold VX;have ez6:WG (f.push {cls:= .type "tuple",data:= .seq #[x,y]}) z TI TO .ellipsis:=Q3 _ U;refine My (SU ez6 (by simp) λg7 H I=>?_)
 replace H:WG g7 z TI TO (Vv f.objs.size):=H
 refine SU H (by simp) λO p J=>?_
 replace p:WG O z TI TO (Vv f.objs.size):=p
 have Y:∀c o,c≠z->f.get? c=on o->O.get? c=on o:=λc o n e=>J.extBut _ _ n (I.extBut _ _ n (Q3 _ e));have eT:Uw O f.objs.size x y:=J.extBut _ _ (Uy zl) (I.extBut _ _ (Uy zl) (Rw _ rfl));have z8:O.objs.size=f.objs.size+1:=by rw[J.1,I.1,S3]
 rw[zs]at p eT z8;refine Q0 ⟨_,rfl,?_⟩;show Q (.ref f.objs.size) ⟨O,gg,dd,_,os⟩;rw[zs];exact hQ O _ x y px py p (Y _ _ d.a2 m) (L.frame _ _ _ st1 λb hb o e=>Y b o (λq=>d.c1 (q▸hb)) e) (N.frame _ _ _ st5 λb hb o e=>Y b o (λq=>d.d1 (q▸hb)) e) eT z8 λc o u B n3 n4 e=>Y c o u (kp5 c o u B n3 n4 e)
theorem CZ{z TI TO n r:Q6}{f1 f2:List Q6}(H:Yt prog w A n f1 m P1 S1)(I:Yt prog w A r f2 T P2 S2)(i:Ap z TI TO n r f1 f2)
  (u:WG s.heap z TI TO .none) (Y:Uw s.heap TI (.ref n) (.ref r)) (Z:Uw s.heap TO a b) (U:S1 k s.heap) (s2:S2 k s.heap) (N:k=m\/(k<m/\k=T))
  (W:∀h' e tk,(∀c o,c≠z->c≠TO->c≠n->c≠r->s.heap.get? c=on o->h'.get? c=on o)->(∃o,h'.get? e=on o/\o.cls= .type "StopIteration")->E (.ref e) {s with heap:=h',toks:=tk}):
  Rt (RN prog w) A (Builtin.«zip.__next__» ⟨[.ref z],[]⟩) Q E s:=by
 obtain⟨hp,gg,dd,tk0,os⟩:=s;show Rt _ _ (Z5 (.ref z) 2>>=_) _ _ _;refine My (SS u rfl (x:= .bool Q9) rfl ?_);show Rt _ _ (Z5 (.ref z) 3>>=_) _ _ _;refine My (SS u rfl (x:= .ref TI) rfl ?_);refine My (Tp Y rfl ?_);show Rt _ _ (Tz (.ref z)>>=_) _ _ _;refine My ?_;unfold Tz;refine My (SS u rfl (x:= .none) rfl (Q0 ?_));simp only[SA];refine My (UZ ?_);refine My (SS u rfl (x:= .ref TO) rfl ?_);refine My (SU u (by simp) λJ j f=>?_)
 replace j:WG J z TI TO .ellipsis:=j
 replace f:RQ z hp J:=f
 refine My ?_;simp only[List.zipIdx_cons,List.zipIdx_nil,UB,UJ];refine My (My (XG ?_));show Rt _ _ (Tj (.ref n)>>=_) _ _ _;rcases N with rfl|⟨N,rfl⟩
 .refine My (H.done _ _ _ (H.frame _ _ _ U (cq f i.c1)) λt e d O=>?_)
  replace d:XI n J t:=d
  obtain⟨P,h,v⟩:=O;have y:WG t z TI TO .ellipsis:=d _ _ i.a3.symm j;have p:e≠z:=λq=>by subst q;rw[y]at h;cases h;simp at v
  exact SU y (by simp) λL _ g=>W L e _ (λc o m _ R _ q=>g.extBut _ _ m (d _ _ R (f.extBut _ _ m q))) ⟨P,g.extBut _ _ p h,v⟩
 .refine My (H.item k _ _ _ N (H.frame _ _ _ U (cq f i.c1)) λx t tk2 px st2 d=>Q0 ?_)
  replace d:RQ n J t:=d
  have B:Uw t TO a b:=d.extBut _ _ i.a8 (f.extBut _ _ i.a2 Z);refine My (Tp B rfl ?_);refine My (Xp B λL eO3 g=>?_)
  replace g:RQ TO t L:=g
  refine My (YB (Q0 ?_));refine My (My (XG ?_));show Rt _ _ (Tj (.ref r)>>=_) _ _ _;refine My (I.done _ _ _ (I.frame _ _ _ (I.frame _ _ _ (I.frame _ _ _ s2 (cq f i.d1)) (cq d i.d3)) (cq g i.d2)) λX e l O=>?_)
  replace l:XI r L X:=l
  obtain⟨P,h,v⟩:=O;have C:WG X z TI TO .ellipsis:=l _ _ i.a4.symm (g.extBut _ _ i.a2.symm (d.extBut _ _ i.a3.symm j));have p:e≠z:=λq=>by subst q;rw[C]at h;cases h;simp at v
  exact SU C (by simp) λg5 _ F=>W g5 e _ (λc o m T R n4 q=>F.extBut _ _ m (l _ _ n4 (g.extBut _ _ T (d.extBut _ _ R (f.extBut _ _ m q))))) ⟨P,F.extBut _ _ p h,v⟩
theorem ze{z TI TO e f:Q6}{f1 f2:List Q6}(i:∀d:SB,d.handled=A.handled->Yt prog w d e f1 n1 P1 S1)(j:∀d:SB,d.handled=A.handled->Yt prog w d f f2 n2 P2 S2)(l:Ap z TI TO e f f1 f2)
  (h:WG s.heap z TI TO .none) (m:Uw s.heap TI (.ref e) (.ref f)) (n:Uw s.heap TO a b) (p:S1 k s.heap) (q:S2 k s.heap) (r:k<n1) (t:k<n2)
  (u:∀h' g x y,P1 k x->P2 k y->WG h' z TI TO (Vv s.heap.objs.size)->Uw h' TO x y->S1 (k+1) h'->S2 (k+1) h'->Uw h' s.heap.objs.size x y->h'.objs.size=s.heap.objs.size+1->(∀c o,c≠z->c≠TO->c≠e->c≠f->s.heap.get? c=on o->h'.get? c=on o)->Q (on (.ref s.heap.objs.size)) {s with heap:=h',toks:=g}):
  Rt (RN prog w) A (Vu (.ref z)) Q E s:=by
 have ty:s.TypeIs (.ref z) "zip":=⟨_,h,rfl⟩;unfold Vu;exact My (VT (wpAny_callSpecial?_slot (name:=TU "__next__") ty WY (Sc WY ty F.entry_zip_next (zf (i _ rfl) (j _ rfl) l h m n p q r t λh' g x y a1 a2 a3 a4 a5 a6 a7 a8 a9=>Q0 (u h' g x y a1 a2 a3 a4 a5 a6 a7 a8 a9)) (F.args_zip_next_1 _))))
theorem CY{z TI TO f g:Q6}{f1 f2:List Q6}(j:∀d:SB,d.handled=A.handled->Yt prog w d f f1 n1 P1 S1)(l:∀d:SB,d.handled=A.handled->Yt prog w d g f2 n2 P2 S2)(m:Ap z TI TO f g f1 f2)
  (h:WG s.heap z TI TO .none) (n:Uw s.heap TI (.ref f) (.ref g)) (p:Uw s.heap TO a b) (q:S1 k s.heap) (r:S2 k s.heap) (t:k=n1\/(k<n1/\k=n2))
  (u:∀h' i,(∀c o,c≠z->c≠TO->c≠f->c≠g->s.heap.get? c=on o->h'.get? c=on o)->Q QY {s with heap:=h',toks:=i}):Rt (RN prog w) A (Vu (.ref z)) Q E s:=by
 have ty:s.TypeIs (.ref z) "zip":=⟨_,h,rfl⟩;unfold Vu;refine My (VT (wpAny_callSpecial?_slot (name:=TU "__next__") ty WY (Sc WY ty F.entry_zip_next (CZ (j _ rfl) (l _ rfl) m h n p q r t λh' e i v y=>?_) (F.args_zip_next_1 _))));obtain⟨o,B,C⟩:=y;refine My (T7 (T:="StopIteration") (b:=Q4) ⟨o,B,C⟩ Zd ?_);exact Q0 (u _ _ v)
def w_(b:Bool)(h:SE)(a:Q6)(its:Array Ra):Prop:=if b=Q4 then h.IsList a its else h.IsTuple a its
noncomputable def Ky(b:Bool):String:=if b=Q4 then "list_iterator"else "tuple_iterator"
noncomputable abbrev qv(b:Bool)(a:Q6):RA:={cls:= .type (Ky b),data:= .fields #[.ref a,.int 0 0]}
def gq(b:Bool)(h:SE)(it a:Q6)(k:Nat):Prop:=if b=Q4 then h.IsListIter it a k else h.IsTupleIter it a k
theorem w_.keep{b:Bool}{h h':SE}(x:w_ b h a its)(k:∀o,h.get? a=on o->h'.get? a=on o):w_ b h' a its:=by
 unfold w_ at x⊢;split at x
 .rename_i q;rw[Rb q];exact x.at λo e=>k o e
 .rename_i q;rw[Q8 q]
  obtain⟨o,e,r⟩:=x;exact⟨o,k o e,r⟩
theorem qc{b:Bool}(x:w_ b s.heap a its)(h:Q (.ref s.heap.objs.size) {s with heap:=s.heap.push (qv b a)}):Rt (RN prog w) A (Xn (.ref a)) Q E s:=by
 cases b with
 |true=>exact WK (show s.heap.IsList a its from x) h
 |false=>exact XR (show s.heap.IsTuple a its from x) h
theorem ud(b:Bool)(c:A.handled=QY)(it a:Q6)(ne:a≠it)(its:Array Ra):Yt prog w A it [it,a] its.size (λi v=>its[i]?=on v) (λi h=>gq b h it a i/\w_ b h a its):=by
 cases b with
 |true=>exact Zv c it a ne its
 |false=>exact QS c it a ne its
abbrev zH1(b1:Bool)(h:SE)(l1:Q6):SE:=h.push (qv b1 l1)
abbrev zH2(b1 b2:Bool)(h:SE)(l1 a:Q6):SE:=(zH1 b1 h l1).push (qv b2 a)
abbrev zH3(b1 b2:Bool)(h:SE)(l1 a:Q6):SE:=(zH2 b1 b2 h l1 a).push {cls:= .type "tuple",data:= .seq #[.ref h.objs.size,.ref (zH1 b1 h l1).objs.size]}
abbrev zH4(b1 b2:Bool)(h:SE)(l1 a:Q6):SE:=(zH3 b1 b2 h l1 a).push {cls:= .type "tuple",data:= .seq #[.none,.none]}
abbrev O_(b1 b2:Bool)(h:SE)(l1 a:Q6):SE:=(zH4 b1 b2 h l1 a).push {cls:= .type "zip",data:= .fields #[.none,.bool Q9,.bool Q9,.ref (zH2 b1 b2 h l1 a).objs.size,.ref (zH3 b1 b2 h l1 a).objs.size]}
theorem yq(b1 b2:Bool)(l1 a:Q6)(xs ys:Array Ra):
  Meets (Builtin.«zip.__new__» ⟨[.type "zip",.ref l1,.ref a],[]⟩) (λ_ R s=>w_ b1 s.heap l1 xs/\w_ b2 s.heap a ys/\R (.ok (.ret (.ref (zH4 b1 b2 s.heap l1 a).objs.size))) {s with heap:=O_ b1 b2 s.heap l1 a}):=
 .of_wp λprog w A R s h=>by
  obtain⟨b,g,d,c,os⟩:=s;obtain⟨i,j,q⟩:=h;have f:=sub_zip;have k:w_ b1 (Shared.heap ⟨b,g,d,c,os⟩) l1 xs:=i;have l:w_ b2 (Shared.heap ⟨b.push (qv b1 l1),g,d,c,os⟩) a ys:=j.keep λo e=>Q3 _ e
  wp_walk using qc k,qc l
  exact⟨_,rfl,q⟩
theorem CD{b1 b2:Bool}(q:w_ b1 s.heap l1 xs)(r:w_ b2 s.heap l2 ys)
  (h:∀h',WG h' (s.heap.objs.size+4) (s.heap.objs.size+2) (s.heap.objs.size+3) .none->Uw h' (s.heap.objs.size+2) (.ref s.heap.objs.size) (.ref (s.heap.objs.size+1))->Uw h' (s.heap.objs.size+3) .none .none->gq b1 h' s.heap.objs.size l1 0->gq b2 h' (s.heap.objs.size+1) l2 0->h'.objs.size=s.heap.objs.size+5->(∀c o,s.heap.get? c=on o->h'.get? c=on o)->Q (.ref (s.heap.objs.size+4)) {s with heap:=h'}):
  Rt (RN prog w) A (XN (.type "zip") [.ref l1,.ref l2]) Q E s:=by
 refine callType_new F.called_zip (by decide) (F.typeCall_zip_2 _ _) (F.newCall_zip_2 _ _) (λobj=>F.args_object_init_3 obj _ _) F.entry_zip_new (yq b1 b2 l1 l2 xs ys) ⟨q,r,?_⟩;have f:(zH1 b1 s.heap l1).objs.size=s.heap.objs.size+1:=S3 ..;have g:(zH2 b1 b2 s.heap l1 l2).objs.size=s.heap.objs.size+2:=by rw[S3,f]
 have i:(zH3 b1 b2 s.heap l1 l2).objs.size=s.heap.objs.size+3:=by rw[S3,g]
 have j:(zH4 b1 b2 s.heap l1 l2).objs.size=s.heap.objs.size+4:=by rw[S3,i]
 have t:(O_ b1 b2 s.heap l1 l2).objs.size=s.heap.objs.size+5:=by rw[S3,j]
 have k:(O_ b1 b2 s.heap l1 l2).get? (zH4 b1 b2 s.heap l1 l2).objs.size=on _:=Rw _ rfl;have l:(O_ b1 b2 s.heap l1 l2).get? (zH3 b1 b2 s.heap l1 l2).objs.size=on _:=Q3 _ (Rw _ rfl);have m:(O_ b1 b2 s.heap l1 l2).get? (zH2 b1 b2 s.heap l1 l2).objs.size=on _:=Q3 _ (Q3 _ (Rw _ rfl));have n:(O_ b1 b2 s.heap l1 l2).get? (zH1 b1 s.heap l1).objs.size=on _:=Q3 _ (Q3 _ (Q3 _ (Rw _ rfl)));have u:(O_ b1 b2 s.heap l1 l2).get? s.heap.objs.size=on _:=Q3 _ (Q3 _ (Q3 _ (Q3 _ (Rw _ rfl))));show _/\_;rw[g,i,j]at k;rw[f,g]at m;rw[i]at l;rw[f]at n;rw[j];have d:∀(b:Bool) (h':SE) (p a:Q6),h'.get? p=on (qv b a)->gq b h' p a 0:=λb h' p a e=>by
  cases b with
  |true=>exact⟨_,e,rfl,rfl⟩
  |false=>exact⟨_,e,rfl,rfl⟩
 exact⟨⟨_,k,rfl⟩,h _ k m l (d _ _ _ _ u) (d _ _ _ _ n) t λc o x=>Q3 _ (Q3 _ (Q3 _ (Q3 _ (Q3 _ x))))⟩
def up(b:Bool)(K:RB)(H:Hp)(a:Q6)(xs:List V):Prop:=if b=Q4 then e_ K H a xs else il K H a xs
noncomputable def Itz(b1 b2:Bool)(K:RB)(l1 a:Q6):It:=
 ⟨λi H=>∃xs ys x y,up b1 K H l1 xs/\up b2 K H a ys/\xs[i]?=on x/\ys[i]?=on y,
  λi H v b=>∃p x y,H p=QY/\v= .ref p/\b=upd H p (.tup [x,y])/\∀xs ys,up b1 K H l1 xs->up b2 K H a ys->xs[i]?=on x/\ys[i]?=on y,
  λi H=>∃xs ys,up b1 K H l1 xs/\up b2 K H a ys/\(xs.length=i\/(i<xs.length/\ys.length=i))⟩
variable{X:Cx}{ba:List (Q6×RA)}{σ:St}{H:Hp}
theorem cy.src{b:Bool}(I:cy X ba σ H s)(h:up b X.K H a xs):∃its:List Ra,au xs its/\w_ b s.heap a its.toArray:=by
 cases b with
 |true=>
  obtain⟨its,r,p,_⟩:=I.list (show e_ X.K H a xs from h);exact⟨its,r,p.isList⟩
 |false=>
  obtain⟨its,r,p,_⟩:=I.tuple (show il X.K H a xs from h);exact⟨its,r,p⟩
theorem cy.src_inj{b:Bool}(I:cy X ba σ H s)(h:up b X.K H a xs)(h':up b X.K H a ys):xs=ys:=by
 cases b with
 |true=>exact I.list_inj (show e_ X.K H a xs from h) h'
 |false=>exact I.tuple_inj (show il X.K H a xs from h) h'
theorem gq.get{b:Bool}{h:SE}(x:gq b h it a k):∃o,h.get? it=on o/\o.cls= .type (Ky b)/\∃fs,o.data= .fields fs:=by
 cases b with
 |true=>obtain⟨o,e,c,d⟩:=(show h.IsListIter it a k from x);exact⟨o,e,c,_,d⟩
 |false=>obtain⟨o,e,c,d⟩:=(show h.IsTupleIter it a k from x);exact⟨o,e,c,_,d⟩
theorem gq.keep{b:Bool}{h h':SE}(x:gq b h it a k)(q:∀o,h.get? it=on o->h'.get? it=on o):gq b h' it a k:=by
 cases b with
 |true=>exact(show h.IsListIter it a k from x).at λo e=>q o e
 |false=>exact(show h.IsTupleIter it a k from x).at λo e=>q o e
theorem cy.turnNew{h':SE}{t':Nat}{ch:List Q6}{p:Q6}{o:HO}(I:cy X ba σ H s)(a:∀b∈ch,fq X ba H b)(k:∀b u,b∉ch->s.heap.get? b=on u->h'.get? b=on u)(d:s.heap.objs.size<=p)(new:cL X.prog X.w (upd H p o) h' p o):cy X ba σ (upd H p o) {s with heap:=h',toks:=t'}:=by
 have hn:H p=QY:=I.hok.fresh d;have nt:∀b u,H b=on u->b∉ch:=λb u e z=>by rw[(a b z).1]at e;cases e
 refine I.call' (s':={s with heap:=h',toks:=t'}) (ch:=ch) rfl ⟨λb u e _ _ hc=>k b u hc e,λb u e _ _ hc=>⟨u.slots,k b u hc e⟩,λb u e z hc=>?_,λb u e hc=>⟨u,k b u hc e⟩,λb ys e=>?_,λb u ys e=>?_,λb ys e=>⟨#[],?_⟩⟩ (λb u e=>?_) I.bare λb f=>?_
 .rw[b_ (Sg (RH (RM e) d))];exact z
 .rw[b_ (az e hn)];exact e
 .rw[b_ (az e hn)];exact e
 .rw[b_ (az e hn),e];simp
 .by_cases z:b=p
  .subst z;rw[aq]at e;cases e;exact new
  .rw[b_ z]at e
   refine(I.hok b u e).stay (λc v hc q=>k c v ?_ q) (λc q=>by rw[b_ (az q hn)];exact q) λc xs q=>by rw[b_ (az q hn)];exact q
   rcases hc with rfl|hc
   .exact nt _ _ e
   .exact nt _ _ hc
 .obtain⟨j,f1,f2,g,h,i⟩:=a b f
  exact⟨g,f1,h,i⟩
theorem cy.turnL{h':SE}{ch:List Q6}(I:cy X ba σ H s)(a:∀b∈ch,fq X ba H b)(k:∀b u,b∉ch->s.heap.get? b=on u->h'.get? b=on u):cy X ba σ H {s with heap:=h',toks:=t'}:=by
 have nt:∀b u,H b=on u->b∉ch:=λb u e z=>by rw[(a b z).1]at e;cases e
 refine I.call' (s':={s with heap:=h',toks:=t'}) (ch:=ch) rfl ⟨λb u e _ _ hc=>k b u hc e,λb u e _ _ hc=>⟨u.slots,k b u hc e⟩,λb u e z hc=>z,λb u e hc=>⟨u,k b u hc e⟩,λb ys e=>e,λb u ys e=>e,λb ys e=>⟨#[],by rw[e];simp⟩⟩ (λb u e=>?_) I.bare λb d=>?_
 .refine(I.hok b u e).stay (λc v hc q=>k c v ?_ q) (λc q=>q) λc xs q=>q
  rcases hc with rfl|hc
  .exact nt _ _ e
  .exact nt _ _ hc
 .obtain⟨i,f1,f2,f,g,h⟩:=a b d
  exact⟨f,f1,g,h⟩
theorem cy.src_ne{b:Bool}(I:cy X ba σ H s)(h:up b X.K H a xs)(f:fq X ba H c):a≠c:=by
 obtain⟨i,f1,f2,f3,j,k⟩:=f;have d:∀o,X.K.lookup a=on o->a≠c:=λo e z=>by
  have g:=I.ok.mod.kin a o e;subst z;rcases f3 with f3|f3
  .exact I.ok.noex a o g f3
  .exact RJ (RH (RM (I.ok.bs a o g).1) f3) (Sf _)
 have rd:∀u,Rd H a u->a≠c:=λu r z=>by
  subst z;rcases r with r|⟨_,r⟩<;>rw[i]at r<;>cases r
 cases b with
 |true=>
  rcases(show e_ X.K H a xs from h)with h|⟨o,_,_,e,_⟩
  .exact rd _ h
  .exact d o e
 |false=>
  rcases(show il X.K H a xs from h)with h|⟨o,_,_,e,_⟩
  .exact rd _ h
  .exact d o e
theorem DF{w:R8}{K:RB}{x1}(b1 b2:Bool)(l1 C z TI TO f g:Q6)(nd:[z,TI,TO,f,g].Nodup):
  ms P w K (.Tuple elts x1 pos) (Itz b1 b2 K l1 C) [z,TI,TO,f,g] z (λi h=>WG h z TI TO .none/\Uw h TI (.ref f) (.ref g)/\(∃a b,Uw h TO a b)/\gq b1 h f l1 i/\gq b2 h g C i) where
 mem:=by simp
 obj:=λi h st b j=>by
  obtain⟨p,r,⟨a,b',F⟩,J,L⟩:=st;simp only[Rq,SO,Vj]at j;rcases j with rfl|rfl|rfl|rfl|rfl
  .exact⟨_,p,λv q=>by cases q⟩
  .exact⟨_,r,λv q=>by cases q⟩
  .exact⟨_,F,λv q=>by cases q⟩
  .obtain⟨o,e,_,fs,d⟩:=J.get
   exact⟨o,e,λv q=>by rw[d]at q;cases q⟩
  .obtain⟨o,e,_,fs,d⟩:=L.get
   exact⟨o,e,λv q=>by rw[d]at q;cases q⟩
 keep:=λi h h' st k=>by
  obtain⟨p,r,⟨a,b',F⟩,J,L⟩:=st;exact⟨k z (by simp) _ p,k TI (by simp) _ r,⟨a,b',k TO (by simp) _ F⟩,J.keep λo e=>k f (by simp) o e,L.keep λo e=>k g (by simp) o e⟩
 item:=by
  intro X hP hw hK n i ba s σ H E I N st hg;subst hP hw hK;obtain⟨xs,ys,x,y,q1,q2,hx,hy⟩:=hg;obtain⟨p,r,⟨a,b',F⟩,J,L⟩:=st;obtain⟨l,r1,p1⟩:=cy.src I q1;obtain⟨m,r2,p2⟩:=cy.src I q2;have hd:=I.ok.hd n;simp only[Sb,Rq,SO,Vj,not_or]at nd;obtain⟨⟨W,z2,T,U⟩,⟨t1,t2,t3⟩,⟨Y,o2⟩,Q,_⟩:=nd;have t:∀c∈[z,TI,TO,f,g],l1≠c:=λc n=>cy.src_ne I q1 (N c n);have B:∀c∈[z,TI,TO,f,g],C≠c:=λc n=>cy.src_ne I q2 (N c n);have ap:Ap z TI TO f g [f,l1] [g,C]:=⟨Ne.symm W,Ne.symm z2,Ne.symm T,Ne.symm U,t1,t2,t3,Y,o2,Q,by simp[T,(t z (by simp)).symm],by simp[Y,(t TO (by simp)).symm],by simp[Ne.symm Q,(t g (by simp)).symm],by simp[U,(B z (by simp)).symm],by simp[o2,(B TO (by simp)).symm],by simp[Q,(B f (by simp)).symm],by simp,by simp⟩;have k1:i<l.toArray.size:=by
   rw[Rx,<-r1.length];exact(Rj.mp hx).1
  have k2:i<m.toArray.size:=by
   rw[Rx,<-r2.length];exact(Rj.mp hy).1
  refine ze (λA' h'=>ud b1 (h'.trans hd) f l1 (t f (by simp)) l.toArray) (λA' h'=>ud b2 (h'.trans hd) g C (B g (by simp)) m.toArray) ap p r F ⟨J,p1⟩ ⟨L,p2⟩ k1 k2 λh' tk u v pu pv fz fO f1 f2 fT sz kp=>?_;refine⟨_,rfl,wpAny_letOwnedTupleGo_zip (s:={s with heap:=h',toks:=tk}) fz λR Z O=>?_⟩
  replace O:RQ z h' R:=O
  have zT:s.heap.objs.size≠z:=Uy (RM p);obtain⟨u',hu,ru⟩:=r1.get hx;obtain⟨v',hv,rv⟩:=r2.get hy;have eu:u=u':=by
   have:l[i]?=on u:=by simpa using pu
   rw[this]at hu;exact RO hu
  have ev:v=v':=by
   have:m[i]?=on v:=by simpa using pv
   rw[this]at hv;exact RO hv
  subst eu ev;have kk:∀b o,b∉[z,TI,TO,f,g]->s.heap.get? b=on o->R.get? b=on o:=λb o j e=>by
   simp only[Rq,SO,Vj,not_or]at j;exact O.extBut b o j.1 (kp b o j.1 j.2.2.1 j.2.2.2.1 j.2.2.2.2 e)
  have I2:cy X ba σ (upd H s.heap.objs.size (.tup [x,y])) {s with heap:=R,toks:=tk}:=by
   refine cy.turnNew I N kk (Rf _) ⟨by show 2<=RF;decide,[u,v],.cons ru (.cons rv .nil),_,O.extBut _ _ zT fT,rfl,_,rfl⟩
  refine⟨.ref s.heap.objs.size,_,I2,rfl,⟨s.heap.objs.size,x,y,I.hok.fresh (Rf _),rfl,rfl,λas bs h1 h2=>⟨by rw[cy.src_inj I h1 q1];exact hx,by rw[cy.src_inj I h2 q2];exact hy⟩⟩,⟨Z,?_,⟨u,v,?_⟩,?_,?_⟩,λb j=>?_⟩
  .exact O.extBut _ _ (Ne.symm W) (kp TI _ (Ne.symm W) t1 t2 t3 r)
  .exact O.extBut _ _ (Ne.symm z2) fO
  .exact f1.1.keep λo e=>O.extBut _ _ (Ne.symm T) e
  .exact f2.1.keep λo e=>O.extBut _ _ (Ne.symm U) e
  .rw[b_]
   .exact(N b j).1
   .intro q
    have ol:∃o,s.heap.get? b=on o:=by
     simp only[Rq,SO,Vj]at j;rcases j with rfl|rfl|rfl|rfl|rfl
     .exact⟨_,p⟩
     .exact⟨_,r⟩
     .exact⟨_,F⟩
     .obtain⟨o,e,_⟩:=J.get;exact⟨o,e⟩
     .obtain⟨o,e,_⟩:=L.get;exact⟨o,e⟩
    obtain⟨o,e⟩:=ol;exact RJ (RM e) (by rw[q];exact Sf _)
 done:=by
  intro X hP hw hK n i ba s σ H E I N st hg;subst hP hw hK;obtain⟨xs,ys,q1,q2,hl⟩:=hg;obtain⟨p,r,⟨a,b',F⟩,J,L⟩:=st;obtain⟨l,r1,p1⟩:=cy.src I q1;obtain⟨m,r2,p2⟩:=cy.src I q2;have hd:=I.ok.hd n;simp only[Sb,Rq,SO,Vj,not_or]at nd;obtain⟨⟨W,z2,T,U⟩,⟨t1,t2,t3⟩,⟨Y,o2⟩,Q,_⟩:=nd;have t:∀c∈[z,TI,TO,f,g],l1≠c:=λc n=>cy.src_ne I q1 (N c n);have B:∀c∈[z,TI,TO,f,g],C≠c:=λc n=>cy.src_ne I q2 (N c n);have ap:Ap z TI TO f g [f,l1] [g,C]:=⟨Ne.symm W,Ne.symm z2,Ne.symm T,Ne.symm U,t1,t2,t3,Y,o2,Q,by simp[T,(t z (by simp)).symm],by simp[Y,(t TO (by simp)).symm],by simp[Ne.symm Q,(t g (by simp)).symm],by simp[U,(B z (by simp)).symm],by simp[o2,(B TO (by simp)).symm],by simp[Q,(B f (by simp)).symm],by simp,by simp⟩;have g1:l.toArray.size=xs.length:=by rw[Rx,<-r1.length]
  have g2:m.toArray.size=ys.length:=by rw[Rx,<-r2.length]
  refine CY (λA' h'=>ud b1 (h'.trans hd) f l1 (t f (by simp)) l.toArray) (λA' h'=>ud b2 (h'.trans hd) g C (B g (by simp)) m.toArray) ap p r F ⟨J,p1⟩ ⟨L,p2⟩ ?_ λh' tk kp=>⟨rfl,cy.turnL I N λb o j e=>?_⟩
  .rw[g1,g2]
   rcases hl with hl|⟨h1,h2⟩
   .exact .inl hl.symm
   .exact .inr ⟨h1,h2.symm⟩
  .simp only[Rq,SO,Vj,not_or]at j
   exact kp b o j.1 j.2.2.1 j.2.2.2.1 j.2.2.2.2 e
 self:=λ_ _ _ _ _ st h=>wpAny_pyIter_zip st.1 h
end
section
variable{X:Cx}{E:St->XK}{K:RB}
def iZp(K:RB)(c:TA):TI:=λd H R=>c d H λvs a=>∃b1 b2 l1 b xs ys,vs=[.ref l1,.ref b]/\up b1 K a l1 xs/\up b2 K a b ys/\R (Itz b1 b2 K l1 b) a
theorem Ni{x1}(w:Gl X "zip")(hm:X.mg "zip"=QY)(ha:PA X [a,b] ta)(hs:Rm [a,b] X.env=[(Q9,Sw a X.env),(Q9,Sw b X.env)]:=by rfl)(g:Rm [b] X.env=[(Q9,Sw b X.env)]:=by rfl):
  PI X (.Tuple elts x1 tpos) (.Call (.Name "zip" p) [a,b] [] pos) (iZp X.K ta):=by
 intro f s n H R I h;refine Call_ (gZ I w hm PyProof.Rows.Boot.«zip» (SR (ee (ha pos f s n H _ I h) λus d ⟨vs,o,i,r1,q1⟩=>?_) (by rw[hs,g]) (by rw[g];rfl)));obtain⟨b1,b2,l1,t,xs,ys,e,q1,q2,q⟩:=q1;subst e;cases r1 with
 |cons r k=>
  cases k with
  |cons y k=>
   cases k;cases r;cases y;obtain⟨A,N,B⟩:=cy.src i q1;obtain⟨C,O,p2⟩:=cy.src i q2;refine CD B p2 λh' u F J l m sz kp=>?_;refine wpAny_pyIter_zip (s:={d with heap:=h'}) u ?_;have L:cy X f n o {d with heap:=h'}:=i.kept (t':=d.toks) kp;refine⟨_,[d.heap.objs.size+4,d.heap.objs.size+2,d.heap.objs.size+3,d.heap.objs.size,d.heap.objs.size+1],_,Itz b1 b2 X.K l1 t,o,rfl,L,DF b1 b2 l1 t (d.heap.objs.size+4) (d.heap.objs.size+2) (d.heap.objs.size+3) d.heap.objs.size (d.heap.objs.size+1) (by simp),⟨u,F,⟨_,_,J⟩,l,m⟩,λc v=>?_,q⟩;have j:d.heap.objs.size<=c:=by
    simp only[Rq,SO,Vj]at v;rcases v with rfl|rfl|rfl|rfl|rfl
    .exact Uq _ _
    .exact Uq _ _
    .exact Uq _ _
    .exact Rf _
    .exact Uq _ _
   exact i.fpOk j (i.hok.fresh j)
noncomputable def d8:List D->List D->List D
 |x::xs,y::ys=> .tup [x,y]::d8 xs ys
 |_,_=>[]
theorem uk:∀(xs ys:List D),(d8 xs ys).length=UL xs.length ys.length
 |[],ys=>by simp[d8]
 |x::xs,[]=>by simp[d8]
 |x::xs,y::ys=>by
  show(d8 xs ys).length+1=_;rw[uk xs ys,Rl,Rl];omega
theorem um:∀{xs ys:List D} {i:Nat} {d:D},(d8 xs ys)[i]?=on d->∃x y,xs[i]?=on x/\ys[i]?=on y/\d= .tup [x,y]
 |[],ys,i,d,h=>by simp[d8]at h
 |x::xs,[],i,d,h=>by simp[d8]at h
 |x::xs,y::ys,0,d,h=>by
  simp[d8]at h;exact⟨x,y,rfl,rfl,h.symm⟩
 |x::xs,y::ys,i+1,d,h=>by
  have h':(d8 xs ys)[i]?=on d:=by simpa[d8]using h
  obtain⟨a,b,c,e,f⟩:=um h';exact⟨a,b,by simpa using c,by simpa using e,f⟩
def DA:List D->Option (List D)
 |[a,b]=>(fK a).bind λxs=>(fK b).map λys=>d8 xs ys
 |_=>QY
theorem cp.sqS(h:cp K F H d v)(e:fK d=on ds):∃b a,v= .ref a/\∀f c,Tr F H f c->∃xs,up b K c a xs/\bb K f c ds xs:=by
 cases d<;>first
  |(cases e;obtain⟨a,xs,rfl,_⟩:=cp.sqL h;refine⟨Q4,a,rfl,λf c t=>?_⟩;obtain⟨i,ys,g,sq,dl⟩:=cp.sqL (cp.tr t _ _ h);cases g;exact⟨ys,sq,dl⟩)
  |(cases e;obtain⟨a,xs,rfl,_⟩:=cp.sqT h;refine⟨Q9,a,rfl,λf c t=>?_⟩;obtain⟨i,ys,g,sq,dl⟩:=cp.sqT (cp.tr t _ _ h);cases g;exact⟨ys,sq,dl⟩)
  |cases e
theorem L6{b1 b2:Bool}(n:∀b a,Tr F H b a->∃xs,up b1 K a l1 xs/\bb K b a ds xs)(o:∀b a,Tr F H b a->∃xs,up b2 K a l2 xs/\bb K b a es xs):x0 K (Itz b1 b2 K l1 l2) F H (d8 ds es):=λb a β2 t fr i=>by
 obtain⟨xs,c,d1⟩:=n b a t;obtain⟨ys,e,d2⟩:=o b a t;refine⟨λd hd=>?_,λq=>?_⟩
 .obtain⟨x,y,f,g,rfl⟩:=um hd
  obtain⟨u,h,du⟩:=d1.get f;obtain⟨v,j,r⟩:=d2.get g;refine⟨⟨xs,ys,u,v,c,e,h,j⟩,λz B w=>?_⟩;obtain⟨p,C,I,k,rfl,rfl,A⟩:=w;obtain⟨l,m⟩:=A xs ys c e;rw[h]at l;rw[j]at m;cases l;cases m;exact⟨bK.upd k,cp.newT fr k (bb.cons du (bb.cons r bb.nil))⟩
 .rw[uk]at q
  have f:=d1.length;have g:=d2.length;refine⟨xs,ys,c,e,?_⟩;rw[<-f,<-g];omega
def yp(g:FL):FL:=cU DA g
theorem qA{x1}(o:Gl X "zip")(hm:X.mg "zip"=QY)(ha:PA X [a,b] (i0 X.K g E))(hs:Rm [a,b] X.env=[(Q9,Sw a X.env),(Q9,Sw b X.env)]:=by rfl)(i:Rm [b] X.env=[(Q9,Sw b X.env)]:=by rfl):
  PI X (.Tuple elts x1 tpos) (.Call (.Name "zip" p) [a,b] [] pos) (iV X.K (yp g) E):=
 (Ni o hm ha hs i).imp λC H R j=>ll j λF δ β fr q h=>⟨F,δ,β,fr,q,(run.bind (R:=bb X.K F) h).mono λvs f j=>by
  obtain⟨ds,β1,t,hd,r1⟩:=j;obtain⟨l,e,k⟩:=run.ofO r1;unfold DA at e;split at e
  .rename_i c d
   obtain⟨v,I,rfl,r,u⟩:=bb.two hd;cases q1:fK c with
   |none=>rw[q1]at e;cases e
   |some xs=>
    cases q2:fK d with
    |none=>rw[q1,q2]at e;cases e
    |some ys=>
     rw[q1,q2]at e;cases e;obtain⟨b1,l1,rfl,m⟩:=cp.sqS r q1;obtain⟨b2,w,rfl,n⟩:=cp.sqS u q2;obtain⟨us,y,_⟩:=m F f (Tr.refl F f);obtain⟨A,B,_⟩:=n F f (Tr.refl F f);exact⟨b1,b2,l1,w,us,A,rfl,y,B,k _ f (To.refl t.fr) (L6 m n)⟩
  .cases e⟩
variable{es:List Expr}
end
section
variable{P:RT}{w:R8}{K:RB}{mg:R3->Option Ra}{base:SE}{N:List R3}{qual:R3}{scope:Scope}{f:Q6}{cd:Ra}{A:SB}{outer:List Yi}{s:Rg}{H:Hp}{E:XK}
end
section
variable{X:Cx}{E:St->XK}{K:RB}
variable{elt cx iter:Expr}{ifs:List Expr}{rest:List S7}{scope:Scope}{pos:Vy}{Nc c_:List R3}{cw:List Nat}{g:TG}{tb:Q6->TB}
theorem aF:eA X [] (iv X.K (λ_=>M.ret Q4) E0):=λa s b H Q I c=>by obtain⟨F,δ,β,fr,d,r⟩:=c;exact uQ a s b H Q I (run.ret fr r rfl)
theorem qE(a:PT X c (iv X.K t E0)):eA X [c] (iv X.K t E0):=EA a
theorem aO(c:X.calm=Q4)(S:dk X scope Nc c_ cw)(d:PI X cx iter (iV X.K it E))
  (e:∀(cl:List (R3×Q6)) (C:Q6) (a:List Q6) (s:Rg) (H:Hp),PG (aP X Nc scope cl C a s H) cx g/\eA (aP X Nc scope cl C a s H) ifs (iv X.K tt E0)/\∀D,PB (aP X Nc scope cl C a s H) elt (⟨cx,iter,ifs,0⟩::rest) scope pos 0 D (tb D))
  (f:dH X.K g tg) (i:eX tg) (j:∀D,oo X.K D (tb D) b) (hs:∀x,Su iter X.env x=T0 x:=by intro _;rfl):PE X (.ListComp elt (⟨cx,iter,ifs,0⟩::rest) scope pos) (tV X.K (bT c_.length cw it tg tt b) E):=
 (wY c S d e hs).imp λk H Q h=>uu f i j h
theorem uE{a c:Vy}(j:X.N.Nodup)(d:X.N[i]?=on x)(k:y4 X.env.scope x)(l:X.calm=Q4)(S:dk X scope Nc c_ cw)(m:PI X cx iter (iV X.K it E))
  (n:∀(cl:List (R3×Q6)) (C:Q6) (f:List Q6) (s:Rg) (H:Hp),PG (aP X Nc scope cl C f s H) cx g/\eA (aP X Nc scope cl C f s H) ifs (iv X.K tt E0)/\∀D,PB (aP X Nc scope cl C f s H) elt (⟨cx,iter,ifs,0⟩::rest) scope pos 0 D (tb D))
  (o:dH X.K g tg) (p:eX tg) (q:∀D,oo X.K D (tb D) b)
  (e:VM (.ListComp elt (⟨cx,iter,ifs,0⟩::rest) scope pos) (on (.Name x a)) c.line X.env=T0 Q4:=by rfl)
  (hs:∀x,Su iter X.env x=T0 x:=by intro _;rfl) (r:X.fn x=Q4\/X.env.scope.names.lookup x=on .local:=by first|exact .inl rfl|exact .inr rfl|assumption):
  PS X (.Assign [.Name x a] (.ListComp elt (⟨cx,iter,ifs,0⟩::rest) scope pos) c) (tG X.K X.H₀ (mS i (bT c_.length cw it tg tt b)) E):=
 aJ ((wT j d k l S m n e hs r).imp λD t H h=>uu o p q h)
noncomputable def negD:D->Option D
 | .int i=>on (.int (-i))
 |_=>QY
theorem Qn:KN K (rU λi=> .int (-i)) negD:=λF H β Q d1 d b fr a e k=>by
 cases d1<;>first|(cases e;exact⟨_,a,k _ H (To.refl fr) rfl⟩)|cases e
noncomputable def CO:D->Option Int
 | .int i=>on i
 |_=>QY
noncomputable def ph(xs:List D)(lo a:Option Int):List D:=(xs.drop (HT.sIx xs.length 0 lo)).take (HT.sIx xs.length xs.length a-HT.sIx xs.length 0 lo)
def slD:D->Option Int->Option Int->Option D
 | .lst xs,lo,hi=>on (.lst (ph xs lo hi))
 | .scr ns,lo,hi=>on (.lst (ph (ns.map D.int) lo hi))
 |_,_,_=>QY
def uc(f:Option (FD)):Dn->M (Option Int):=λδ=>match f with
 |none=>M.ret QY
 |some g=>M.bind (g δ) λd=>M.bind (M.ofO (CO d)) λi=>M.ret (on i)
def fSl(f:FD)(lo a:Option (FD)):FD:=λδ=>M.bind (f δ) λd=>M.bind (uc lo δ) λl=>M.bind (uc a δ) λh=>M.ofO (slD d l h)
def zc(X:Cx)(e:Option Expr)(f:Option (FD))(E:St->XK):Prop:=PO X e (λc H Q=>∃F δ β,Fr F H β/\ix X.K F H δ c/\run (λ_ (a b:Option Int)=>b=a) F E c (uc f δ) H Q β)
theorem AJ:zc X QY QY E:=λa s b H Q I c=>by obtain⟨F,δ,β,fr,d,r⟩:=c;exact wV a s b H Q I (run.ret fr r rfl)
theorem AI(h:PE X e (tV X.K f E)):zc X (on e) (on f) E:=λa s c H Q I b=>ll b λF δ β fr j r=>wU h a s c H Q I ⟨F,δ,β,fr,j,(run.bind (R:=cp X.K F) r).mono λv l b=>by
  obtain⟨d,β1,t,hd,r1⟩:=b;obtain⟨i,e,k⟩:=run.ofO_bind r1;cases d<;>first|(cases e;exact⟨_,hd,run.ret t.fr k rfl⟩)|cases e⟩
theorem bb.cut(h:bb K F H ds vs)(lo a:Option Int):bb K F H (ph ds lo a) (mX vs lo a):=by
 unfold ph mX;rw[h.length];exact(h.drop _).take _
theorem wv{lo y:Option Expr}{fl A:Option (FD)}{p2:Vy}(B:PE X e (tV X.K f E))(C:zc X lo fl E)(I:zc X y A E):PE X (.Subscript e (.Slice lo y QY p2) pos) (tV X.K (fSl f fl A) E):=
 (uR wG B C I).imp λN H Q o=>ll o λF δ β fr q r=>⟨F,δ,β,fr,q,(run.bind (R:=cp X.K F) r).mono λv O ⟨d,β1,t,hd,r1⟩=>
  ⟨F,δ,β1,t.fr,q.tr (t.tr fr),(run.bind (R:=λ_ (a b:Option Int)=>b=a) r1).mono λl P ⟨T,β2,n,u,J⟩=>
   ⟨F,δ,β2,n.fr,q.tr ((t.tr fr).trans (n.tr t.fr)),(run.bind (R:=λ_ (a b:Option Int)=>b=a) J).mono λh U o=>by
    obtain⟨h',β3,i,w,L⟩:=o;subst u w;obtain⟨c,e,k⟩:=run.ofO L;have j:=cp.tr ((n.tr t.fr).trans (i.tr n.fr)) _ _ hd;cases d<;>first
     |(cases e;obtain⟨a,xs,rfl,sq,dl⟩:=cp.sqL j;exact⟨a,xs,rfl,sq,λp m=>k _ _ (i.fr.upd _ m) (cp.newL i.fr m (dl.cut l h))⟩)
     |(cases e;obtain⟨a,rfl,sq⟩:=cp.scr j;exact⟨a,_,rfl,sq,λp m=>k _ _ (i.fr.upd _ m) (cp.newL i.fr m ((bb.ofInts _).cut l h))⟩)
     |cases e⟩⟩⟩
def Bg.ok(β:Bg):Prop:=β.cells≠[]/\β.cells.length<=64/\(∀c∈β.cells,0<=c)/\0<=β.j
end
noncomputable def Bg.pos(β:Bg):Nat:=(β.i % (β.cells.length:Int)).toNat
def Bg.cell(β:Bg):Int:=β.cells.getD β.pos 0
noncomputable def Bg.nxt(β:Bg):Int:=(β.j+β.cell % 2147483629+77)*48271 % 2147483629
noncomputable def jH(β:Bg)(lot:Int):Int:=if 10^18<=β.cell then β.cell % lot else β.nxt/64 % lot
noncomputable def kS(β:Bg)(lot:Int):Bg:=if 10^18<=β.cell then⟨β.cells.set β.pos (β.cell/lot),β.i,β.j⟩else⟨β.cells,β.i+1,β.nxt⟩
open Classical in
def jJ:List D->M D:=λds β=>match ds with
 |[.bag,.int lot]=>if β.ok/\0<lot/\lot<1073741824 then on (SW (D.int (jH β lot)),kS β lot)else QY
 |_=>QY
theorem EW{β:Bg}(h:β.ok)(a:0<lot)(b:lot<1073741824):jJ [.bag,.int lot] β=on (.ok (.int (jH β lot)),kS β lot):=by
 unfold jJ;exact Rb ⟨h,a,b⟩
theorem AT{β:Bg}(h:jJ ds β=on (r,β')):∃lot,ds=[.bag,.int lot]/\β.ok/\0<lot/\lot<1073741824/\r= .ok (.int (jH β lot))/\β'=kS β lot:=by
 unfold jJ at h;split at h
 .split at h
  .rename_i lot q
   cases h;exact⟨lot,rfl,q.1,q.2.1,q.2.2,rfl,rfl⟩
  .cases h
 .cases h
theorem Bg.ok.at{β:Bg}(h:β.ok):β.pos<β.cells.length/\β.cells[β.pos]?=on β.cell/\0<=β.cell/\β.i % (β.cells.length:Int)=(β.pos:Int):=by
 obtain⟨c1,c2,c3,b⟩:=id h;have c:0<β.cells.length:=List.length_pos_iff.mpr c1;have a1:0<=β.i % (β.cells.length:Int):=VE _ (by omega);have a2:β.i % (β.cells.length:Int)<β.cells.length:=V5 _ (by omega);have a:β.pos<β.cells.length:=by unfold Bg.pos;omega
 have e:β.cell=β.cells[β.pos]:=by
  unfold Bg.cell;rw[QZ,Q2 a];rfl
 refine⟨a,by rw[e];exact Q2 a,by rw[e];exact c3 _ (R1 a),?_⟩;unfold Bg.pos;omega
theorem wP{β:Bg}(h:β.ok)(b:0<lot):0<=jH β lot/\jH β lot<lot/\(kS β lot).ok:=by
 obtain⟨f,_,d,_⟩:=h.at;obtain⟨c1,c2,c3,e⟩:=id h;unfold jH kS;split
 .refine⟨VE _ (by omega),V5 _ b,?_,by rw[RV];exact c2,λc a=>?_,e⟩
  .intro z
   have:=R9 XJ z;rw[RV]at this;exact c1 (Wx.mp this)
  .rcases Tw a with a|rfl
   .exact c3 c a
   .exact Int.ediv_nonneg d (by omega)
 .exact⟨VE _ (by omega),V5 _ b,c1,c2,c3,VE _ (by decide)⟩
end L2.Pu
namespace L2
open PySem PySem.Spec PyProof.Rows
end L2
namespace L2.Pu
open PySem PySem.Spec PyProof.Rows
section
variable{X:Cx}{E:St->XK}{K:RB}
def oq(K:RB)(mg:R3->Option Ra)(x:R3)(d:D):Prop:=∃u v,mg x=on u/\aT v u/\∀F H,cp K F H d v
theorem gO(c:oq X.K X.mg x d)(a:Gl X x:=by rfl)(hd:(x==("__debug__":R3))=Q9:=by decide):PE X (.Name x pos) (tV X.K (fC d) E):=by
 obtain⟨u,v,b,e,f⟩:=c;exact v_c (Lz a b e hd) f
mutual
noncomputable def l9:D->Option Y4
 | .non=>on .none
 | .bl b=>on (.bool b)
 | .int i=>on (.int i)
 | .str x=>on (.str x)
 | .lst xs=>(toPs xs).map V7
 | .tup xs=>(toPs xs).map PyData.tuple
 |_=>QY
noncomputable def toPs:List D->Option (List Y4)
 |[]=>on []
 |x::xs=>match l9 x,toPs xs with
  |some p,on ps=>on (p::ps)
  |_,_=>QY
end
mutual
theorem kh{s:Rg}(I:cy X ba σ H s):∀(d:D) (v:V) (u:Ra) (p:Y4),cp X.K F H d v->l9 d=on p->aT v u->∃as,Reads s.heap u p as
 | .non,v,u,p,h,e,r=>by cases e;cases h.non;cases r;exact⟨_,.none⟩
 | .bl b,v,u,p,h,e,r=>by cases e;cases h.bl;cases r;exact⟨_,.bool b⟩
 | .int i,v,u,p,h,e,r=>by cases e;cases h.int;obtain⟨t,rfl⟩:=r;exact⟨_,.int i t⟩
 | .str x,v,u,p,h,e,r=>by cases e;cases h.str;obtain⟨t,rfl⟩:=r;exact⟨_,.str x t⟩
 | .lst xs,v,u,p,h,e,r=>by
  unfold l9 at e;cases q:toPs xs with
  |none=>rw[q]at e;cases e
  |some ps=>
   rw[q]at e;cases e;obtain⟨a,ys,rfl,sq,dl⟩:=cp.sqL h;cases r;obtain⟨its,c,pl,_⟩:=I.list sq;obtain⟨as,f⟩:=reads_L I xs ys its ps dl q c;obtain⟨o,g,j,n,hd⟩:=pl.isList;exact⟨_,.list g j hd (by simpa using f)⟩
 | .tup xs,v,u,p,h,e,r=>by
  unfold l9 at e;cases q:toPs xs with
  |none=>rw[q]at e;cases e
  |some ps=>
   rw[q]at e;cases e;obtain⟨a,ys,rfl,sq,dl⟩:=cp.sqT h;cases r;obtain⟨its,c,pl,_⟩:=I.tuple sq;obtain⟨as,f⟩:=reads_L I xs ys its ps dl q c;obtain⟨o,g,j,n,hd⟩:=pl;exact⟨_,.tuple g j hd (by simpa using f)⟩
 | .ty _,_,_,_,_,e,_=>by cases e
 | .txt,_,_,_,_,e,_=>by cases e
 | .scr _,_,_,_,_,e,_=>by cases e
 | .obj _ _ _,_,_,_,_,e,_=>by cases e
 | .bag,_,_,_,_,e,_=>by cases e
 | .adr _,_,_,_,_,e,_=>by cases e
 | .dct _ _ _,_,_,_,_,e,_=>by cases e
theorem reads_L{s:Rg}(I:cy X ba σ H s):∀(ds:List D) (vs:List V) (us:List Ra) (ps:List Y4),bb X.K F H ds vs->toPs ds=on ps->au vs us->∃as,ReadsAll s.heap us ps as
 |[],vs,us,ps,h,e,r=>by
  have q:vs=[]:=h;subst q;cases e;cases r;exact⟨_,.nil⟩
 |d::ds,vs,us,ps,h,e,r=>by
  obtain⟨x,a,rfl,b,c⟩:=h;unfold toPs at e;split at e
  .rename_i p pr f g
   cases e;cases r with
   |cons r1 i=>
    obtain⟨as,j⟩:=kh I d x _ p b f r1;obtain⟨bs,k⟩:=reads_L I ds a _ pr c g i;exact⟨_,.cons j k⟩
  .cases e
end
def mY(a b:D):Option Bool:=match l9 a,l9 b with
 |some p,on q=>if(VI p&&VI q)=Q4 then on (VR p q)else QY
 |_,_=>QY
def ji(a b:D):Option D:=match eqS a b with
 |some c=>on (.bl c)
 |none=>(mY a b).map D.bl
def oZ(a b:D):Option D:=match eqS a b with
 |some c=>on (.bl (!c))
 |none=>(mY a b).map λc=>D.bl (!c)
def rc(X:Cx)(g:Bool->Bool):R2:=λx y H Q=>∃(F:Fx) (a b:D) (c:Bool),cp X.K F H a x/\cp X.K F H b y/\mY a b=on c/\Q (.bl (g c)) H
theorem sS{c:Bool}(h:mY a b=on c):∃p q,l9 a=on p/\l9 b=on q/\VI p=Q4/\VI q=Q4/\c=VR p q:=by
 unfold mY at h;split at h
 .rename_i p q d e
  split at h
  .rename_i hs
   rw[RZ]at hs;cases h;exact⟨p,q,d,e,hs.1,hs.2,rfl⟩
  .cases h
 .cases h
theorem Nx(f:ef k X.A):fx X (SH .Eq) (rc X id):=by
 intro d s t H x y v u Q I g i h;obtain⟨F,a,b,c,d1,d2,e,q⟩:=h;obtain⟨p,j,l,m,n,o,rfl⟩:=sS e;obtain⟨as,r1⟩:=kh I a x v p d1 l g;obtain⟨bs,r⟩:=kh I b y u j d2 m i;exact eq_dataH r1 r n o f.units ⟨.bl _,H,I,rfl,q⟩
theorem Nu(f:ef k X.A):fx X (SH .NotEq) (rc X not):=by
 intro d s t H x y v u Q I g i h;obtain⟨F,a,b,c,d1,d2,e,q⟩:=h;obtain⟨p,j,l,m,n,o,rfl⟩:=sS e;obtain⟨as,r1⟩:=kh I a x v p d1 l g;obtain⟨bs,r⟩:=kh I b y u j d2 m i;exact ne_dataH r1 r n o f.units ⟨.bl _,H,I,rfl,q⟩
theorem gY(a:ef k X.A):fx X (SH .Eq) (λx y H Q=>rEq x y H Q\/rc X id x y H Q):=Qa.or (Nx a)
theorem kq(a:ef k X.A):fx X (SH .NotEq) (λx y H Q=>rNe x y H Q\/rc X not x y H Q):=P9.or (Nu a)
theorem jK:bf X.K (λx y H Q=>rEq x y H Q\/rc X id x y H Q) ji:=λF H β Q d1 d2 d h i fr a b e k=>by
 unfold ji at e;split at e
 .rename_i c q
  cases e;obtain⟨f,g⟩:=BW q a b;exact .inl ⟨f,by rw[g];exact k _ H (To.refl fr) rfl⟩
 .cases q:mY d1 d2 with
  |none=>rw[q]at e;cases e
  |some c=>rw[q]at e;cases e;exact .inr ⟨F,d1,d2,c,a,b,q,k _ H (To.refl fr) rfl⟩
theorem nV:bf X.K (λx y H Q=>rNe x y H Q\/rc X not x y H Q) oZ:=λF H β Q d1 d2 d h i fr a b e k=>by
 unfold oZ at e;split at e
 .rename_i c q
  cases e;obtain⟨f,g⟩:=BW q a b;exact .inl ⟨f,by rw[g];exact k _ H (To.refl fr) rfl⟩
 .cases q:mY d1 d2 with
  |none=>rw[q]at e;cases e
  |some c=>rw[q]at e;cases e;exact .inr ⟨F,d1,d2,c,a,b,q,k _ H (To.refl fr) rfl⟩
theorem QR(i j:Int):ji (.int i) (.int j)=on (.bl (decide (i=j))):=rfl
theorem QP(i j:Int):oZ (.int i) (.int j)=on (.bl (!decide (i=j))):=rfl
def lF(d:D):Bool:=match l9 d with
 |some p=>VI p
 |none=>Q9
theorem Kt{C:Int->Int->Prop}{c:Int->Int->Bool}{g:Int->Int->Int}(b:∀i j,c i j=Q4->C i j):bf K (ipC C g) (nj λi j=>if c i j=Q4 then on (.int (g i j))else QY):=λF H β Q d1 d2 d l m fr f h e k=>by
 obtain⟨i,j,rfl,rfl,a⟩:=gD e;split at a
 .cases a
  exact⟨i,j,f,h,b _ _ (by assumption),k _ H (To.refl fr) rfl⟩
 .cases a
def addI:D->D->Option D:=nj λi j=>on (.int (i+j))
theorem iJ:bf K (ipI λi j=>i+j) addI:=λF H β Q d1 d2 d f g fr a b e k=>by
 obtain⟨i,j,rfl,rfl,c⟩:=gD e;cases c;exact⟨i,j,a,b,k _ H (To.refl fr) rfl⟩
theorem LZ:bf K (ipI λi j=>i-j) MO:=λF H β Q d1 d2 d f g fr a b e k=>by
 obtain⟨i,j,rfl,rfl,c⟩:=gD e;cases c;exact⟨i,j,a,b,k _ H (To.refl fr) rfl⟩
theorem rF:PIp X .Mult (ipC uj λi j=>i*j):=by
 intro a s e H x y v u Q I b d h;obtain⟨i,j,rfl,rfl,c,q⟩:=h;obtain⟨t,rfl⟩:=b;obtain⟨t',rfl⟩:=d;exact imul_int ⟨.int _,H,I.tok _,⟨_,rfl⟩,q⟩ (Zm (jP c.1) (jP c.2))
theorem rB:bf K (ipC uj λi j=>i*j) ER:=Kt λi j h=>by
 simp only[RZ,gQ,R5]at h;exact h
theorem FJ:bf K (ipC KO λi j=>i/j) KE:=Kt λi j h=>by
 simp only[RZ,R5]at h;exact h
abbrev fI:=DN
theorem CG(b:X.calm=Q4):dJ X (.builtin "sum") (λxs H Q=>∃(a:Q6) (ns:List Int),xs=[.ref a]/\e_ X.K H a (ns.map V.int)/\Q (.int ns.sum) H):=sU b
theorem NK:fQ K (λxs H Q=>∃(a:Q6) (ns:List Int),xs=[.ref a]/\e_ K H a (ns.map V.int)/\Q (.int ns.sum) H) fI:=Ql
def KP(H:Hp)(b l:Q6):Prop:=∃(cells:List Int) (i j:Int),H b=on (.lst [.ref l,.int i,.int j])/\H l=on (.lst (cells.map V.int))/\cells≠[]/\cells.length<=64/\(∀c∈cells,0<=c)/\0<=j
theorem L5(h:k<n):mm n (k:Int)=on k:=by
 unfold mm;rw[Rb (by omega),Rb (by omega)];simp
theorem QT(ns:List Int):∃a:List Int,mX (ns.map V.int) QY (on 63)=a.map V.int/\a.length<=63:=by
 refine⟨(ns.drop (HT.sIx ns.length 0 QY)).take (HT.sIx ns.length ns.length (on 63)-HT.sIx ns.length 0 QY),?_,?_⟩
 .unfold mX
  rw[QX,Xd,Vr]
 .rw[S6]
  have:HT.sIx ns.length ns.length (on 63)<=63:=by
   unfold HT.sIx;simp;omega
  omega
def PX(K:RB):Sp:=λvs H Q _=>∃(a:Q6) (ns:List Int),vs=[.ref a]/\e_ K H a (ns.map V.int)/\∀(b l:Q6) (c:Hp),H b=QY->H l=QY->KP c b l->bK H c->Q (.ref b) c
def JO(K:RB):Sp:=λvs H Q _=>∃(a:Q6) (ns:List Int),vs=[.ref a]/\e_ K H a (ns.map V.int)/\ns.length<=63/\∀b,Q (.bl Q4) b
theorem Mp(sm:bK H₀ H)(A:H₀ b=QY)(C:H₀ l=QY)(B:KP H b l):∃β,β.ok/\fw K H₀ (λc=>if c=b\/c=l then on 1 else QY) (on (b,l)) H (QY::on (.sh .bag)::Rr n QY) β (on (.ref a)::on (.ref b)::Rr n QY):=by
 obtain⟨cells,i,j,g,h,p,v,w,y⟩:=B;have m:b≠l:=Qh g h (by
  intro z;cases cells with
  |nil=>exact p rfl
  |cons c r=>simp at z)
 refine⟨⟨cells,i,j⟩,⟨p,v,w,y⟩,⟨⟨λc f=>?_,λt u e=>?_,λt u e=>?_⟩,λt u e=>?_,by simp,λc f=>?_,λc k f=>(by
  have d:(if c=b\/c=l then on 1 else QY)=on (k+2):=f;split at d<;>cases d),λc k f=>(by
  have d:(if c=b\/c=l then on 1 else QY)=on (k+2):=f;split at d<;>cases d),λk s e=>?_⟩⟩
 .have d:(if c=b\/c=l then on 1 else QY)≠(QY:Option Nat):=f
  split at d
  .rename_i q
   rcases q with rfl|rfl
   .rw[g];simp
   .rw[h];simp
  .exact RJ rfl d
 .cases e
  refine⟨?_,?_,m⟩
  .show(if b=b\/b=l then on 1 else QY)≠(QY:Option Nat)
   rw[Rb (.inl rfl)];simp
  .show(if l=b\/l=l then on 1 else QY)≠(QY:Option Nat)
   rw[Rb (.inr rfl)];simp
 .cases e
  exact⟨g,h⟩
 .cases e
  exact⟨Rb (.inl rfl),Rb (.inr rfl)⟩
 .cases q:H₀ c with
  |none=>exact RJ q f
  |some o=>rw[sm c o q];simp
 .match k with
  |0=>simp at e
  |1=>
   simp at e;subst e;exact⟨.ref b,rfl,b,l,rfl,rfl⟩
  |k+2=>
   simp only[YG,Ts]at e;split at e<;>cases e
variable{P:RT}{w:R8}{mg:R3->Option Ra}{base:SE}
theorem aX{st:Sy}{N ps:List R3}(n m:Nat)(g:G)(F:dq K x qual st f fd)(S:cb N ps (ae st))(hn:ps.length=n)(hm:N.length=m)
  (a:∀(b:Ra) (A:SB) (outer:List Yi) (s:Rg) (H:Hp) (E:XK),ef k (A.deeper (VL qual (ae st) s.heap.objs.size f b))->
   PSs (gn (hY P w) P w K mg base N qual (ae st) f b A outer s H E) (c8 st) (tG K H g (λ_=>E))):fh P w K mg base (hY P w) (k+1) f fd ps (z_ K n (jO m g)):=by
 subst hn hm;exact Mg F S a
end
end L2.Pu
namespace L2
open PySem PySem.Spec PyProof.Rows
theorem dk.ofB{X:Cx}{scope:Scope}{cw:List Nat}(k:scope.kind= .function)(nd:(scope.names.map (·.1)).Nodup)
  (fr:(scope.names.all λy=>y.2 != .free||(X.env.scope.names.lookup y.1==on .cell||X.env.scope.names.lookup y.1==on .free))=Q4) (a:Nc=c_++cw.map (λj=>X.N.getD j US))
  (b:(cw.all λj=>decide (j<X.N.length)&&scope.names.lookup (X.N.getD j US)==on .free)=Q4):dk X scope Nc c_ cw:=by
 refine⟨k,nd,λy c e=>?_,a,λj d=>?_⟩
 .have:=Vl.mp fr y c
  rw[e]at this;simp only[UD,Bool.false_or,Bool.or_eq_true,UW]at this;exact this
 .have:=Vl.mp b j d
  simp only[RZ,R5,UW]at this;exact this
end L2
namespace L2.Pu
end L2.Pu
namespace L2.Pu
open PySem PySem.Spec
theorem rK{ds os:List D}(a:it δ β=on (.ok ds,β1))(c:p4 tg tt b ds (lK nv cw δ) β1=on (.ok os,β2))(d:os.length<=RF):bT nv cw it tg tt b δ β=on (.ok (.lst os),β2):=by
 unfold bT;simp only[a,c,d,SA]
def plD:Nat->D->Prop
 |_,.int _=>True
 |_,.bl _=>True
 |_,.non=>True
 |n+1,.lst xs=>∀x∈xs,plD n x
 |n+1,.tup xs=>∀x∈xs,plD n x
 |_,_=>False
theorem Lq:∀(n:Nat) (d:D),plD n d->∃p,l9 d=on p/\p.canLay0=Q4/\p.depth<=n+1:=by
 have a:∀(n:Nat) (xs:List D),(∀x∈xs,∃p,l9 x=on p/\p.canLay0=Q4/\p.depth<=n)->∃ps,toPs xs=on ps/\ZC ps=Q4/\XF ps<=n:=by
  intro n xs
  induction xs with
  |nil=>intro _;exact⟨[],rfl,rfl,by simp[XF]⟩
  |cons x xs ih=>
   intro h;obtain⟨p,g,j,l⟩:=h x Q7;obtain⟨ps,b,c,f⟩:=ih λy k=>h y (Q1 _ k);refine⟨p::ps,?_,?_,?_⟩
   .unfold toPs;simp only[g,b]
   .simp[ZC,j,c]
   .simp only[XF];omega
 intro n
 induction n with
 |zero=>
  intro d h;cases d with
  |int i=>exact⟨.int i,rfl,rfl,by simp[UK]⟩
  |bl i=>exact⟨.bool i,rfl,rfl,by simp[UK]⟩
  |non=>exact⟨.none,rfl,rfl,by simp[UK]⟩
  |_=>exact h.elim
 |succ n ih=>
  intro d h;cases d with
  |int i=>exact⟨.int i,rfl,rfl,by simp[UK]⟩
  |bl i=>exact⟨.bool i,rfl,rfl,by simp[UK]⟩
  |non=>exact⟨.none,rfl,rfl,by simp[UK]⟩
  |lst xs=>
   obtain⟨ps,b,c,f⟩:=a (n+1) xs λx e=>ih x (h x e);exact⟨.list ps,by unfold l9;simp[b],by simp[PyData.canLay0,c],by simp only[UK];omega⟩
  |tup xs=>
   obtain⟨ps,b,c,f⟩:=a (n+1) xs λx e=>ih x (h x e);exact⟨.tuple ps,by unfold l9;simp[b],by simp[PyData.canLay0,c],by simp only[UK];omega⟩
  |_=>exact h.elim
theorem vX(n:Nat)(h:plD n d)(hn:n<=60):lF d=Q4:=by
 obtain⟨p,a,b,c⟩:=Lq n d h;unfold lF;simp only[a,VI,b,Wh,R5];omega
end L2.Pu
namespace L2.Pu
open PySem PySem.Spec PyProof.Rows
section
variable{X:Cx}{E:St->XK}{K:RB}{a b:Expr}{es:List Expr}{pos:Vy}
theorem To.none(t:To F H H1 β1)(h:H1 p=QY):H p=QY:=by
 cases q:H p with
 |none=>rfl
 |some o=>
  have:H1 p=on o:=t.kp p o q λb l e=>by
   obtain⟨c,d⟩:=t.fr.bag b l e;exact⟨λw=>(by subst w;rw[c]at h;cases h),λw=>(by subst w;rw[d]at h;cases h)⟩
  rw[this]at h;cases h
noncomputable def Fx.but(F:Fx)(a:Q6):Fx:=⟨λc=>F.A c\/c=a,F.bg⟩
theorem Fx.tr_but{F:Fx}(fr:Fr F H β1)(d:H p=QY)(hs:∀c o,H c=on o->H1 c=on o):Tr F H (F.but p) H1:=⟨λc e f z=>by
 rcases z with z|z
 .exact e z
 .subst z;exact f d,λc o _ h=>hs c o h,rfl⟩
theorem Fx.tr_of{F:Fx}:Tr (F.but p) H F H:=⟨λc h _ z=>h (Tg z),λ_ _ _ h=>h,rfl⟩
def gv(K:RB)(F:Fx)(H0 H:Hp)(ds:List D)(v:V):Prop:=∃a xs,v= .ref a/\H0 a=QY/\H a=on (.lst xs)/\bb K (F.but a) H ds xs
def tVO(K:RB)(f:FL)(E:St->XK):TE:=λc H Q=>∃F δ β,Fr F H β/\ix K F H δ c/\run (gv K F H) F E c (f δ) H Q β
def tVG(K:RB)(f:Dn->M (List (List D)))(E:St->XK):TE:=λc H Q=>∃F δ β,Fr F H β/\ix K F H δ c/\run (v9 K F H) F E c (f δ) H Q β
noncomputable def szL(ds:List D):Option (List D):=if ds.length<=RF then on ds else QY
def Qf(op:List D->Option (List D))(g:FL):FL:=λδ=>M.bind (g δ) λds=>M.ofO (op ds)
theorem gv.new(t:To F H H1 β1)(d:H1 p=QY)(hd:bb K F H1 ds xs):gv K F H (upd H1 p (.lst xs)) ds (.ref p):=
 ⟨p,xs,rfl,t.none d,aq,bb.tr (Fx.tr_but t.fr d λc o h=>by rw[b_ (az h d)];exact h) _ _ hd⟩
def KM(K:RB)(r:List V->Hp->VK->Prop)(op:List D->Option (List D)):Prop:=∀(F:Fx) (H0 H:Hp) (β:Bg) (Q:VK) (ds os:List D) (vs:List V),To F H0 H β->bb K F H ds vs->op ds=on os->
 (∀v c,To F H c β->gv K F H0 c os v->Q v c)->r vs H Q
theorem EK(i:dJ X (.type T) r)(l:KM X.K r op)(j:Gl X x)(hm:X.mg x=QY)(m:U5 x=on (.type T))(ha:PA X (e::es) (i0 X.K g E))(hn:x≠"__name__":=by decide)(c:(x==("__debug__":R3))=Q9:=by decide)
  (n:Rm (e::es) X.env=(Q9,Sw e X.env)::Rm es X.env:=by rfl) (d:(Tx pos (Rm es X.env)).any (·.1)=Q9:=by rfl):PE X (.Call (.Name x p) (e::es) [] pos) (tVO X.K (Qf op g) E):=
 (sE i j hm m ha hn c n d).imp λv H Q f=>ll f λF δ β fr o h=>⟨F,δ,β,fr,o,(run.bind (R:=bb X.K F) h).mono λvs q f=>by
  obtain⟨ds,β1,t,hd,r1⟩:=f;obtain⟨d3,u,k⟩:=run.ofO r1;exact l F H q β1 Q ds d3 vs t hd u k⟩
def Ks:List D->Option (List D)
 |[.lst xs]=>on xs
 |[.tup xs]=>on xs
 |_=>QY
theorem LU:KM K (λxs H Q=>∃p ys,xs=[.ref p]/\(e_ K H p ys\/il K H p ys)/\∀l,H l=QY->Q (.ref l) (upd H l (.lst ys))) Ks:=λF H0 H β Q ds os vs t h e k=>by
 unfold Ks at e;split at e
 .cases e
  obtain⟨v,rfl,g⟩:=bb.one h;obtain⟨a,xs,rfl,r,dl⟩:=cp.sqL g;exact⟨a,xs,rfl,.inl r,λl c=>k _ _ (t.fr.upd _ c) (gv.new t c dl)⟩
 .cases e
  obtain⟨v,rfl,g⟩:=bb.one h;obtain⟨a,xs,rfl,r,dl⟩:=cp.sqT g;exact⟨a,xs,rfl,.inr r,λl c=>k _ _ (t.fr.upd _ c) (gv.new t c dl)⟩
 .cases e
theorem bb.rep(h:bb K F H ds xs):∀n:Nat,bb K F H (Rr n ds).flatten (Rr n xs).flatten
 |0=>rfl
 |n+1=>by
  rw[SN,Ud,SN,Ud];exact bb.append h (bb.rep h n)
noncomputable def uK(ds:List D)(d:D):Option (List D):=match d with
 | .int k=>if(decide (-(2^63)<=k)&&decide (k<2^63)&&decide (ds.length<=RF)&&decide (ds.length*k.toNat<=RF))=Q4 then on (Rr k.toNat ds).flatten else QY
 |_=>QY
def EL(g:FL)(f:FD):FL:=λδ=>M.bind (g δ) λds=>M.bind (M.ofO (szL ds)) λds=>M.bind (f δ) λd=>M.ofO (uK ds d)
theorem Qd(ha:PA X es (i0 X.K g E))(O:PE X b (tV X.K f E)):PE X (.BinOp (.List es pos') .Mult b pos) (tVO X.K (EL g f) E):=
 (dZ Nq (fE ha) O).imp λT H Q j=>ll j λF δ β fr B r=>⟨F,δ,β,fr,B,(run.bind (R:=bb X.K F) r).mono λvs U j=>by
  obtain⟨ds,β1,t,hd,r1⟩:=j;obtain⟨W,n,Y⟩:=run.ofO_bind r1;unfold szL at n;split at n
  .rename_i Z
   cases n;refine⟨by rw[<-hd.length];exact Z,λp I=>?_⟩;have m:=t.fr.upd (.lst vs) I;have J:=t.fr.fresh I;refine⟨F,δ,β1,m.fr,(B.tr (t.tr fr)).tr (m.tr t.fr),?_⟩;obtain⟨L,β2,e,h⟩:=Y;have u:run (gv X.K F H) F E T (M.bind (f δ) λd=>M.ofO (uK ds d)) (upd U p (.lst vs)) Q β1:=by
    refine⟨L,β2,e,?_⟩;cases L with
    |ok d=>exact λv y c=>h v y (m.trans c)
    |error C=>exact λy c=>h y (m.trans c)
   refine(run.bind (R:=cp X.K F) u).mono λw H2 j=>oa j λd β3 c hw r3=>?_;obtain⟨os,i,k⟩:=run.ofO r3;unfold uK at i;split at i
   .split at i
    .rename_i kk o
     cases i;simp only[RZ,R5]at o;cases hw;have A:H2 p=on (.lst vs):=c.kp p _ aq λb l q=>⟨λz=>J (z▸(fr.bgA b l q).1),λz=>J (z▸(fr.bgA b l q).2.1)⟩;have tt:=m.trans c;exact⟨p,_,vs,rfl,rfl,A,o.1.1.1,o.1.1.2,by rw[<-hd.length];exact o.2,λq N=>k _ _ (c.fr.upd _ N) (gv.new (t.trans tt) N ((bb.tr (tt.tr t.fr) _ _ hd).rep _))⟩
    .cases i
   .cases i
  .cases n⟩
def pp(tg:m_)(tt:Dn->M Bool)(b:Dn->M (List (List Pu.D))):List Pu.D->Dn->M (List (List Pu.D))
 |[],_=>M.ret []
 |d::ds,δ=>match tg d δ with
  |none=>M.fail
  |some δ1=>M.bind (tt δ1) λc=>M.bind (if c=Q4 then b δ1 else M.ret []) λo=>M.bind (pp tg tt b ds δ) λos=>M.ret (o++os)
def D2(K:RB)(F:Fx)(D:Q6)(H0 H:Hp)(as:List (List Pu.D))(acc:List V):Prop:=(∀c,H0 c≠QY->H c≠QY)/\∃rs,acc=rs.map V.ref/\(D::rs).Nodup/\d4 K F H (λr=>H0 r=QY) as rs
theorem D2.mono{F:Fx}{D:Q6}(g:F.A D)(i:∀b l,F.bg=on (b,l)->H0 b≠QY/\H0 l≠QY)(fr:Fr F H β)(t:lQ F D H H1 β1)(h:D2 K F D H0 H as acc):D2 K F D H0 H1 as acc:=by
 obtain⟨cv,rs,e,nd,j⟩:=h;refine⟨λc k z=>?_,rs,e,nd,d4.tr (t.tr fr g) j λr xs m p q=>⟨p,t.kp r _ q (λz=>?_) λb l w=>⟨λz=>?_,λz=>?_⟩⟩⟩
 .cases q:H c with
  |none=>exact cv c k q
  |some o=>
   by_cases hd:c=D
   .subst hd;exact t.fr.occ _ g z
   .by_cases d:∃b l,F.bg=on (b,l)/\(c=b\/c=l)
    .obtain⟨b,l,w,f⟩:=d
     rcases f with rfl|rfl
     .exact t.fr.occ _ (fr.bgA _ _ w).1 z
     .exact t.fr.occ _ (fr.bgA _ _ w).2.1 z
    .rw[t.kp c o q hd λb l w=>⟨λy=>d ⟨b,l,w,.inl y⟩,λy=>d ⟨b,l,w,.inr y⟩⟩]at z
     cases z
 .subst z;exact(Sb.mp nd).1 m
 .subst z;exact(i _ _ w).1 p
 .subst z;exact(i _ _ w).2 p
def uh(K:RB)(D:Q6)(i:TB)(f:Dn->M (List (List Pu.D))):Prop:=∀(F:Fx) (H0 H:Hp) (δ:Dn) (β d:Bg) (h:St) (acc:List V) (as os:List (List Pu.D)) (Q:St->Hp->Prop),Fr F H β->F.A D->(∀b l,F.bg=on (b,l)->D≠b/\D≠l)->(∀b l,F.bg=on (b,l)->H0 b≠QY/\H0 l≠QY)->ix K F H δ h->H D=on (.lst acc)->D2 K F D H0 H as acc->
 f δ β=on (.ok os,d)->as.length+os.length<=RF->(∀e g c,lQ F D H g d->ix K F g δ e->g D=on (.lst c)->D2 K F D H0 g (as++os) c->Q e g)->i h H Q
def za(f:Dn->M (List Pu.D)):Dn->M (List (List Pu.D)):=λδ=>M.bind (f δ) λd=>M.ret [d]
theorem d4.snoc{P:Q6->Prop}(p:P r)(c:H r=on (.lst xs))(d:bb K F H ds xs):∀{a_:List (List Pu.D)} {rs:List Q6},d4 K F H P a_ rs->d4 K F H P (a_++[ds]) (rs++[r])
 |[],[],_=>⟨p,⟨xs,c,d⟩,trivial⟩
 |_::_,_::_,h=>⟨h.1,h.2.1,d4.snoc p c d h.2.2⟩
 |[],_::_,h=>h.elim
 |_::_,[],h=>h.elim
theorem LT{D:Q6}:uh K D (y9 D (tVO K f E0)) (za f):=λF H0 H δ β j σ acc as os Q fr m p T U W hd e hz k=>by
 obtain⟨d,β1,e1,e2⟩:=M.bind_inv e;cases e2;refine⟨F,δ,β,fr,U,E0.run e1 λv Y t hv=>?_⟩;have u:=t.kp D _ W p;have A:=hd.mono m T fr (t.toD D);obtain⟨r,xs,rfl,g,n1,n2⟩:=hv;obtain⟨cv,rs,B,nd,Z⟩:=A;obtain⟨C,c,I,J,L⟩:=hd;have i:acc.length=as.length:=by rw[B,QX,Z.len]
 have N:c=rs:=by
  have:c.map V.ref=rs.map V.ref:=I.symm.trans B;exact V0 (λa b q=>by cases q;rfl)|>.mp this
 subst N;have nD:r≠D:=λz=>by subst z;rw[W]at g;cases g
 have nr:r∉c:=λz=>by
  obtain⟨_,ys,q⟩:=L.all r z;rw[q]at g;cases g
 have O:H0 r=QY:=by
  cases q:H0 r with
  |none=>rfl
  |some o=>exact RJ g (C r (by rw[q];simp))
 refine⟨acc,u,by rw[i];simp at hz;omega,?_⟩;have R:lQ F D Y (upd Y D (.lst (acc++[.ref r]))) j:=by
  refine⟨λa o h n _=>by rw[b_ n];exact h,λa h q=>?_,fr.bgA,λb l q=>?_⟩
  .by_cases z:a=D
   .subst z;rw[aq]at q;cases q
   .rw[b_ z]at q;exact t.fr.occ a h q
  .rw[b_ (p b l q).1.symm,b_ (p b l q).2.symm]
   exact t.fr.bag b l q
 have tt:=R.tr t.fr m;refine k σ _ _ ((t.toD D).trans R) (U.tr ((t.tr fr).trans tt)) aq (D2.mono m T t.fr R ⟨cv,c++[r],by rw[B,RU];rfl,?_,d4.snoc O n1 (bb.tr Fx.tr_of _ _ n2) Z⟩);rw[<-Vm,Xv];refine⟨J,by simp,λx hx y hy=>?_⟩;obtain rfl:y=r:=by simpa using hy
 rcases Rq.mp hx with rfl|hx
 .exact nD.symm
 .exact λz=>nr (z▸hx)
end
section
variable{X:Cx}{E:St->XK}{K:RB}
theorem LS{D:Q6}(hg:dH K g tg)(sg:eX tg)(hb:uh K D tb b){F:Fx}{as os:List (List Pu.D)}(fr:Fr F H β)(Z:F.A D)(hn:∀b l,F.bg=on (b,l)->D≠b/\D≠l)(h0:∀b l,F.bg=on (b,l)->H0 b≠QY/\H0 l≠QY)(vk:ix K F H δ σ)(hD:H D=on (.lst acc))(hd:D2 K F D H0 H as acc)
  (it:x0 K J F H ds) (e:pp tg tt b ds δ β=on (.ok os,β')) (hz:as.length+os.length<=RF) (k:∀f n a,lQ F D H n β'->ix K F n δ f->n D=on (.lst a)->D2 K F D H0 n (as++os) a->Q f n):dG J g (iv K tt E0) tb σ H Q:=by
 refine⟨λi m f n=>m+i=ds.length/\∃β1 a j t,lQ F D H n β1/\ix K F n δ f/\n D=on (.lst a)/\D2 K F D H0 n j a/\pp tg tt b (ds.drop i) δ β1=on (.ok t,β')/\j++t=as++os,
  ⟨ds.length,by omega,β,acc,as,os,⟨λ_ _ h _ _=>h,fr⟩,vk,hD,hd,e,rfl⟩,?_⟩
 rintro i m f n ⟨hm,β1,a,j,t,u,B,C,I,r,ea⟩;have tr1:=u.tr fr Z;obtain⟨iy,is⟩:=it F n β1 tr1 u.fr i;cases hi:ds[i]? with
 |none=>
  have hl:ds.length<=i:=Wb.mp hi;rw[S5 hl]at r;cases r;refine .inl ⟨is (by omega),k f n a u B C ?_⟩;rw[<-ea,RX];exact I
 |some d=>
  have hl:i<ds.length:=(Rj.mp hi).1;obtain⟨go,yl⟩:=iy d hi;have ed:ds.drop i=d::ds.drop (i+1):=by
   rw[R7 hl];congr 1;exact RO ((Q2 hl).symm.trans hi)
  rw[ed]at r;unfold pp at r;cases q:tg d δ with
  |none=>rw[q]at r;cases r
  |some δ1=>
   rw[q]at r;obtain⟨c,β2,e2,e3⟩:=M.bind_inv r;obtain⟨o,β3,e4,e5⟩:=M.bind_inv e3;obtain⟨L,β4,e6,e7⟩:=M.bind_inv e5;cases e7;obtain⟨s1,s2⟩:=sg _ _ _ q;refine .inr ⟨go,λN O=>∃p,lQ F D H O β3/\ix K F O δ N/\O D=on (.lst p)/\D2 K F D H0 O (j++o) p,?_,λx H2 hy=>?_⟩
   .rintro N O ⟨p,t9,vk9,hD9,hd9⟩
    exact⟨m-1,by omega,by omega,β3,p,j++o,L,t9,vk9,hD9,hd9,e6,by rw[Sm];exact ea⟩
   .obtain⟨sm,dx⟩:=yl x H2 hy
    have y:To F n H2 β1:=u.fr.same sm;have tr2:=y.tr u.fr;refine hg F H2 δ δ1 f d x _ (B.tr tr2) dx q λσ2 v=>⟨F,δ1,β1,y.fr,v,E0.run e2 λc' H3 R ec=>?_⟩;subst ec;have hD2:=sm _ _ C;have T:=R.kp D _ hD2 hn;have U:=R.tr y.fr;have d3:=(I.mono Z h0 u.fr (y.toD D)).mono Z h0 y.fr (R.toD D);have W:lQ F D H H3 β2:=u.trans ((y.trans R).toD D);have hle:j.length+(o++L).length<=RF:=by
     have:=R9 XJ ea;simp only[Ro]at this⊢;omega
    cases c' with
    |true=>
     rw[Rb rfl]at e4⊢;refine hb F H0 H3 δ1 β2 β3 σ2 a j o _ R.fr Z hn h0 (v.tr U) T d3 e4 (by rw[Ro]at hle;omega) λσ4 H4 Y t4 vk4 hD4 hd4=>?_;exact⟨Y,W.trans t4,vk4.sub s1 s2,hD4,hd4⟩
    |false=>
     rw[Q8 Ri]at e4⊢;cases e4;exact⟨a,W,(v.tr U).sub s1 s2,T,by rw[RX];exact d3⟩
def mU(nv:Nat)(cw:List Nat)(it:Dn->M (List Pu.D))(tg:m_)(tt:Dn->M Bool)(b:Dn->M (List (List Pu.D))):Dn->M (List (List Pu.D)):=λδ β=>match it δ β with
 |none=>QY
 |some (.error C,β1)=>on (.error C,β1)
 |some (.ok ds,β1)=>match pp tg tt b ds (lK nv cw δ) β1 with
  |some (.ok os,β2)=>if os.length<=RF then on (.ok os,β2)else QY
  |_=>QY
theorem zx{c_:List R3}{cw:List Nat}{it:Dn->M (List Pu.D)}{g:TG}{tg:m_}{tt:Dn->M Bool}{I:Q6->TB}{b:Dn->M (List (List Pu.D))}(U:dH K g tg)(W:eX tg)(Y:∀D,uh K D (I D) b){L:St}{H:Hp}{Q:VK}(h:tVG K (mU c_.length cw it tg tt b) E L H Q):
  tM c_ cw (iV K it E) (λD J=>dG J g (iv K tt E0) (I D)) L H Q:=by
 obtain⟨F,δ,β,fr,N,r,k,e,h⟩:=h;unfold mU at e;refine⟨F,δ,β,fr,N,?_⟩;split at e
 .cases e
 .rename_i C β1 q
  cases e;exact⟨.error C,_,q,h⟩
 .rename_i ds β1 q
  split at e
  .rename_i os β2 q2
   split at e
   .rename_i Z
    cases e;refine⟨.ok ds,β1,q,λJ f t hJ D d=>?_⟩;have i:¬F.A D:=t.fr.fresh d;have nb:∀b l,F.bg=on (b,l)->D≠b/\D≠l:=λb l z=>⟨λw=>i (w▸(fr.bgA b l z).1),λw=>i (w▸(fr.bgA b l z).2.1)⟩;have O:=t.fr.upd (.lst []) d;have m:Fr ⟨λa=>F.A a\/a=D,F.bg⟩ (upd f D (.lst [])) β1:=by
     refine⟨λa ha z=>?_,λb l z=>let ⟨x,y,w⟩:=fr.bgA b l z;⟨.inl x,.inl y,w⟩,O.fr.bag⟩
     rcases ha with ha|ha
     .exact O.fr.occ a ha z
     .subst ha;rw[aq]at z;cases z
    have j:Tr F f ⟨λa=>F.A a\/a=D,F.bg⟩ (upd f D (.lst [])):=⟨λa ha hs z=>by
     rcases z with z|z
     .exact ha z
     .subst z;exact hs d,λa o ha z=>by rw[b_ (az z d)];exact z,rfl⟩
    have cv:∀c,H c≠QY->upd f D (.lst []) c≠QY:=λc hc z=>by
     by_cases w:c=D
     .subst w;rw[aq]at z;cases z
     .rw[b_ w]at z;exact hc (t.none z)
    refine LS (D:=D) (H0:=H) (as:=[]) (os:=os) U W (Y D) m (.inr rfl) nb (λb l z=>⟨fr.occ _ (fr.bgA b l z).1,fr.occ _ (fr.bgA b l z).2.1⟩) (vZ (N.tr ((t.tr fr).trans j))) aq ⟨cv,[],rfl,by simp,trivial⟩ (hJ.tr j) q2 (by simpa using Z) λσ1 R T u vk3 v B=>?_;have tf:To F f R k:=by
     refine⟨λa o z n=>u.kp a o (by rw[b_ (az z d)];exact z) (az z d) n,λa ha z=>u.fr.occ a (Tg ha) z,fr.bgA,u.fr.bag⟩
    obtain⟨_,rs,ea,nd,rl⟩:=B;subst ea;exact h _ R (t.trans tf) ⟨D,rs,rfl,t.none d,v,nd,d4.tr (F:=⟨λa=>F.A a\/a=D,F.bg⟩) ⟨λa ha _ z=>ha (Tg z),λa o _ z=>z,rfl⟩ rl λr xs _ p q=>⟨p,q⟩⟩
   .cases e
  .cases e
section
variable{elt cx iter:Expr}{ifs:List Expr}{rest:List S7}{scope:Scope}{pos:Vy}{Nc c_:List R3}{cw:List Nat}{g:TG}{tb:Q6->TB}
end
mutual
noncomputable def noL:D->Bool
 | .int _=>Q4
 | .bl _=>Q4
 | .str _=>Q4
 | .non=>Q4
 | .tup ds=>noLs ds
 |_=>Q9
noncomputable def noLs:List D->Bool
 |[]=>Q4
 |d::ds=>noL d&&noLs ds
end
mutual
theorem w6{F b:Fx}(hF:∀c,b.A c->F.A c\/∃xs,H c=on (.lst xs)):∀(d:D) (v:V),noL d=Q4->cp K F H d v->cp K b H d v
 | .int i,v,_,h=>h
 | .bl i,v,_,h=>h
 | .str i,v,_,h=>h
 | .non,v,_,h=>h
 | .tup ds,v,n,h=>by
  obtain⟨a,xs,e,h1,f⟩:=h;refine⟨a,xs,e,?_,noLs_den hF ds xs (by simpa[noL]using n) f⟩;rcases h1 with⟨h1,r⟩|h1
  .refine .inl ⟨λz=>?_,r⟩
   rcases hF a z with z|⟨ys,z⟩
   .exact h1 z
   .rcases r with r|⟨o,r⟩<;>rw[z]at r<;>cases r
  .exact .inr h1
 | .lst _,_,n,_=>by simp[noL]at n
 | .scr _,_,n,_=>by simp[noL]at n
 | .ty _,_,n,_=>by simp[noL]at n
 | .txt,_,n,_=>by simp[noL]at n
 | .obj _ _ _,_,n,_=>by simp[noL]at n
 | .bag,_,n,_=>by simp[noL]at n
 | .adr _,_,n,_=>by simp[noL]at n
 | .dct _ _ _,_,n,_=>by simp[noL]at n
theorem noLs_den{F a:Fx}(hF:∀c,a.A c->F.A c\/∃xs,H c=on (.lst xs)):∀(ds:List D) (xs:List V),noLs ds=Q4->bb K F H ds xs->bb K a H ds xs
 |[],xs,_,h=>h
 |d::ds,xs,n,h=>by
  have b:noL d=Q4/\noLs ds=Q4:=by simpa[noLs]using n
  obtain⟨x,f,e,g,i⟩:=h;exact⟨x,f,e,w6 hF d x b.1 g,noLs_den hF ds f b.2 i⟩
end
theorem d4.noL{F b:Fx}{P d:Q6->Prop}(hF:∀c,b.A c->F.A c\/∃xs,H c=on (.lst xs)):∀{a_:List (List D)} {rs:List Q6},(∀ds∈a_,noLs ds=Q4)->d4 K F H P a_ rs->(∀r∈rs,d r)->d4 K b H d a_ rs
 |[],[],_,_,_=>trivial
 |ds::a_,r::rs,n,h,p=>by
  obtain⟨i,⟨xs,e,f⟩,g⟩:=h;exact⟨p r Q7,⟨xs,e,noLs_den hF _ _ (n ds Q7) f⟩,d4.noL hF (λx a=>n x (Q1 _ a)) g λx a=>p x (Q1 _ a)⟩
 |[],_::_,_,h,_=>h.elim
 |_::_,[],_,h,_=>h.elim
theorem fw.newGrd{δ:Ds}{W:St}(ok:fw K H₀ B bg H δ β W)(t:To (eg B bg) H H' β')(hn:∀ds∈a_,noLs ds=Q4)(hv:v9 K (eg B bg) H H' a_ v):
  ∃X,fw K H₀ X bg H' (δ.set i (on (.grd a_))) β' (W.set i (on v))/\hE B H X H':=by
 classical
 obtain⟨a,rs,rfl,n0,L,nd,I⟩:=hv;have g:∀c,c=a\/c∈rs->H c=QY:=λc hc=>by
  rcases hc with rfl|hc
  .exact n0
  .exact(I.all c hc).1
 have hB:∀c,c=a\/c∈rs->B c=QY:=λc hc=>UG λz=>ok.fr.occ c z (g c hc);have Y:∀b l,bg=on (b,l)->¬(b=a\/b∈rs)/\¬(l=a\/l∈rs):=λb l e=>by
  obtain⟨b1,b2⟩:=ok.bgt b l e;exact⟨λz=>(by rw[hB b z]at b1;cases b1),λz=>(by rw[hB l z]at b2;cases b2)⟩
 obtain⟨m,Z⟩:=ok.to rfl t;have J:hE B H (λc=>if c=a\/c∈rs then on (i+2)else B c) H':=by
  refine⟨Z.kp,λc hc=>?_,λc o h n=>?_,Z.al⟩
  .have:¬(c=a\/c∈rs):=λz=>by rw[hB c z]at hc;rcases hc with hc|hc<;>cases hc
   simp only[Q8 this]
  .have:¬(c=a\/c∈rs):=λz=>by rw[g c z]at h;cases h
   simp only[Q8 this];exact n
 have tr:Tr (eg B bg) H (eg (λc=>if c=a\/c∈rs then on (i+2)else B c) bg) H':=J.tr;refine⟨λc=>if c=a\/c∈rs then on (i+2)else B c,⟨⟨λc hc z=>?_,λb l e=>?_,m.fr.bag⟩,λb l e=>?_,by rw[RV,RV,ok.len],m.cov,λc k hc=>(by
  have f:(if c=a\/c∈rs then on (i+2)else B c)=on (k+2):=hc;by_cases z:c=a\/c∈rs
  .cases w:H₀ c with
   |none=>rfl
   |some o=>exact RJ (g c z) (ok.cov c (by rw[w];simp))
  .rw[Q8 z]at f;exact ok.new c k f),λc k hc=>(by
  have f:(if c=a\/c∈rs then on (i+2)else B c)=on (k+2):=hc;by_cases z:c=a\/c∈rs
  .rcases z with rfl|z
   .exact⟨_,L⟩
   .exact(I.all c z).2
  .rw[Q8 z]at f;exact m.lst c k f),λj s e=>?_⟩,J⟩
 .by_cases q:c=a\/c∈rs
  .rcases q with rfl|q
   .rw[L]at z;cases z
   .obtain⟨_,xs,w⟩:=I.all c q
    rw[w]at z;cases z
  .have f:(if c=a\/c∈rs then on (i+2)else B c)≠QY:=hc
   rw[Q8 q]at f;exact m.fr.occ c f z
 .obtain⟨O,Q⟩:=Y b l e
  obtain⟨b1,b2⟩:=ok.bgt b l e;refine⟨?_,?_,(ok.fr.bgA b l e).2.2⟩
  .show(if b=a\/b∈rs then on (i+2)else B b)≠QY
   rw[Q8 O,b1];simp
  .show(if l=a\/l∈rs then on (i+2)else B l)≠QY
   rw[Q8 Q,b2];simp
 .obtain⟨O,Q⟩:=Y b l e
  simp only[Q8 O,Q8 Q];exact ok.bgt b l e
 .rw[R4]at e
  rw[R4];by_cases q:i=j
  .subst q
   rw[Rb rfl]at e⊢;split at e
   .rename_i hl
    cases e;rw[Rb (by rw[<-ok.len];exact hl)];refine⟨_,rfl,a,rs,rfl,Rb (.inl rfl),L,nd,d4.noL (F:=eg B bg) (λc hc=>?_) hn I λr hr=>Rb (.inr hr)⟩;have f:(if c=a\/c∈rs then on (i+2)else B c)≠QY:=hc;by_cases w:c=a\/c∈rs
    .rcases w with rfl|w
     .exact .inr ⟨_,L⟩
     .exact .inr (I.all c w).2
    .rw[Q8 w]at f
     exact .inl f
   .cases e
  .rw[Q8 q]at e⊢
   obtain⟨w,R,u⟩:=ok.tell j s e;refine⟨w,R,?_⟩;cases s with
   |sh d=>exact cp.tr tr _ _ u
   |own cs=>
    obtain⟨c,ys,T,A,C,U⟩:=u;have N:¬(c=a\/c∈rs):=λz=>by rw[g c z]at C;cases C
    exact⟨c,ys,T,by simp only[Q8 N];exact A,t.kp c _ C (λb l z=>⟨λy=>(by subst y;rw[(ok.bgt _ _ z).1]at A;cases A),λy=>(by subst y;rw[(ok.bgt _ _ z).2]at A;cases A)⟩),bb.tr tr _ _ U⟩
   |grd rows2=>
    obtain⟨c,qs,T,A,C,U,e5⟩:=u;have N:∀c,H c≠QY->¬(c=a\/c∈rs):=λc hc z=>hc (g c z);have kk:∀c o,H c=on o->B c=on (j+2)->H' c=on o:=λc o R u=>t.kp c o R (λb l z=>⟨λy=>(by subst y;rw[(ok.bgt _ _ z).1]at u;cases u),λy=>(by subst y;rw[(ok.bgt _ _ z).2]at u;cases u)⟩);exact⟨c,qs,T,by simp only[Q8 (N c (by rw[C];simp))];exact A,kk c _ C A,U,d4.tr tr e5 λr xs _ p y=>⟨by simp only[Q8 (N r (by rw[y];simp))];exact p,kk r _ y p⟩⟩
end
section
variable{X:Cx}{E:St->XK}{K:RB}{st:Sy}{H₀:Hp}{B:Ow}{bg:Option (Q6×Q6)}{H H':Hp}{δ:Ds}{β β':Bg}{σ:St}
theorem fw.newOwnE(ok:fw K H₀ B bg H δ β σ)(t:To (eg B bg) H H' β')(hv:gv K (eg B bg) H H' ds v):
  ∃W,fw K H₀ W bg H' (δ.set i (on (.own ds))) β' (σ.set i (on v))/\hE B H W H':=by
 classical
 obtain⟨a,xs,rfl,F,I,dl⟩:=hv;have hB:B a=QY:=UG λz=>ok.fr.occ a z F;have Y:∀b l,bg=on (b,l)->b≠a/\l≠a:=λb l e=>by
  obtain⟨b1,b2⟩:=ok.bgt b l e;exact⟨λz=>(by rw[z,hB]at b1;cases b1),λz=>(by rw[z,hB]at b2;cases b2)⟩
 obtain⟨g,Z⟩:=ok.to rfl t;have u:hE B H (λc=>if c=a then on (i+2)else B c) H':=by
  refine⟨Z.kp,λc hc=>?_,λc o h n=>?_,Z.al⟩
  .have:c≠a:=λz=>by rw[z,hB]at hc;rcases hc with hc|hc<;>cases hc
   simp only[Q8 this]
  .have:c≠a:=λz=>by rw[z,F]at h;cases h
   simp only[Q8 this];exact n
 have tr:Tr (eg B bg) H (eg (λc=>if c=a then on (i+2)else B c) bg) H':=u.tr;refine⟨λc=>if c=a then on (i+2)else B c,⟨⟨λc hc z=>?_,λb l e=>?_,g.fr.bag⟩,λb l e=>?_,by rw[RV,RV,ok.len],g.cov,λc k hc=>(by
  have f:(if c=a then on (i+2)else B c)=on (k+2):=hc;by_cases z:c=a
  .cases w:H₀ c with
   |none=>rfl
   |some o=>exact RJ (z▸F) (ok.cov c (by rw[w];simp))
  .rw[Q8 z]at f;exact ok.new c k f),λc k hc=>(by
  have f:(if c=a then on (i+2)else B c)=on (k+2):=hc;by_cases z:c=a
  .subst z;exact⟨xs,I⟩
  .rw[Q8 z]at f;exact g.lst c k f),λj s e=>?_⟩,u⟩
 .by_cases q:c=a
  .subst q;rw[I]at z;cases z
  .have f:(if c=a then on (i+2)else B c)≠QY:=hc
   rw[Q8 q]at f;exact g.fr.occ c f z
 .obtain⟨J,L⟩:=Y b l e
  obtain⟨b1,b2⟩:=ok.bgt b l e;refine⟨?_,?_,(ok.fr.bgA b l e).2.2⟩
  .show(if b=a then on (i+2)else B b)≠QY
   rw[Q8 J,b1];simp
  .show(if l=a then on (i+2)else B l)≠QY
   rw[Q8 L,b2];simp
 .obtain⟨J,L⟩:=Y b l e
  simp only[Q8 J,Q8 L];exact ok.bgt b l e
 .rw[R4]at e
  rw[R4];by_cases q:i=j
  .subst q
   rw[Rb rfl]at e⊢;split at e
   .rename_i hl
    cases e;rw[Rb (by rw[<-ok.len];exact hl)];have N:Tr ((eg B bg).but a) H' (eg (λc=>if c=a then on (i+2)else B c) bg) H':=⟨λc h _ z=>h (by
     have f:(if c=a then on (i+2)else B c)≠QY:=z;by_cases w:c=a
     .exact .inr w
     .rw[Q8 w]at f
      exact .inl f),λ_ _ _ h=>h,rfl⟩
    exact⟨_,rfl,a,xs,rfl,Rb rfl,I,bb.tr N _ _ dl⟩
   .cases e
  .rw[Q8 q]at e⊢
   obtain⟨w,O,m⟩:=ok.tell j s e;refine⟨w,O,?_⟩;have Q:∀c,H c≠QY->c≠a:=λc hc z=>hc (z▸F);have R:∀c o,H c=on o->B c=on (j+2)->H' c=on o:=λc o O m=>t.kp c o O (λb l z=>⟨λy=>(by subst y;rw[(ok.bgt _ _ z).1]at m;cases m),λy=>(by subst y;rw[(ok.bgt _ _ z).2]at m;cases m)⟩);cases s with
   |sh d=>exact cp.tr tr _ _ m
   |own cs=>
    obtain⟨c,ys,T,A,C,U⟩:=m;exact⟨c,ys,T,by simp only[Q8 (Q c (by rw[C];simp))];exact A,R c _ C A,bb.tr tr _ _ U⟩
   |grd rows2=>
    obtain⟨c,qs,T,A,C,U,e5⟩:=m;exact⟨c,qs,T,by simp only[Q8 (Q c (by rw[C];simp))];exact A,R c _ C A,U,d4.tr tr e5 λr xs _ p y=>⟨by simp only[Q8 (Q r (by rw[y];simp))];exact p,R r _ y p⟩⟩
def t8(i:Nat)(f:FL):G:=λδ β=>match f (vw δ) β with
 |some (.ok ds,β1)=>on (.nx (δ.set i (on (.own ds))),β1)
 |some (.error C,β1)=>on (.ex C δ,β1)
 |none=>QY
theorem MU(h:PS X st (h9 (tVO X.K f E) (fi i))):PS X st (tG X.K X.H₀ (t8 i f) E):=h.imp λD σ H d=>by
 obtain⟨B,bg,δ,β,o,β',ok,e,q⟩:=d;refine⟨eg B bg,vw δ,β,ok.fr,ok.view,?_⟩;unfold t8 at e;split at e
 .rename_i ds β1 b
  cases e;refine⟨.ok ds,_,b,λv H' t hd=>?_⟩;obtain⟨g,a,c⟩:=ok.newOwnE (i:=i) t hd;exact q _ _ _ c a
 .rename_i C β1 b
  cases e;refine⟨.error C,_,b,λH' t=>?_⟩;obtain⟨a,c⟩:=ok.to rfl t;exact q _ B H' c a
 .cases e
def vD(i:Nat)(f:Dn->M (List (List D))):G:=λδ β=>match f (vw δ) β with
 |some (.ok a_,β1)=>if(a_.all noLs)=Q4 then on (.nx (δ.set i (on (.grd a_))),β1)else QY
 |some (.error C,β1)=>on (.ex C δ,β1)
 |none=>QY
theorem PY(h:PS X st (h9 (tVG X.K f E) (fi i))):PS X st (tG X.K X.H₀ (vD i f) E):=h.imp λD σ H g=>by
 obtain⟨B,bg,δ,β,o,β',ok,e,q⟩:=g;refine⟨eg B bg,vw δ,β,ok.fr,ok.view,?_⟩;unfold vD at e;split at e
 .rename_i a_ β1 b
  split at e
  .rename_i hn
   cases e;refine⟨.ok a_,_,b,λv H' t hd=>?_⟩;obtain⟨j,a,c⟩:=ok.newGrd (i:=i) t (λds d=>Vl.mp hn ds d) hd;exact q _ _ _ c a
  .cases e
 .rename_i C β1 b
  cases e;refine⟨.error C,_,b,λH' t=>?_⟩;obtain⟨a,c⟩:=ok.to rfl t;exact q _ B H' c a
 .cases e
theorem d4.put{H:Hp}{P:Q6->Prop}(t:Tr F H F (upd H r (.lst xs)))(hd:bb K F (upd H r (.lst xs)) ds xs):∀{a_:List (List D)} {rs:List Q6} (j:Nat),d4 K F H P a_ rs->rs.Nodup->rs[j]?=on r->d4 K F (upd H r (.lst xs)) P (a_.set j ds) rs
 |d0::a_,r0::rs,0,h,nd,e=>by
  obtain rfl:r0=r:=by simpa using e
  have ne:∀a∈rs,a≠r0:=λa b z=>(Sb.mp nd).1 (z▸b);exact⟨h.1,⟨xs,aq,hd⟩,d4.tr t h.2.2 λa ys b p q=>⟨p,by rw[b_ (ne a b)];exact q⟩⟩
 |d0::a_,r0::rs,j+1,h,nd,e=>by
  have c:rs[j]?=on r:=by simpa using e
  obtain⟨d,⟨ys,f,g⟩,i⟩:=h;have ne:r0≠r:=λz=>(Sb.mp nd).1 (z▸RK c);exact⟨d,⟨ys,by rw[b_ ne];exact f,bb.tr t _ _ g⟩,d4.put t hd j i (Sb.mp nd).2 c⟩
 |[],[],_,_,_,e=>by simp at e
 |[],_::_,_,h,_,_=>h.elim
 |_::_,[],_,h,_,_=>h.elim
theorem d4.at{H:Hp}{P:Q6->Prop}:∀{a_:List (List D)} {rs:List Q6} {j:Nat} {ds:List D},d4 K F H P a_ rs->a_[j]?=on ds->∃r xs,rs[j]?=on r/\P r/\H r=on (.lst xs)/\bb K F H ds xs
 |d0::a_,r0::rs,0,ds,h,e=>by
  obtain rfl:d0=ds:=by simpa using e
  obtain⟨a,⟨ys,b,c⟩,g⟩:=h;exact⟨r0,ys,rfl,a,b,c⟩
 |d0::a_,r0::rs,j+1,ds,h,e=>by
  obtain⟨r,xs,d,f⟩:=d4.at h.2.2 (j:=j) (ds:=ds) (by simpa using e);exact⟨r,xs,by simpa using d,f⟩
 |[],[],_,_,_,e=>by simp at e
 |[],_::_,_,_,h,_=>h.elim
 |_::_,[],_,_,h,_=>h.elim
theorem fw.writeRow{rs:List Q6}{a_:List (List D)}(ok:fw K H₀ B bg H δ β σ)(hs:σ[i]?=on (on (.ref a)))(hB:B a=on (i+2))(ha:H a=on (.lst (rs.map V.ref)))(nd:(a::rs).Nodup)(L:d4 K (eg B bg) H (λr=>B r=on (i+2)) a_ rs)(N:rs[j]?=on r)(U:H r=on (.lst ys))(hd:bb K (eg B bg) H ds xs):
  fw K H₀ B bg (upd H r (.lst xs)) (δ.set i (on (.grd (a_.set j ds)))) β σ/\hE B H B (upd H r (.lst xs)):=by
 have t:r∈rs:=RK N;have f:B r=on (i+2):=(L.all r t).1;have m:hE B H B (upd H r (.lst xs)):=by
  refine⟨λc o h n=>?_,λ_ _=>rfl,λ_ _ _ n=>n,λc u=>?_⟩
  .rw[b_]
   .exact h
   .intro z;subst z;rw[f]at n;rcases n with n|n<;>cases n
  .by_cases z:c=r
   .subst z;rw[aq];simp
   .rw[b_ z];exact u
 have tr:Tr (eg B bg) H (eg B bg) (upd H r (.lst xs)):=m.tr;refine⟨⟨⟨λc u z=>?_,ok.fr.bgA,λb l e=>?_⟩,ok.bgt,by rw[RV,ok.len],λa ha=>m.al a (ok.cov a ha),ok.new,λc k u=>(by
  by_cases z:c=r
  .subst z;exact⟨xs,aq⟩
  .rw[b_ z];exact ok.lst c k u),λk s e=>?_⟩,m⟩
 .by_cases q:c=r
  .subst q;rw[aq]at z;cases z
  .rw[b_ q]at z;exact ok.fr.occ c u z
 .obtain⟨b1,b2⟩:=ok.bgt b l e
  rw[b_ (λz=>by subst z;rw[f]at b1;cases b1),b_ (λz=>by subst z;rw[f]at b2;cases b2)];exact ok.fr.bag b l e
 .rw[R4]at e
  by_cases q:i=k
  .subst q
   rw[Rb rfl]at e;split at e
   .cases e
    have y:a≠r:=λz=>(Sb.mp nd).1 (z▸t);exact⟨_,hs,a,rs,rfl,hB,by rw[b_ y];exact ha,nd,d4.put tr (bb.tr tr _ _ hd) j L (Sb.mp nd).2 N⟩
   .cases e
  .rw[Q8 q]at e
   obtain⟨v,Q,A⟩:=ok.tell k s e;refine⟨v,Q,?_⟩;have C:∀c,B c=on (k+2)->c≠r:=λc g z=>by subst z;rw[f]at g;cases g;exact q rfl
   cases s with
   |sh d=>exact cp.tr tr _ _ A
   |own cs=>
    obtain⟨c,O,F,g,I,J⟩:=A;exact⟨c,O,F,g,by rw[b_ (C c g)];exact I,bb.tr tr _ _ J⟩
   |grd rows2=>
    obtain⟨c,R,F,g,I,J,T⟩:=A;exact⟨c,R,F,g,by rw[b_ (C c g)];exact I,J,d4.tr tr T λr O _ p q=>⟨p,by rw[b_ (C r p)];exact q⟩⟩
variable{P:RT}{w:R8}{mg:R3->Option Ra}{base:SE}
variable{e:Expr}{es:List Expr}{pos p:Vy}{x:R3}{k n:Nat}{f:Q6}{fd:RG}{ps:List R3}
variable{elt cx iter:Expr}{ifs:List Expr}{rest:List S7}{scope:Scope}{Nc c_:List R3}{cw:List Nat}{g:TG}{tb:Q6->TB}
theorem MX{x:R3}{a c:Vy}(m:X.N.Nodup)(d:X.N[i]?=on x)(o:y4 X.env.scope x)(q:X.calm=Q4)(S:dk X scope Nc c_ cw)(r:PI X cx iter (iV X.K it E))
  (t:∀(cl:List (R3×Q6)) (C:Q6) (l:List Q6) (s:Rg) (H:Hp),PG (aP X Nc scope cl C l s H) cx g/\eA (aP X Nc scope cl C l s H) ifs (iv X.K tt E0)/\∀D,PB (aP X Nc scope cl C l s H) elt (⟨cx,iter,ifs,0⟩::rest) scope pos 0 D (tb D))
  (u:dH X.K g tg) (v:eX tg) (y:∀D,uh X.K D (tb D) b)
  (j:VM (.ListComp elt (⟨cx,iter,ifs,0⟩::rest) scope pos) (on (.Name x a)) c.line X.env=T0 Q4:=by rfl)
  (hs:∀x,Su iter X.env x=T0 x:=by intro _;rfl) (A:X.fn x=Q4\/X.env.scope.names.lookup x=on .local:=by first|exact .inl rfl|exact .inr rfl|assumption):
  PS X (.Assign [.Name x a] (.ListComp elt (⟨cx,iter,ifs,0⟩::rest) scope pos) c) (tG X.K X.H₀ (vD i (mU c_.length cw it tg tt b)) E):=
 PY ((wT m d o q S r t j hs A).imp λD σ H h=>zx u v y h)
end
end L2.Pu
namespace L2
open PySem PySem.Spec PyProof.Rows
section
variable{X:Cx}
theorem GI{bs:List Bool}{its:List Ra}(r:au (bs.map V.bl) its){i:Nat}{v:Ra}(h:its.toArray[i]?=on v):v= .bool (bs.getD i Q9):=by
 have h':its[i]?=on v:=by simpa using h
 have a:=r.length;rw[QX]at a;have b:i<bs.length:=by rw[a];exact(Rj.mp h').1
 obtain⟨u,c,d⟩:=r.get (i:=i) (x:=V.bl bs[i]) (by rw[Q5,Q2 b];rfl);rw[h']at c;cases c;rw[QZ,Q2 b];exact d
theorem zW{α:Type}(f:Bool->Bool)(bs:List Bool):(Re bs.length).map (λi=>bs.getD i Q9)=bs:=by
 apply List.ext_getElem?;intro i;rw[Q5];by_cases h:i<bs.length
 .rw[Se h,Q2 h]
  simp[QZ,Q2 h]
 .rw[Vk (by simpa using h),Vk (by omega)];rfl
theorem zX(bs:List Bool):((Re bs.length).any λi=>bs.getD i Q9)=bs.any id:=by
 conv=>rhs;rw[<-zW (α:=Bool) id bs]
 rw[YR];rfl
theorem fZ(l:X.calm=Q4):dJ X (.builtin "any") (λxs H Q=>∃(a:Q6) (bs:List Bool),xs=[.ref a]/\e_ X.K H a (bs.map V.bl)/\Q (.bl (bs.any id)) H):=by
 intro j s B H xs us Q I r h;obtain⟨a,bs,rfl,m,q⟩:=h;cases r with
 |cons r1 n=>
  cases r1;cases n;obtain⟨its,k,p,C⟩:=I.list m;have f:=p.isList;have c:its.toArray.size=bs.length:=by rw[Rx,<-k.length,QX]
  have d:∀b o,s.heap.get? b=on o->b≠s.heap.objs.size:=λb o e z=>by
   rw[z,Zl (Rf _)]at e;cases e
  have g:a≠s.heap.objs.size:=by
   obtain⟨o,e,_⟩:=f;exact d a o e
  have W:=Walks.list (prog:=X.prog) (w:=X.w) (A:=X.A.in1) (show X.A.in1.handled=QY from I.ok.hd l) s.heap.objs.size a g its.toArray;refine call_any_walk (WK f ⟨s.heap.objs.size,[s.heap.objs.size,a],[s.heap.objs.size],its.toArray.size,_,_,λi=>bs.getD i Q9,rfl,W,⟨⟨_,Rw s.heap rfl,rfl,rfl⟩,f.push _⟩,λi v s' F J t u=>?_,λh' L y=>?_⟩)
  .rw[GI k t]
   exact SL u
  .rw[c,zX]
   exact⟨.bl (bs.any id),H,I.kept λb o e=>y b o (λz=>d b o e (by simpa using z)) (Q3 _ e),rfl,q⟩
end
end L2
namespace L2.Pu
open PySem PySem.Spec PyProof.Rows
noncomputable def dS:List D->Option (List Bool)
 |[]=>on []
 | .bl b::r=>(dS r).map (b::·)
 |_=>QY
theorem oI{K:RB}:∀{ds:List D} {xs:List V} {bs:List Bool},dS ds=on bs->bb K F H ds xs->xs=bs.map V.bl
 |[],xs,bs,e,h=>by
  cases e;cases h;rfl
 |d::ds,xs,bs,e,h=>by
  obtain⟨x,f,rfl,a,c⟩:=h;cases d<;>first
   |(rename_i b
     cases q:dS ds with
     |none=>simp[dS,q]at e
     |some r=>
     simp[dS,q]at e;subst e;cases a.bl;rw[oI q c];rfl)
   |simp[dS]at e
def v6:List D->Option D
 |[.lst ds]=>(dS ds).map λbs=> .bl (bs.any id)
 |_=>QY
variable{K:RB}
theorem nW:fQ K (λxs H Q=>∃(a:Q6) (bs:List Bool),xs=[.ref a]/\e_ K H a (bs.map V.bl)/\Q (.bl (bs.any id)) H) v6:=λF H β Q ds d vs fr h e k=>by
 unfold v6 at e;split at e
 .obtain⟨v,rfl,g⟩:=bb.one h
  obtain⟨a,xs,rfl,r,dl⟩:=cp.sqL g;obtain⟨bs,q,e⟩:=WB.mp e;subst e;rw[oI q dl]at r;exact⟨a,bs,rfl,r,k _ H (To.refl fr) rfl⟩
 .cases e
end L2.Pu
namespace L2
open PySem PySem.Spec PyProof.Rows
section
variable{X:Cx}{a b c d:Expr}{ta tb tc td:TE}{pos:Vy}
def PP(i e:R2)(tc td:TE)(y:V):TE:=λf H Q=>tc f H λw j=>i y w j λk g=>∃h,k= .bl h/\(if h=Q4 then td f g λl m=>e w l m Q else Q (.bl Q9) g)
def wA(r h e:R2)(ta tb tc td:TE):TE:=λf H Q=>ta f H λx i=>tb f i λy j=>r x y j λz g=>∃k,z= .bl k/\(if k=Q4 then PP h e tc td y f g Q else Q (.bl Q9) g)
theorem z0(J:fx X (SH op) r)(l:fx X (SH op') r')(i:fx X (SH op'') r'')(ha:PE X a ta)(L:PE X b tb)(N:PE X c tc)(hd:PE X d td)
  (hm:Z6 [op,op',op''] [b,c,d]=Q9:=by with_unfolding_all rfl):PT X (.Compare a [op,op',op''] [b,c,d] pos) (xV (wA r r' r'' ta tb tc td)):=by
 intro f s g H Q I h;refine isTrue_chain (ee (ha f s g H _ I h) λv O ⟨x,R,T,r1,q1⟩=>test_link (ee (L f O g R _ T q1) λu U ⟨y,W,Y,o,q2⟩=>
  ee (J f U g W x y v u _ Y r1 o q2) λZ s3 ⟨z,p,q,r3,k,e,q3⟩=>?_)) hm
 subst e;cases r3;refine SL ?_;cases k with
 |false=>
  obtain⟨m,j,n⟩:=q3;cases j;exact ite_ff ⟨p,q,n⟩
 |true=>
  refine ite_tt (test_link (ee (N f s3 g p _ q q3) λt s4 ⟨A,H4,I4,B,q4⟩=>ee (l f s4 g H4 y A u t _ I4 o B q4) λZ s5 ⟨z',C,F,r5,m,j,q5⟩=>?_));subst j;cases r5;refine SL ?_;cases m with
  |false=>
   obtain⟨m,j,n⟩:=q5;cases j;exact ite_ff ⟨C,F,n⟩
  |true=>
   refine ite_tt (test_last (ee (hd f s5 g C _ F q5) λw' s6 ⟨z2,H6,I6,r6,q6⟩=>ee (i f s6 g H6 A z2 t w' _ I6 B r6 q6) λd' s7 ⟨z3,H7,I7,r7,k3,e3,q7⟩=>?_));subst e3;cases r7;exact SL ⟨H7,I7,q7⟩
end
end L2
namespace L2.Pu
open PySem PySem.Spec PyProof.Rows
section
variable{X:Cx}{E:St->XK}{a b c d:Expr}{pos:Vy}{K:RB}
def QK(f e:D->D->Option D)(h i:FD)(y:D):FD:=λδ=>M.bind (h δ) λw=>M.bind (M.ofO (f y w)) λz=>M.bind (M.ofO (asB z)) λc=>if c=Q4 then M.bind (i δ) (λg=>M.ofO (e w g))else M.ret (.bl Q9)
def xt(o j e:D->D->Option D)(f g h i:FD):FD:=λδ=>M.bind (f δ) λa=>M.bind (g δ) λb=>M.bind (M.ofO (o a b)) λz=>M.bind (M.ofO (asB z)) λc=>if c=Q4 then QK j e h i b δ else M.ret (.bl Q9)
theorem run.later{α i:Type}{R:Hp->α->i->Prop}{F:Fx}{j:St}{m:M α}{H k:Hp}{Q:i->Hp->Prop}{β:Bg}(t:To F H k β)(h:run R F E j m H Q β):run R F E j m k Q β:=by
 obtain⟨l,f,e,q⟩:=h;refine⟨l,f,e,?_⟩;cases l with
 |ok d=>exact λv g tt=>q v g (t.trans tt)
 |error C=>exact λg tt=>q g (t.trans tt)
theorem xY(l:bf K r o)(l':bf K r' o')(O:bf K r'' o'')(T:tV K (xt o o' o'' f g h i) E σ H Q):wA r r' r'' (tV K f E) (tV K g E) (tV K h E) (tV K i E) σ H Q:=by
 obtain⟨F,δ,β,fr,U,T⟩:=T;refine⟨F,δ,β,fr,U,(run.bind (R:=cp K F) T).mono λv H1 n=>oa n λd β1 t hd r1=>⟨F,δ,β1,t.fr,U.tr (t.tr fr),(run.bind (R:=cp K F) r1).mono λv2 H2 n=>oa n λd2 β2 p u r2=>?_⟩⟩;obtain⟨z,ez,r3⟩:=run.ofO_bind r2;obtain⟨c,ec,L⟩:=run.ofO_bind r3;rw[jl ec]at ez;have W:=U.tr ((t.tr fr).trans (p.tr t.fr));refine l F H2 β2 _ d d2 _ v v2 p.fr (cp.tr (p.tr t.fr) _ _ hd) u ez λvz H3 j hz=>⟨c,hz,?_⟩;cases c with
 |true=>
  rw[Rb rfl]at L;have Y:=cp.tr (j.tr p.fr) _ _ u;have y:=W.tr (j.tr p.fr);have r5:=run.later j L;refine⟨F,δ,β2,j.fr,y,(run.bind (R:=cp K F) r5).mono λw H4 n=>oa n λdw A B C r6=>?_⟩;obtain⟨z',I,r7⟩:=run.ofO_bind r6;obtain⟨c',Z,N⟩:=run.ofO_bind r7;rw[jl Z]at I;refine l' F H4 A _ d2 dw _ v2 w B.fr (cp.tr (B.tr j.fr) _ _ Y) C I λvz' H5 m hz'=>⟨c',hz',?_⟩;cases c' with
  |true=>
   rw[Rb rfl]at N;refine⟨F,δ,A,m.fr,y.tr ((B.tr j.fr).trans (m.tr B.fr)),(run.bind (R:=cp K F) (run.later m N)).mono λw' H6 ⟨dw',β6,t6,J,r9⟩=>?_⟩;obtain⟨d3,e3,k⟩:=run.ofO r9;exact O F H6 β6 Q dw dw' d3 w w' t6.fr (cp.tr ((m.tr B.fr).trans (t6.tr m.fr)) _ _ C) J e3 k
  |false=>
   rw[Q8 Ri]at N;obtain⟨rr,β',e,q⟩:=N;cases e;exact q _ H5 m rfl
 |false=>
  rw[Q8 Ri]at L;obtain⟨rr,β',e,q⟩:=L;cases e;exact q _ H3 j rfl
theorem DK(m:fx X (SH op) r)(j:fx X (SH op') r')(e:fx X (SH op'') r'')(l:bf X.K r o)(n:bf X.K r' o')(k:bf X.K r'' o'')(ha:PE X a (tV X.K f E))(p:PE X b (tV X.K g E))(t:PE X c (tV X.K h E))(hd:PE X d (tV X.K i E))(hm:Z6 [op,op',op''] [b,c,d]=Q9:=by with_unfolding_all rfl):
  PT X (.Compare a [op,op',op''] [b,c,d] pos) (iv X.K (fB (xt o o' o'' f g h i)) E):=(z0 m j e ha p t hd hm).imp λu H Q q=>xY l n k (oJ q)
variable{st:Sy}{H₀:Hp}{B:Ow}{bg:Option (Q6×Q6)}{H H':Hp}{δ:Ds}{β β':Bg}{σ:St}
theorem lq{α:Type}{x y:α}:∀{l:List α} {j:Nat},x∈l.set j y->x=y\/x∈l
 |[],_,h=>by cases h
 |a::l,0,h=>by
  rcases Rq.mp h with rfl|h
  .exact .inl rfl
  .exact .inr (Q1 _ h)
 |a::l,j+1,h=>by
  rcases Rq.mp h with rfl|h
  .exact .inr Q7
  .rcases lq h with z|z
   .exact .inl z
   .exact .inr (Q1 _ z)
def ua(i:Nat)(e f:FD):G:=λδ β=>match f (vw δ) β with
 |some (.ok d,β1)=>match e (hO δ) β1 with
  |some (.ok (.int ka),β2)=>match δ.getD i QY with
   |some (.own ds)=>match mm ds.length ka with
    |some ja=>on (.nx (δ.set i (on (.own (ds.set ja d)))),β2)
    |none=>QY
   |_=>QY
  |_=>QY
 |_=>QY
theorem MV(h:PS X st (h9 (tV X.K fv E) (FX (lY i) (tV X.K fa E) yf))):PS X st (tG X.K X.H₀ (ua i fa fv) E):=h.imp λD σ H A=>by
 obtain⟨B,bg,δ,β,o,β',ok,e,q⟩:=A;refine⟨eg B bg,vw δ,β,ok.fr,ok.view,?_⟩;unfold ua at e;split at e
 .rename_i d β1 C
  refine⟨.ok d,_,C,λv U I hd=>?_⟩;obtain⟨f,J⟩:=ok.to rfl I;split at e
  .rename_i ka β2 L
   split at e
   .rename_i ds r
    split at e
    .rename_i ja N
     cases e;obtain⟨w,m,a,xs,rfl,hB,ha,dl⟩:=f.tell i _ (getD_some r);refine⟨_,m,o0 B bg,hO δ,β1,f.frA,f.viewA,.ok (.int ka),_,L,λy W O Q=>?_⟩;cases Q;obtain⟨g,t⟩:=f.to (F:=o0 B bg) rfl O;obtain⟨Y,u,a2,j,R,n,k,l⟩:=g.tell i _ (getD_some r);rw[m]at u;cases u;cases R;refine⟨a,j,ka,ja,rfl,rfl,k,by rw[<-l.length];exact N,?_⟩;obtain⟨p,T⟩:=g.writeOwn (ds:=ds.set ja d) (xs:=j.set ja v) m n k (bb.set ja l (cp.tr t.tr _ _ hd));exact q _ _ _ (J.trans (t.trans T)) p
    .cases e
   .cases e
  .cases e
 .cases e
theorem fw.AtoB(ok:fw K H₀ B bg H δ β σ):∀c,(eg B bg).A c->(o0 B bg).A c\/∃xs,H c=on (.lst xs):=λc f=>by
 have e:B c≠QY:=f;cases q:B c with
 |none=>exact RJ q e
 |some k=>
  match k,q with
  |0,q=>exact .inl (.inl q)
  |1,q=>exact .inl (.inr q)
  |k+2,q=>exact .inr (ok.lst c k q)
theorem fw.noB{d:D}(ok:fw K H₀ B bg H δ β σ)(hn:noL d=Q4)(h:cp K (o0 B bg) H d v):cp K (eg B bg) H d v:=w6 ok.AtoB d v hn h
def ub(i:Nat)(e f g:FD):G:=λδ β=>match g (hO δ) β with
 |some (.ok d,β1)=>match e (hO δ) β1 with
  |some (.ok (.int ka),β2)=>match f (hO δ) β2 with
   |some (.ok (.int kb),β3)=>match δ.getD i QY with
    |some (.grd a_)=>match mm a_.length ka with
     |some ja=>match a_[ja]? with
      |some ds=>match mm ds.length kb with
       |some jb=>if noL d=Q4 then on (.nx (δ.set i (on (.grd (a_.set ja (ds.set jb d))))),β3)else QY
       |none=>QY
      |none=>QY
     |none=>QY
    |_=>QY
   |_=>QY
  |_=>QY
 |_=>QY
theorem MW(h:PS X st (h9 (tV X.K fv E) (FX (Y_ (yg X.K) (lY i) (tV X.K fa E)) (tV X.K fb E) yf))):PS X st (tG X.K X.H₀ (ub i fa fb fv) E):=h.imp λD σ H h_=>by
 obtain⟨B,bg,δ,β,o,β',ok,e,q⟩:=h_;refine⟨o0 B bg,hO δ,β,ok.frA,ok.viewA,?_⟩;unfold ub at e;split at e
 .rename_i d β1 e1
  refine⟨.ok d,_,e1,λv H1 t1 hd=>?_⟩;obtain⟨f,s1⟩:=ok.to rfl t1;split at e
  .rename_i ka β2 e2
   split at e
   .rename_i kb β3 e3
    split at e
    .rename_i a_ Q
     split at e
     .rename_i ja ea
      split at e
      .rename_i ds er
       split at e
       .rename_i jb eb
        split at e
        .rename_i R
         cases e;have hd:=f.noB R hd;obtain⟨w,N,a,rs,rfl,hB,ha,nd,rl⟩:=f.tell i _ (getD_some Q);refine⟨_,N,o0 B bg,hO δ,β1,f.frA,f.viewA,.ok (.int ka),β2,e2,λy H2 t2 hy=>?_⟩;cases hy;obtain⟨j,s2⟩:=f.to (F:=o0 B bg) rfl t2;obtain⟨w2,h2,a2,g,ew,k,m,nd2,n⟩:=j.tell i _ (getD_some Q);rw[N]at h2;cases h2;cases ew;obtain⟨r,xs,T,hp,hx,dl⟩:=n.at er;refine⟨a,g.map V.ref,ka,.ref r,rfl,rfl,e_.of m,?_,?_⟩
         .unfold ui
          rw[QX,<-n.len,ea];show(g.map V.ref)[ja]?=_;rw[Q5,T];rfl
         .refine⟨o0 B bg,hO δ,β2,j.frA,j.viewA,.ok (.int kb),_,e3,λz H3 t3 hz=>?_⟩
          cases hz;obtain⟨p,s3⟩:=j.to (F:=o0 B bg) rfl t3;obtain⟨w3,h3,a3,t,U,W,u,Y,A⟩:=p.tell i _ (getD_some Q);rw[N]at h3;cases h3;cases U;have Z:g=t:=by
           have O:H3 a=on (.lst (g.map V.ref)):=t3.kp a _ m (λb l y=>⟨λw=>(by subst w;rw[(ok.bgt _ _ y).1]at k;cases k),λw=>(by subst w;rw[(ok.bgt _ _ y).2]at k;cases k)⟩);rw[u]at O;have k2:t.map V.ref=g.map V.ref:=by injection O with O;injection O
           exact(V0 (λa b q=>by cases q;rfl)|>.mp k2).symm
          subst Z;obtain⟨r',C,I,hp',J,L⟩:=A.at er;rw[T]at I;cases I;have hv3:cp X.K (eg B bg) H3 d v:=cp.tr (s3.tr) _ _ (cp.tr (s2.tr) _ _ hd);refine⟨r,C,kb,jb,rfl,rfl,J,by rw[<-L.length];exact eb,?_⟩;obtain⟨ok4,s4⟩:=p.writeRow (ds:=ds.set jb d) (xs:=C.set jb v) N W u Y A T J (bb.set jb L hv3);exact q _ _ _ (s1.trans (s2.trans (s3.trans s4))) ok4
        .cases e
       .cases e
      .cases e
     .cases e
    .cases e
   .cases e
  .cases e
 .cases e
variable{e:Expr}{es:List Expr}
def o2(op:D->D->Option (List D))(f g:FD):FL:=λδ=>M.bind (f δ) λa=>M.bind (g δ) λb=>M.ofO (op a b)
noncomputable def Ite(K:RB)(l:Q6):It:=
 ⟨λi H=>∃xs x,e_ K H l xs/\xs[i]?=on x,
  λi H v H'=>∃p x,H p=QY/\v= .ref p/\H'=upd H p (.tup [.int (i:Int),x])/\∀xs,e_ K H l xs->xs[i]?=on x,
  λi H=>∃xs,e_ K H l xs/\xs.length=i⟩
theorem zo{P:RT}{w:R8}{K:RB}{x1}{pos:Vy}(l e it:Q6)(t:e≠it):
  ms P w K (.Tuple elts x1 pos) (Ite K l) [e,it] e (λi h=>(∃f,IsEnum h e it (i:Int) f)/\h.IsListIter it l i) where
 mem:=by simp
 obj:=λi h st b j=>by
  obtain⟨⟨f,m⟩,p⟩:=st;simp only[Rq,SO,Vj]at j;rcases j with rfl|rfl
  .exact⟨_,m,λv q=>by cases q⟩
  .obtain⟨o,q,_,d⟩:=p
   exact⟨o,q,λv z=>by rw[d]at z;cases z⟩
 keep:=λi h h' st k=>by
  obtain⟨⟨f,m⟩,p⟩:=st;exact⟨⟨f,k e (by simp) _ m⟩,p.at λo q=>k it (by simp) o q⟩
 item:=by
  intro X L N O Q i r s σ H E I y st R;subst L N O;obtain⟨xs,x,q1,T⟩:=R;obtain⟨⟨f,m⟩,p⟩:=st;obtain⟨g,r1,U⟩:=cy.src (b:=Q4) I q1;have hd:=I.ok.hd Q;have ne:l≠e:=cy.src_ne (b:=Q4) I q1 (y e (by simp));have W:l≠it:=cy.src_ne (b:=Q4) I q1 (y it (by simp));have k1:i<g.toArray.size:=by
   rw[Rx,<-r1.length];exact(Rj.mp T).1
  refine wpAny_pyNext_enum_itemD (Zv (show(X.A.in1).handled=QY from hd) it l W g.toArray) m ⟨p,U⟩ k1 t (by simp[t,ne.symm]) λu h' Y pu fo f1 fT sz kp=>?_;refine⟨_,rfl,wpAny_letOwnedTupleGo_enum (s:={s with heap:=h',toks:=Y+1}) fo λC F J=>?_⟩
  replace J:RQ e h' C:=J
  have zT:s.heap.objs.size≠e:=Uy (RM m);obtain⟨u',Z,ru⟩:=r1.get T;have eu:u=u':=by
   have:g[i]?=on u:=by simpa using pu
   rw[this]at Z;exact RO Z
  subst eu;have kk:∀b o,b∉[e,it]->s.heap.get? b=on o->C.get? b=on o:=λb o j q=>by
   simp only[Rq,SO,Vj,not_or]at j;exact J.extBut b o j.1 (kp b o j.1 j.2 q)
  have I2:cy X r σ (upd H s.heap.objs.size (.tup [.int (i:Int),x])) {s with heap:=C,toks:=Y+1}:=by
   refine cy.turnNew I y kk (Rf _) ⟨by show 2<=RF;decide,[.int i Y,u],.cons ⟨_,rfl⟩ (.cons ru .nil),_,J.extBut _ _ zT fT,rfl,_,rfl⟩
  refine⟨.ref s.heap.objs.size,_,I2,rfl,⟨s.heap.objs.size,x,I.hok.fresh (Rf _),rfl,rfl,λas h1=>by rw[cy.src_inj (b:=Q4) I h1 q1];exact T⟩,⟨⟨_,by simpa using F⟩,?_⟩,λb j=>?_⟩
  .exact f1.1.at λo q=>J.extBut _ _ t.symm q
  .rw[b_]
   .exact(y b j).1
   .intro q
    have ol:∃o,s.heap.get? b=on o:=by
     simp only[Rq,SO,Vj]at j;rcases j with rfl|rfl
     .exact⟨_,m⟩
     .obtain⟨o,z,_⟩:=p;exact⟨o,z⟩
    obtain⟨o,z⟩:=ol;exact RJ (RM z) (by rw[q];exact Sf _)
 done:=by
  intro X L N O Q i r s σ H E I y st R;subst L N O;obtain⟨xs,q1,hl⟩:=R;obtain⟨⟨f,m⟩,p⟩:=st;obtain⟨g,r1,U⟩:=cy.src (b:=Q4) I q1;have hd:=I.ok.hd Q;have W:l≠it:=cy.src_ne (b:=Q4) I q1 (y it (by simp));have g1:g.toArray.size=i:=by rw[Rx,<-r1.length,hl]
  refine wpAny_pyNext_enum_endD (n:=g.toArray.size) (Zv (show(X.A.in1).handled=QY from hd) it l W g.toArray) m (by rw[g1];exact⟨p,U⟩) λh' kp=>⟨rfl,?_⟩;refine cy.turnL (t':=s.toks) I y λb o j q=>?_;simp only[Rq,SO,Vj,not_or]at j;exact kp b o j.2 q
 self:=λ_ _ _ _ _ st h=>by
  obtain⟨⟨f,m⟩,p⟩:=st;exact wpAny_pyIter_enum m h
def iEn(K:RB)(g:TA):TI:=λσ H R=>g σ H λvs f=>∃l xs,vs=[.ref l]/\e_ K f l xs/\R (Ite K l) f
theorem Lu{a:Expr}{p pos:Vy}{x1}(o:Gl X "enumerate")(hm:X.mg "enumerate"=QY)(ha:PA X [a] ta)(hs:Rm [a] X.env=[(Q9,Sw a X.env)]:=by rfl):
  PI X (.Tuple elts x1 tpos) (.Call (.Name "enumerate" p) [a] [] pos) (iEn X.K ta):=by
 intro f s σ H R I h;refine Call_ (gZ I o hm PyProof.Rows.Boot.«enumerate» (SR (ee (ha pos f s σ H _ I h) λus g ⟨vs,k,j,r1,q1⟩=>?_) (by rw[hs];rfl) (by rfl)));obtain⟨l,xs,e,q1,q⟩:=q1;subst e;cases r1 with
 |cons r t=>
  cases t;cases r;obtain⟨u,C,v⟩:=cy.src (b:=Q4) j q1;refine call_enumerate_list v λh' m y sz kp=>?_;refine wpAny_pyIter_enum (s:={g with heap:=h'}) m ?_;have A:cy X f σ k {g with heap:=h'}:=j.kept (t':=g.toks) kp;refine⟨_,[g.heap.objs.size+1,g.heap.objs.size],_,Ite X.K l,k,rfl,A,zo l (g.heap.objs.size+1) g.heap.objs.size (Nat.succ_ne_self _),⟨⟨_,m⟩,y⟩,λc n=>?_,q⟩;have i:g.heap.objs.size<=c:=by
   simp only[Rq,SO,Vj]at n;rcases n with rfl|rfl
   .exact Uq _ _
   .exact Rf _
  exact j.fpOk i (j.hok.fresh i)
noncomputable def dj:Nat->List D->List D
 |_,[]=>[]
 |n,x::xs=> .tup [.int (n:Int),x]::dj (n+1) xs
theorem jN:∀(n:Nat) (xs:List D),(dj n xs).length=xs.length
 |_,[]=>rfl
 |n,x::xs=>by
  show(dj (n+1) xs).length+1=xs.length+1;rw[jN (n+1) xs]
theorem mV:∀{n:Nat} {xs:List D} {i:Nat} {d:D},(dj n xs)[i]?=on d->∃x,xs[i]?=on x/\d= .tup [.int ((n+i:Nat):Int),x]
 |n,[],i,d,h=>by simp[dj]at h
 |n,x::xs,0,d,h=>by
  simp[dj]at h;exact⟨x,rfl,by rw[<-h];simp⟩
 |n,x::xs,i+1,d,h=>by
  have h':(dj (n+1) xs)[i]?=on d:=by simpa[dj]using h
  obtain⟨a,f,g⟩:=mV h';exact⟨a,by simpa using f,by rw[g,show n+1+i=n+(i+1) by omega]⟩
def KF:List D->Option (List D)
 |[.lst xs]=>on (dj 0 xs)
 |_=>QY
theorem FQ{H:Hp}(o:∀g f,Tr F H g f->∃xs,e_ K f l xs/\bb K g f ds xs):x0 K (Ite K l) F H (dj 0 ds):=λg f β2 t fr i=>by
 obtain⟨xs,h,d1⟩:=o g f t;refine⟨λd hd=>?_,λj=>?_⟩
 .obtain⟨x,q,rfl⟩:=mV hd
  obtain⟨u,k,du⟩:=d1.get q;refine⟨⟨xs,u,h,k⟩,λz y r=>?_⟩;obtain⟨p,A,m,rfl,rfl,v⟩:=r;have n:=v xs h;rw[k]at n;cases n;rw[Sn];exact⟨bK.upd m,cp.newT fr m (bb.cons rfl (bb.cons du bb.nil))⟩
 .rw[jN]at j
  exact⟨xs,h,by rw[<-d1.length,j]⟩
def JY(g:FL):FL:=cU KF g
theorem qC{a:Expr}{p pos:Vy}{x1}(q:Gl X "enumerate")(hm:X.mg "enumerate"=QY)(ha:PA X [a] (i0 X.K g E))(hs:Rm [a] X.env=[(Q9,Sw a X.env)]:=by rfl):
  PI X (.Tuple elts x1 tpos) (.Call (.Name "enumerate" p) [a] [] pos) (iV X.K (JY g) E):=
 (Lu q hm ha hs).imp λσ H R j=>ll j λF δ β fr r h=>⟨F,δ,β,fr,r,(run.bind (R:=bb X.K F) h).mono λvs f j=>by
  obtain⟨ds,β1,t,hd,r1⟩:=j;obtain⟨l,e,k⟩:=run.ofO r1;unfold KF at e;split at e
  .rename_i xs
   cases e;obtain⟨v,rfl,o⟩:=bb.one hd;have z:∃a,v= .ref a/\∀m i,Tr F f m i->∃ys,e_ X.K i a ys/\bb X.K m i xs ys:=by
    obtain⟨a,ys,rfl,_⟩:=cp.sqL o;refine⟨a,rfl,λm i u=>?_⟩;obtain⟨C,n,y,sq,dl⟩:=cp.sqL (cp.tr u _ _ o);cases y;exact⟨n,sq,dl⟩
   obtain⟨a,rfl,z⟩:=z;obtain⟨us,A,_⟩:=z F f (Tr.refl F f);exact⟨a,us,rfl,A,k _ f (To.refl t.fr) (FQ z)⟩
  .cases e⟩
def bx(K:RB)(g:RG)(ps:List R3)(h:List D):Prop:=∃ds f,ay K g ps ds/\au f ds/\∀F H,bb K F H h f
inductive Sr (α:Type) where
 |kw (j:Nat)|df (a:α)
noncomputable def Sr.pick{α:Type}(z:α)(f:List α):Sr α->α
 | .kw j=>f.getD j z
 | .df a=>a
def gK{α:Type}(z:α)(n k:Nat)(src:List (Sr α))(us f:List α):List α:=if us.length=n/\f.length=k then us++src.map (Sr.pick z f)else[]
inductive lm {α γ:Type} (R:α->γ->Prop):List (Sr α)->List (Sr γ)->Prop where
 |nil:lm R [] []
 |kw {j:Nat} {a:List (Sr α)} {c:List (Sr γ)}:lm R a c->lm R (.kw j::a) (.kw j::c)
 |df {x:α} {y:γ} {a:List (Sr α)} {c:List (Sr γ)}:R x y->lm R a c->lm R (.df x::a) (.df y::c)
theorem au.getD:∀{f:List V} {g:List Ra} (j:Nat),au f g->aT (f.getD j .non) (g.getD j .none)
 |_,_,_,.nil=>rfl
 |_,_,0,.cons r _=>r
 |_,_,j+1,.cons _ t=>au.getD j t
theorem lm.vals(r:au zs ws):∀{a:List (Sr V)} {c:List (Sr Ra)},lm aT a c->au (a.map (Sr.pick .non zs)) (c.map (Sr.pick .none ws))
 |_,_,.nil=> .nil
 |_,_,.kw (j:=j) h=> .cons (au.getD j r) (lm.vals r h)
 |_,_,.df q h=> .cons q (lm.vals r h)
theorem bb.getD{K:RB}{H:Hp}:∀{ds:List D} {f:List V} (j:Nat),bb K F H ds f->cp K F H (ds.getD j .non) (f.getD j .non)
 |[],f,j,h=>by have q:f=[]:=h;subst q;rfl
 |d::ds,f,0,h=>by
  obtain⟨x,r,e,g,i⟩:=h;subst e;exact g
 |d::ds,f,j+1,h=>by
  obtain⟨x,r,e,g,i⟩:=h;subst e;exact bb.getD j i
theorem lm.den{K:RB}{H:Hp}(r:bb K F H ds zs):∀{a:List (Sr D)} {c:List (Sr V)},lm (λd v=>∀F H,cp K F H d v) a c->bb K F H (a.map (Sr.pick .non ds)) (c.map (Sr.pick .non zs))
 |_,_,.nil=>bb.nil
 |_,_,.kw (j:=j) h=>bb.cons (bb.getD j r) (lm.den r h)
 |_,_,.df q h=>bb.cons (q F H) (lm.den r h)
theorem lm.len{α f:Type}{R:α->f->Prop}:∀{a:List (Sr α)} {c:List (Sr f)},lm R a c->a.length=c.length
 |_,_,.nil=>rfl
 |_,_,.kw h=>by rw[Rl,Rl,lm.len h]
 |_,_,.df _ h=>by rw[Rl,Rl,lm.len h]
structure B_ (K:RB) (fd:RG) (ps ks:List R3) (n:Nat) (src:List (Sr D)):Prop where
 ex:∃(sv:List (Sr Ra)) (sx:List (Sr V)),lm aT sx sv/\lm (λd v=>∀F H,cp K F H d v) src sx/\∀(s:Rg) (us ws:List Ra),K.In s.heap->us.length=n->ws.length=ks.length->Xq s fd ⟨us,ks.zip ws⟩ (ps.zip (us++sv.map (Sr.pick .none ws)))
 len:ps.length=n+src.length
 pos:0<ps.length
theorem B_.kb{K:RB}{ps ks:List R3}(h:B_ K fd ps ks n src):∃(sv:List (Sr Ra)) (f:List (Sr V)),lm (λd v=>∀F H,cp K F H d v) src f/\u_ K fd ps ks (gK .none n ks.length sv) (gK .non n ks.length f):=by
 obtain⟨sv,f,r1,l,b⟩:=h.ex;refine⟨sv,f,l,λs us k m g=>?_,λ{vs us o k} i j=>?_⟩
 .unfold gK at g⊢
  split at g
  .rename_i q
   rw[Rb q];exact b s us k m q.1 q.2
  .exact RJ g (by have:=h.pos;simp;omega)
 .unfold gK
  by_cases q:vs.length=n/\o.length=ks.length
  .rw[Rb q,Rb (by rw[<-i.length,<-j.length];exact q)]
   exact i.append (lm.vals j r1)
  .rw[Q8 q,Q8 (by rw[<-i.length,<-j.length];exact q)]
   exact .nil
variable{p kpos:Vy}{x:R3}{k n:Nat}{f:Q6}{fd:RG}{ps ks:List R3}{kws:List WH}{nm:Option R3}
def vM(m:List D->M D)(g:FL)(h:List D):FD:=λδ=>M.bind (g δ) λas=>m (as++h)
theorem KZ{h:List D}(G:fh X.prog X.w X.K X.mg X.base (hY X.prog X.w) k f fd ps (z_ X.K n m))(y:ef k X.A)(I:Gl X x)(hm:X.mg x=on (.ref f))(J:WS X.K (.ref f)=Q4)(L:bx X.K fd ps h)(N:cI (hY X.prog X.w) X E)
  (ha:PA X (e::es) (i0 X.K g E)) (hn:∀δ β r β',g δ β=on (.ok r,β')->r.length+h.length=n) (i:(x==("__debug__":R3))=Q9:=by decide) (O:Rm (e::es) X.env=(Q9,Sw e X.env)::Rm es X.env:=by rfl) (j:(Tx pos (Rm es X.env)).any (·.1)=Q9:=by rfl):
  PE X (.Call (.Name x p) (e::es) [] pos) (tV X.K (vM m g h) E):=by
 obtain⟨ds,T,b,U,rd⟩:=L;refine(rm G y I hm J b U N ha i O j).imp λσ H Q W=>ll W λF δ β fr Y r=>⟨F,δ,β,fr,Y,?_⟩;obtain⟨r0,l,u,v⟩:=run.bind (R:=bb X.K F) r;refine⟨r0,l,u,?_⟩;cases r0 with
 |error C=>exact v
 |ok as=>
  intro vs o t hd;obtain⟨d',β1,Z,q,r1⟩:=v vs o t hd;have hl:=hn _ _ _ _ u;have hz:=(rd F o).length;refine⟨by rw[Ro,<-hd.length,<-hz,hl],F,d'++h,β1,Z.fr,bb.append q (rd F o),run.toE r1⟩
theorem zk:PK X [] (i0 X.K aN E):=λpos g s σ H Q I h=>by obtain⟨F,δ,β,fr,i,r⟩:=h;exact Nh pos g s σ H Q I (run.ret fr r bb.nil)
theorem wu{f:FD}(ha:PE X e (tV X.K f E))(m:PK X kws (i0 X.K g E)):PK X (⟨nm,e,kpos⟩::kws) (i0 X.K (ao f g) E):=λpos h s σ H Q I ⟨F,δ,β,fr,j,r⟩=>
 Lr ha m pos h s σ H Q I ⟨F,δ,β,fr,j,(run.bind (R:=cp X.K F) r).mono λv u ⟨d,β1,t,hd,r1⟩=>
  ⟨F,δ,β1,t.fr,j.tr (t.tr fr),(run.bind (R:=bb X.K F) r1).mono λvs y o=>oa o λds β2 l i q=>run.ret l.fr q (bb.cons (cp.tr (l.tr t.fr) _ _ hd) i)⟩⟩
def Gw(g:G)(δ:Ds)(β:Bg)(Q:xr->Bg->Prop):Prop:=∃o β',g δ β=on (o,β')/\Q o β'
end
section
variable{g h a b g1 g2:G}{δ δ1:Ds}{β β1 β2 β3:Bg}{Q R:xr->Bg->Prop}{i:Nat}{f fa fb fv:FD}{fl:FL}{fg:Dn->M (List (List D))}{d x y z:D}{ds as:List D}{t:Dn->M Bool}{c:Bool}{C:Q6}{K:RB}
theorem Gw.mono(k:Gw g δ β R)(q:∀o β,R o β->Q o β):Gw g δ β Q:=let ⟨o,β',e,r⟩:=k;⟨o,β',e,q _ _ r⟩
theorem Le:bo g gNil=g:=by
 funext δ β;unfold bo gNil;split
 .rename_i δ1 β1 e;exact e.symm
 .rfl
theorem ak(k:Gw (bo g gNil) δ β Q):Gw g δ β Q:=by rw[Le]at k;exact k
theorem bu(q:Q (.nx δ) β):Gw gNil δ β Q:=⟨_,_,rfl,q⟩
theorem dX(e:g δ β=on (.nx δ1,β1))(k:Gw h δ1 β1 Q):Gw (bo g h) δ β Q:=by
 obtain⟨o,j,l,q⟩:=k;exact⟨o,j,by unfold bo;rw[e];exact l,q⟩
theorem KU(k:Gw (bo a (bo b h)) δ β Q):Gw (bo (bo a b) h) δ β Q:=by
 obtain⟨o,j,l,q⟩:=k;refine⟨o,j,?_,q⟩;rw[<-l];unfold bo;split<;>rename_i e<;>(split at e<;>simp_all)
theorem bV(k:Gw h δ β Q):Gw (bo gNil h) δ β Q:=dX rfl k
theorem JF(k:Gw g (fz i δ) β Q):Gw (fzG i g) δ β Q:=k
theorem aG(e:f (vw δ) β=on (.ok d,β1))(k:Gw h (δ.set i (on (.sh d))) β1 Q):Gw (bo (mS i f) h) δ β Q:=dX (by unfold mS;rw[e]) k
theorem jV(e:f (hO δ) β=on (.ok d,β1))(k:Gw h δ β1 Q):Gw (bo (li f) h) δ β Q:=dX (by unfold li;rw[e]) k
theorem xO(e:t (hO δ) β=on (.ok c,β1))(k:Gw (bo (if c=Q4 then g1 else g2) h) δ β1 Q):Gw (bo (T_ t g1 g2) h) δ β Q:=by
 obtain⟨o,j,l,q⟩:=k;refine⟨o,j,?_,q⟩;rw[<-l];unfold bo T_;rw[e];cases c<;>rfl
theorem xN(e:t (hO δ) β=on (.ok Q4,β1))(k:Gw (bo g1 h) δ β1 Q):Gw (bo (T_ t g1 g2) h) δ β Q:=xO e k
theorem kJ(e:t (hO δ) β=on (.ok Q9,β1))(k:Gw (bo g2 h) δ β1 Q):Gw (bo (T_ t g1 g2) h) δ β Q:=xO e k
theorem aQ(e:f (hO δ) β=on (.ok d,β1))(q:Q (.rt d) β1):Gw (bo (yJ f) h) δ β Q:=⟨_,_,by unfold bo yJ;rw[e],q⟩
theorem PD{a_:List (List D)}(e:fg (vw δ) β=on (.ok a_,β1))(hn:a_.all noLs=Q4)(k:Gw h (δ.set i (on (.grd a_))) β1 Q):Gw (bo (vD i fg) h) δ β Q:=dX (by unfold vD;simp only[e,hn,SA]) k
theorem PC{a_:List (List D)}(e:fv (hO δ) β=on (.ok d,β1))(j:fa (hO δ) β1=on (.ok (.int ka),β2))(l:fb (hO δ) β2=on (.ok (.int kb),β3))(m:δ.getD i QY=on (.grd a_))
  (n:mm a_.length ka=on ja) (o:a_[ja]?=on ds) (p:mm ds.length kb=on jb) (hn:noL d=Q4) (k:Gw h (δ.set i (on (.grd (a_.set ja (ds.set jb d))))) β3 Q):Gw (bo (ub i fa fb fv) h) δ β Q:=
 dX (by unfold ub;simp only[e,j,l,m,n,o,p,hn,SA]) k
theorem Mt{cs:List D}(e:fv (vw δ) β=on (.ok d,β1))(j:fa (hO δ) β1=on (.ok (.int ka),β2))(l:δ.getD i QY=on (.own cs))(m:mm cs.length ka=on ja)(k:Gw h (δ.set i (on (.own (cs.set ja d)))) β2 Q):Gw (bo (ua i fa fv) h) δ β Q:=
 dX (by unfold ua;simp only[e,j,l,m]) k
theorem nk(e:fl (vw δ) β=on (.ok ds,β1))(j:ds.length<=RF)(k:Gw h (δ.set i (on (.own ds))) β1 Q):Gw (bo (yK i fl) h) δ β Q:=dX (by unfold yK;simp only[e,j,SA]) k
theorem np{cs:List D}(j:δ.getD i QY=on (.own cs))(e:fl (vw δ) β=on (.ok [d],β1))(l:cs.length<RF)(k:Gw h (δ.set i (on (.own (cs++[d])))) β1 Q):Gw (bo (yQ i fl) h) δ β Q:=
 dX (by unfold yQ;simp only[j,e,l,SA]) k
theorem pG(e:f (vw δ) β=on (.ok d,β1))(j:tg d δ=on δ1)(k:Gw h δ1 β1 Q):Gw (bo (yP f tg) h) δ β Q:=dX (by unfold yP;simp only[e,j,SY]) k
def Tn(I:Ds->Bg->Prop)(h:G)(Q:xr->Bg->Prop):xr->Bg->Prop:=λo β=>match o with
 | .nx δ=>I δ β
 | .ct δ=>I δ β
 | .bk δ=>Gw h δ β Q
 |o=>Q o β
theorem ci(e:it (vw δ) β=on (.ok ds,β1))(u:Nat->Ds->Bg->Prop)(N:u 0 δ β1)(step:∀i d δ β,ds[i]?=on d->u i δ β->∃δ1,tg d δ=on δ1/\Gw g δ1 β (Tn (u (i+1)) h Q))(k:∀δ β,u ds.length δ β->Gw h δ β Q):
  Gw (bo (yL it tg g) h) δ β Q:=by
 have gen:∀(es:List D) (j:Nat) (δ:Ds) (β:Bg),es=ds.drop j->j+es.length=ds.length->u j δ β->Gw (bo (n_ tg g es) h) δ β Q:=by
  intro es
  induction es with
  |nil=>
   intro j δ β _ B F;simp at B;exact dX (g:=n_ tg g []) rfl (k δ β (B▸F))
  |cons d es ih=>
   intro j δ β L B F;have O:ds[j]?=on d:=by
    have:=R9 (λl=>l[0]?) L;simpa[ZR]using this.symm
   obtain⟨δ1,v,o,β2,A,q⟩:=step j d δ β O F;have H:es=ds.drop (j+1):=by
    have:=R9 List.tail L;simpa[List.tail_drop]using this
   have go:∀m,u (j+1) m β2->Gw (bo (n_ tg g es) h) m β2 Q:=λm I=>ih (j+1) m β2 H (by simp at B;omega) I;have n:∀{r:G} {m:Ds},Gw (bo r h) m β2 Q->n_ tg g (d::es) δ β=r m β2->Gw (bo (n_ tg g (d::es)) h) δ β Q:=λ{r m} ⟨T,p,J,U⟩ W=>⟨T,p,by rw[<-J];unfold bo;rw[W],U⟩;cases o with
   |nx m=>exact n (r:=n_ tg g es) (go m q) (by rw[n_];simp only[v,A])
   |ct m=>exact n (r:=n_ tg g es) (go m q) (by rw[n_];simp only[v,A])
   |bk m=>exact n (r:=gNil) (bV q) (by rw[n_];simp only[v,A];rfl)
   |rt d'=>exact⟨_,β2,by unfold bo;rw[n_];simp only[v,A],q⟩
   |rg d'=>exact⟨_,β2,by unfold bo;rw[n_];simp only[v,A],q⟩
   |ex C m=>exact⟨_,β2,by unfold bo;rw[n_];simp only[v,A],q⟩
 obtain⟨o,p,J,q⟩:=gen ds 0 δ β1 (by simp) (by simp) N;refine⟨o,p,?_,q⟩;rw[<-J];unfold bo yL;rw[e]
theorem v4{S:Except Q6 D->Bg->Prop}(k:Gw g (vu n ds) β (λo j=>match o with| .rt d=>S (.ok d) j| .nx _=>S (.ok .non) j| .ex C _=>S (.error C) j|_=>False)):∃r j,jO n g ds β=on (r,j)/\S r j:=by
 obtain⟨o,j,e,q⟩:=k;cases o with
 |rt d=>exact⟨.ok d,j,by unfold jO;rw[e],q⟩
 |nx δ=>exact⟨.ok .non,j,by unfold jO;rw[e],q⟩
 |ex C δ=>exact⟨.error C,j,by unfold jO;rw[e],q⟩
 |_=>exact q.elim
theorem aC(k:Gw g (vu n ds) β (λo j=>j=β/\(match o with| .rt d=>r= .ok d| .nx _=>r= .ok .non| .ex C _=>r= .error C|_=>False))):jO n g ds β=on (r,β):=by
 obtain⟨l,j,e,q1,q2⟩:=v4 (S:=λl j=>j=β/\r=l) (n:=n) (ds:=ds) (β:=β) (k.mono λo j h=>by
  cases o<;>first|exact h|exact h.2)
 subst q1 q2;exact e
theorem ar{δ:Dn}(e:fl δ β=on (.ok as,β1))(j:m as β1=on r):fP m fl δ β=on r:=by unfold fP M.bind;rw[e];exact j
theorem KQ{δ:Dn}(e:fl δ β=on (.ok as,β1))(j:m (as++dd) β1=on r):vM m fl dd δ β=on r:=by unfold vM M.bind;rw[e];exact j
theorem d_{δ:Dn}(e:fa δ β=on (.ok x,β1))(j:fb δ β1=on (.ok y,β2))(k:op x y=on z):f2 op fa fb δ β=on (.ok z,β2):=by unfold f2 M.bind;rw[e];simp only[j,M.ofO,k]
theorem x_1{δ:Dn}(e:fa δ β=on (.ok x,β1))(j:op x=on z):f1 op fa δ β=on (.ok z,β1):=by unfold f1 M.bind;rw[e];simp only[M.ofO,j]
theorem ag{δ:Dn}(e:fl δ β=on (.ok as,β1))(j:op as=on z):bt op fl δ β=on (.ok z,β1):=by unfold bt M.bind;rw[e];simp only[M.ofO,j]
theorem aa{δ:Dn}(e:fa δ β=on (.ok x,β1))(j:fl δ β1=on (.ok as,β2)):ao fa fl δ β=on (.ok (x::as),β2):=by unfold ao M.bind;rw[e];simp only[j,M.ret]
theorem bv{δ:Dn}(e:fl δ β=on (.ok as,β1))(j:op as=on ds):cU op fl δ β=on (.ok ds,β1):=by unfold cU M.bind;rw[e];simp only[j,M.ofO]
theorem bU{δ:Dn}(e:fa δ β=on (.ok x,β1))(j:fK x=on ds):cQ fa δ β=on (.ok ds,β1):=by unfold cQ M.bind;rw[e];simp only[j,M.ofO]
theorem j_{δ:Dn}(e:fa δ β=on (.ok (.bl c),β1)):fB fa δ β=on (.ok c,β1):=by unfold fB M.bind;rw[e];rfl
theorem jp{δ:Dn}(e:fa δ β=on (.ok x,β1))(j:DG x=on c):yV fa δ β=on (.ok c,β1):=by unfold yV M.bind;rw[e];simp only[M.ofO,j]
theorem jq{δ:Dn}(e:t δ β=on (.ok c,β1)):yX t δ β=on (.ok (!c),β1):=by unfold yX M.bind;rw[e];rfl
theorem rh(ok:β.ok)(k:0<lot)(l:lot<1073741824):∃v e,jJ [.bag,.int lot] β=on (.ok (.int v),e)/\0<=v/\v<lot/\e.ok:=by
 obtain⟨m,a1,j⟩:=wP ok k;exact⟨_,_,EW ok k l,m,a1,j⟩
theorem mM{n:Nat}{k:Int}(e:0<=k)(j:k<n):mm n k=on k.toNat:=by unfold mm;rw[Rb e,Rb j]
theorem BI{k:Int}{d:D}(e:0<=k)(h:xs[k.toNat]?=on d):ko (.lst xs) (.int k)=on d:=by
 have j:k.toNat<xs.length:=(Rj.mp h).1;show ui xs k=on d;unfold ui;rw[mM e (by omega)];exact h
theorem vj{x y:D}:ko (.tup [x,y]) (.int 0)=on x:=rfl
theorem o8{x y:D}:ko (.tup [x,y]) (.int 1)=on y:=rfl
end
section
variable{β β1 β2:Bg}{f g h i:FD}{t u:Dn->M Bool}{δ:Dn}{c e:Bool}{x y z w:Int}{d:D}
theorem xK(a:t δ β=on (.ok Q9,β1))(b:u δ β1=on (.ok e,β2)):yW t u δ β=on (.ok e,β2):=by
 unfold yW M.bind;rw[a];simp[b]
theorem le_int:s9 (.int x) (.int y)=on (.bl (decide (x<=y))):=rfl
theorem lt_int:Tm (.int x) (.int y)=on (.bl (decide (x<y))):=rfl
theorem gt_int:gtD (.int x) (.int y)=on (.bl (decide (y<x))):=rfl
theorem ge_int:geD (.int x) (.int y)=on (.bl (decide (y<=x))):=rfl
theorem ng(a:f δ β=on (.ok (.int x),β))(b:g δ β=on (.ok (.int y),β))(j:h δ β=on (.ok (.int z),β)):kE s9 s9 f g h δ β=on (.ok (.bl (decide (x<=y)&&decide (y<=z))),β):=by
 unfold kE M.bind;rw[a];simp only[b,le_int,M.ofO,asB];by_cases q:x<=y
 .simp only[q,decide_true,SA,j,le_int,Wh]
 .simp only[q,decide_false,RC,Sz,M.ret,WX]
theorem Pz{g h:G}{δ:Ds}{β:Bg}(P:Ds->Bg->Prop)(a:Gw g δ β (λo β1=>∃δ1,o= .nx δ1/\P δ1 β1))(b:∀δ1 β1,P δ1 β1->Gw h δ1 β1 Q):Gw (bo g h) δ β Q:=by
 obtain⟨o,β1,e,δ1,rfl,p⟩:=a;exact dX e (b δ1 β1 p)
theorem zj{δ:Ds}{β:Bg}{P:Ds->Bg->Prop}(p:P δ β):Gw gNil δ β (λo β1=>∃δ1,o= .nx δ1/\P δ1 β1):=bu ⟨_,rfl,p⟩
noncomputable abbrev gI(a_:LI):List (List D):=a_.map λr=>r.map D.int
noncomputable abbrev lG(a_:List (List D)):D:= .lst (a_.map D.lst)
abbrev aI(a_:LI):D:=lG (gI a_)
noncomputable def pD(p:Int×Int):D:= .tup [.int p.1,.int p.2]
abbrev gP(b:LP):List (List D):=b.map λr=>r.map pD
abbrev d9(b:LP):D:=lG (gP b)
def hL{α:Type}(r c:Nat)(m:List (List α)):Prop:=m.length=r/\∀row∈m,row.length=c
noncomputable def tot(a_:LI):Int:=(a_.map SF).sum
theorem aY(h:n<=1000):n<=RF:=Ru h (by decide)
theorem sG:∀r:List Int,noLs (r.map D.int)=Q4
 |[]=>rfl
 |x::r=>by
  show(noL (.int x)&&noLs (r.map D.int))=Q4;rw[sG r];rfl
theorem hL.map{α a:Type}{f:α->a}{r c:Nat}{m:List (List α)}(h:hL r c m):hL r c (m.map λx=>x.map f):=⟨by rw[QX,h.1],λrow b=>by
 obtain⟨x,j,rfl⟩:=Rp.mp b;rw[QX];exact h.2 x j⟩
theorem hL.set{α:Type}{r c i j:Nat}{m:List (List α)}{row:List α}{v:α}(h:hL r c m)(b:m[i]?=on row):hL r c (m.set i (row.set j v)):=⟨by rw[RV,h.1],λx a=>by
 rcases Tw a with a|rfl
 .exact h.2 x a
 .rw[RV];exact h.2 row (RK b)⟩
theorem hL.at{α:Type}{r c i:Nat}{m:List (List α)}(h:hL r c m)(b:i<r):∃row,m[i]?=on row/\row.length=c:=by
 have a:i<m.length:=by rw[h.1];exact b
 exact⟨m[i],Q2 a,h.2 _ (R1 a)⟩
theorem KI{α:Type}{l:List α}{i:Nat}(h:i<l.length):∃x,l[i]?=on x:=⟨l[i],Q2 h⟩
theorem gA:∀{xs:List Int} {j:Nat} {x v:Int},xs[j]?=on x->(xs.set j v).sum=xs.sum-x+v
 |[],j,x,v,h=>by simp at h
 |y::xs,0,x,v,h=>by
  simp at h;subst h;simp only[List.set_cons_zero,Rh];omega
 |y::xs,j+1,x,v,h=>by
  have h':xs[j]?=on x:=by simpa using h
  simp only[List.set_cons_succ,Rh,gA h'];omega
theorem K1{a_:LI}{i j:Nat}{row:List Int}{x v:Int}(a:a_[i]?=on row)(b:row[j]?=on x):tot (a_.set i (row.set j v))=tot a_-x+v:=by
 unfold tot;rw[Uv,gA (x:=row.sum) (by rw[Q5,a];rfl),gA b];omega
theorem NB{a_:LI}{i j:Nat}{row:List Int}(h:∀r∈a_,∀x∈r,0<=x)(k:a_[i]?=on row)(l:0<=v):∀r∈a_.set i (row.set j v),∀x∈r,0<=x:=λr a x b=>by
 rcases Tw a with a|rfl
 .exact h r a x b
 .rcases Tw b with b|rfl
  .exact h row (RK k) x b
  .exact l
theorem uw:∀{xs:List Int},(∀x∈xs,0<=x)->0<=xs.sum
 |[],_=>by simp
 |y::xs,h=>by
  have:=uw (xs:=xs) λx a=>h x (Q1 _ a);have:=h y Q7;simp only[Rh];omega
theorem vf:∀{xs:List Int},(∀x∈xs,0<=x)->∀x∈xs,x<=xs.sum
 |[],_,x,hx=>by cases hx
 |y::xs,h,x,hx=>by
  have:=uw (xs:=xs) λx hx=>h x (Q1 _ hx);have:=h y Q7;rcases Rq.mp hx with rfl|hx
  .simp only[Rh];omega
  .have:=vf (xs:=xs) (λx hx=>h x (Q1 _ hx)) x hx
   simp only[Rh];omega
theorem NH(h:∀r∈a_,∀x∈r,0<=x):∀r∈a_,∀x∈r,x<=tot a_:=λr a x b=>by
 have k:=vf (h r a) x b;have l:=vf (xs:=a_.map SF) (λs hs=>by
  obtain⟨q,j,rfl⟩:=Rp.mp hs;exact uw (h q j)) r.sum (Rp.mpr ⟨r,a,rfl⟩)
 unfold tot;omega
structure ul (r c:Nat) (a_:LI):Prop where
 shp:hL r c a_
 nn:∀row∈a_,∀x∈row,0<=x
 tot:tot a_<=40
 r0:1<=r
 r1:r<=4
 c0:1<=c
 c1:c<=6
theorem dL(ns:List Int):fI [.lst (ns.map D.int)]=on (.int ns.sum):=by
 show((eW (ns.map D.int)).map λl=>D.int l.sum)=_;have:∀ns:List Int,eW (ns.map D.int)=on ns:=λns=>by
  induction ns with
  |nil=>rfl
  |cons n ns ih=>simp[eW,ih]
 rw[this];rfl
theorem v_{n:Int}(a:0<=n)(h:n<=10^9):fS [.int n]=on (bh 0 n.toNat):=by
 have q:(decide (-(2^62)<=n)&&decide (n<2^62))=Q4:=by
  simp only[RZ,R5];omega
 show(if(decide (-(2^62)<=n)&&decide (n<2^62))=Q4 then on (bh 0 n.toNat)else QY)=_;rw[Rb q]
theorem yd{d:D}(h:(bh 0 n)[k]?=on d):k<n/\d= .int (k:Int):=by
 unfold bh at h;have a:k<n:=by
  have:=(Rj.mp h).1;simpa using this
 rw[Q5,Se a]at h;exact⟨a,by cases h;simp⟩
theorem p9(n:Nat):(bh 0 n).length=n:=by simp[bh]
theorem aS{α:Type}{f:FD}{δ:Dn}{β:Bg}(xs:List α)(u v:α->D)(a:it δ β=on (.ok (xs.map u),β))
  (b:∀x∈xs,∃δ1,tg (u x) (lK nv cw δ)=on δ1/\f δ1 β=on (.ok (v x),β)) (j:xs.length<=RF):bT nv cw it tg (λ_=>M.ret Q4) (k_ f) δ β=on (.ok (.lst (xs.map v)),β):=by
 refine rK a ?_ (by rw[QX];exact j);have gen:∀xs:List α,(∀x∈xs,∃δ1,tg (u x) (lK nv cw δ)=on δ1/\f δ1 β=on (.ok (v x),β))->p4 tg (λ_=>M.ret Q4) (k_ f) (xs.map u) (lK nv cw δ) β=on (.ok (xs.map v),β):=by
  intro xs
  induction xs with
  |nil=>intro _;rfl
  |cons x xs ih=>
   intro h;obtain⟨δ1,k,l⟩:=h x Q7;have m:=ih λy n=>h y (Q1 _ n);rw[Rk,p4];simp only[k,M.bind,M.ret,reduceIte,k_,l,m,Rk,Vm,Ub]
 exact gen xs b
theorem CC{α:Type}{f:FL}{δ:Dn}{β:Bg}(xs:List α)(u:α->D)(v:α->List D)(a:it δ β=on (.ok (xs.map u),β))
  (b:∀x∈xs,∃δ1,tg (u x) (lK nv cw δ)=on δ1/\f δ1 β=on (.ok (v x),β)) (j:xs.length<=RF):mU nv cw it tg (λ_=>M.ret Q4) (za f) δ β=on (.ok (xs.map v),β):=by
 have gen:∀xs:List α,(∀x∈xs,∃δ1,tg (u x) (lK nv cw δ)=on δ1/\f δ1 β=on (.ok (v x),β))->pp tg (λ_=>M.ret Q4) (za f) (xs.map u) (lK nv cw δ) β=on (.ok (xs.map v),β):=by
  intro xs
  induction xs with
  |nil=>intro _;rfl
  |cons x xs ih=>
   intro h;obtain⟨δ1,k,l⟩:=h x Q7;have m:=ih λy n=>h y (Q1 _ n);rw[Rk,pp];simp only[k,M.bind,M.ret,reduceIte,za,l,m,Rk,Vm,Ub]
 unfold mU;simp only[a,gen xs b,QX,j,SA]
theorem M9{ds:List D}{c:Nat}(a:ds.length<=RF)(b:ds.length*c<=RF)(j:c<=1000000):uK ds (.int (c:Int))=on (Rr c ds).flatten:=by
 have q:(decide (-(2^63)<=(c:Int))&&decide ((c:Int)<2^63)&&decide (ds.length<=RF)&&decide (ds.length*(c:Int).toNat<=RF))=Q4:=by
  simp only[RZ,R5];exact⟨⟨⟨by omega,by omega⟩,a⟩,by rw[SQ];exact b⟩
 unfold uK;simp only[q,SA];rw[SQ]
theorem vG{α:Type}(x:α):∀c:Nat,(Rr c [x]).flatten=Rr c x
 |0=>rfl
 |c+1=>by rw[SN,Ud,vG x c];rfl
theorem Qe{f:FD}{g:FD}{x:D}{c:Nat}{δ:Dn}{β:Bg}(a:f δ β=on (.ok x,β))(b:g δ β=on (.ok (.int (c:Int)),β))(j:c<=1000):EL (ao f aN) g δ β=on (.ok (Rr c x),β):=by
 have l1:[x].length<=RF:=by rw[Sd];decide
 have k:[x].length*c<=RF:=by rw[Sd,ZB];exact aY j
 have r:=M9 (ds:=[x]) (c:=c) l1 k (by omega);rw[vG]at r;have s:szL [x]=on [x]:=by
  unfold szL;rw[Rb l1]
 have l:ao f aN δ β=on (.ok [x],β):=aa a rfl;unfold EL;rw[M.bind_ok l,s,M.bind_some,M.bind_ok b,r];rfl
theorem sV(bs:List Bool):dS (bs.map D.bl)=on bs:=by
 induction bs with
 |nil=>rfl
 |cons b bs ih=>simp[dS,ih]
theorem any_map{α:Type}(xs:List α)(p:α->Bool):v6 [.lst (xs.map λx=>D.bl (p x))]=on (.bl (xs.any p)):=by
 show(dS _).map _=_;rw[show(xs.map λx=>D.bl (p x))=(xs.map p).map D.bl by rw[Rc];rfl,sV];simp only[SY,YR];rfl
theorem eK{α:Type}(r:Nat)(x:α):(Re r).map (λ_=>x)=Rr r x:=by rw[XW,Ry]
theorem cK{xs:List D}(h:xs.length=r):eV [.lst xs]=on (.int (r:Int)):=by subst h;rfl
theorem mI{a_:List (List D)}(h:a_.length=r):eV [lG a_]=on (.int (r:Int)):=cK (by rw[QX,h])
theorem jL{a_:List (List D)}{k:Nat}{row:List D}(h:a_[k]?=on row):ko (lG a_) (.int (k:Int))=on (.lst row):=BI (by omega) (by rw[SQ,Q5,h];rfl)
theorem bR{xs:List D}{k:Nat}{d:D}(h:xs[k]?=on d):ko (.lst xs) (.int (k:Int))=on d:=BI (by omega) (by rw[SQ];exact h)
theorem fR{x y:D}:iz [x,y]=on (.tup [x,y]):=by
 unfold iz;rw[Rb (show[x,y].length<=RF by rw[Rl,Sd];decide)]
theorem EX:kZ []=on (.lst []):=by
 unfold kZ;rw[Rb (show([]:List D).length<=RF by rw[XV];decide)]
theorem mG{x:D}:kZ [x]=on (.lst [x]):=by
 unfold kZ;rw[Rb (show[x].length<=RF by rw[Sd];decide)]
theorem ES{x y:Int}:u7 [.int x,.int y]=on (.int (UL x y)):=by
 unfold u7;simp only;congr 2;split<;>omega
theorem max2{x y:Int}:yr [.int x,.int y]=on (.int (max x y)):=by
 unfold yr;simp only;congr 2;split<;>omega
theorem eq_int{x y:Int}:ji (.int x) (.int y)=on (.bl (decide (x=y))):=by rw[QR]
theorem ne_int{x y:Int}:oZ (.int x) (.int y)=on (.bl (!decide (x=y))):=by rw[QP]
theorem xv{i:Nat}{d:D}(h:(dj 0 xs)[i]?=on d):∃x,xs[i]?=on x/\d= .tup [.int (i:Int),x]:=by
 obtain⟨x,b,a⟩:=mV h;rw[Sn]at a;exact⟨x,b,a⟩
theorem cS{α a:Type}{f:α->a}{xs:List α}{i:Nat}{d:a}(h:(xs.map f)[i]?=on d):∃x,xs[i]?=on x/\d=f x:=by
 rw[Q5]at h;cases q:xs[i]? with
 |none=>rw[q]at h;cases h
 |some x=>rw[q]at h;exact⟨x,rfl,by cases h;rfl⟩
noncomputable abbrev lz(r c:Nat):LP:=Rr r (Rr c (0,40))
noncomputable def at2{α:Type}(m:List (List α))(i j:Nat):Option α:=(m[i]?).bind λrow=>row[j]?
theorem xG{α:Type}{m:List (List α)}{i j:Nat}{x:α}(h:at2 m i j=on x):∃row∈m,x∈row:=by
 unfold at2 at h;cases q:m[i]? with
 |none=>rw[q]at h;cases h
 |some row=>rw[q]at h;exact⟨row,RK q,RK h⟩
theorem CN{α:Type}{m:List (List α)}{i j:Nat}{row:List α}{x:α}(a:m[i]?=on row)(b:row[j]?=on x):at2 m i j=on x:=by unfold at2;rw[a];exact b
structure PairOk (p:Int×Int):Prop where
 l:0<=p.1
 m:p.1<=p.2
 h:p.2<=40
def Kp(a_:LI)(b:LP):Prop:=∀i j x p,at2 a_ i j=on x->at2 b i j=on p->p.1<=x/\x<=p.2
theorem ul.le40{r c:Nat}(t:ul r c a_):∀row∈a_,∀x∈row,0<=x/\x<=40:=λrow a x b=>⟨t.nn row a x b,by
 have:=NH t.nn row a x b;have:=t.tot;omega⟩
theorem Kp.free{r c:Nat}(t:ul r c a_):Kp a_ (lz r c):=λi j x p k l=>by
 obtain⟨row,m,b⟩:=xG k;obtain⟨q,n,a⟩:=xG l;rw[(TH.mp n).2]at a;rw[(TH.mp a).2];exact t.le40 row m x b
theorem xC{α:Type}{δ:Dn}{β:Bg}(xs:List α)(u:α->D)(o:α->List D)(a:it δ β=on (.ok (xs.map u),β))
  (j:∀x∈xs,∃δ1,tg (u x) (lK nv cw δ)=on δ1/\b δ1 β=on (.ok (o x),β)) (k:(xs.flatMap o).length<=RF):bT nv cw it tg (λ_=>M.ret Q4) b δ β=on (.ok (.lst (xs.flatMap o)),β):=by
 refine rK a ?_ k;have gen:∀xs:List α,(∀x∈xs,∃δ1,tg (u x) (lK nv cw δ)=on δ1/\b δ1 β=on (.ok (o x),β))->p4 tg (λ_=>M.ret Q4) b (xs.map u) (lK nv cw δ) β=on (.ok (xs.flatMap o),β):=by
  intro xs
  induction xs with
  |nil=>intro _;rfl
  |cons x xs ih=>
   intro h;obtain⟨δ1,l,m⟩:=h x Q7;have n:=ih λy p=>h y (Q1 _ p);rw[Rk,p4];simp only[l,M.bind,M.ret,reduceIte,m,n,R6]
 exact gen xs j
theorem uV{α:Type}{f:FD}{δ:Dn}{β:Bg}(xs:List α)(u v:α->D)(a:it δ β=on (.ok (xs.map u),β))
  (b:∀x∈xs,∃δ1,tg (u x) δ=on δ1/\f δ1 β=on (.ok (v x),β)):U_ it tg (λ_=>M.ret Q4) (k_ f) δ β=on (.ok (xs.map v),β):=by
 have gen:∀xs:List α,(∀x∈xs,∃δ1,tg (u x) δ=on δ1/\f δ1 β=on (.ok (v x),β))->p4 tg (λ_=>M.ret Q4) (k_ f) (xs.map u) δ β=on (.ok (xs.map v),β):=by
  intro xs
  induction xs with
  |nil=>intro _;rfl
  |cons x xs ih=>
   intro h;obtain⟨δ1,j,k⟩:=h x Q7;have l:=ih λy m=>h y (Q1 _ m);rw[Rk,p4];simp only[j,M.bind,M.ret,reduceIte,k_,k,l,Rk,Vm,Ub]
 unfold U_;rw[M.bind_ok a];exact gen xs b
theorem BU{α a:Type}{f:α->List a}:∀{l:List α},(∀x∈l,(f x).length<=n)->(l.flatMap f).length<=n*l.length
 |[],_=>by simp
 |x::l,h=>by
  have j:=h x Q7;have k:=BU (l:=l) λy b=>h y (Q1 _ b);rw[R6,Ro,Rl,ZA];omega
theorem Pg{α a:Type}(xs:List α)(ys:α->List a)(p:α->a->Bool):v6 [.lst (xs.flatMap λx=>(ys x).map λy=>D.bl (p x y))]=on (.bl (xs.any λx=>(ys x).any (p x))):=by
 show(dS _).map _=_;rw[show(xs.flatMap λx=>(ys x).map λy=>D.bl (p x y))=(xs.flatMap λx=>(ys x).map (p x)).map D.bl by rw[Tt];simp only[Rc];rfl,sV];simp only[SY,List.any_flatMap,YR];rfl
theorem gx{α a:Type}(u:α->D)(v:a->D):∀(xs:List α) (ys:List a),d8 (xs.map u) (ys.map v)=(xs.zip ys).map λp=>D.tup [u p.1,v p.2]
 |[],ys=>by simp[d8]
 |x::xs,[]=>by simp[d8]
 |x::xs,y::ys=>by simp[d8,gx u v xs ys]
theorem Ps{α a:Type}{f g:FD}{δ:Dn}{β:Bg}{u:α->D}{v:a->D}{xs:List α}{ys:List a}(b:f δ β=on (.ok (.lst (xs.map u)),β))(j:g δ β=on (.ok (.lst (ys.map v)),β)):yp (ao f (ao g aN)) δ β=on (.ok ((xs.zip ys).map λp=>D.tup [u p.1,v p.2]),β):=by
 rw[<-gx];exact bv (aa b (aa j rfl)) rfl
theorem vT{xs:List D}{k:Nat}:ph xs (on (k:Int)) QY=xs.drop k:=by
 unfold ph;rw[HT.sIx_none,HT.sIx_nat];by_cases h:k<=xs.length
 .rw[show UL k xs.length=k by omega]
  rw[TY (by rw[XE];omega)]
 .rw[S5 (by omega),S5 (by omega)]
  simp
theorem rQ{f g:FD}{δ:Dn}{β:Bg}(a:f δ β=on (.ok (.lst xs),β))(b:g δ β=on (.ok (.int k),β)):fSl f (on g) QY δ β=on (.ok (.lst (ph xs (on k) QY)),β):=by
 unfold fSl uc;simp only[M.bind,a,b,M.ret,M.ofO,CO,slD]
theorem oj{xs ys:List D}(h:xs.length+ys.length<=1000):m6 (.lst xs) (.lst ys)=on (.lst (xs++ys)):=by
 unfold m6;simp only;rw[Rb (aY h)]
def kH:List D->List Ra->Prop
 |[],[]=>True
 | .int i::ds,.int j _::vs=>i=j/\kH ds vs
 | .str x::ds,.str y _::vs=>x=y/\kH ds vs
 | .bl x::ds,.bool y::vs=>x=y/\kH ds vs
 | .non::ds,.none::vs=>kH ds vs
 |_,_=>False
theorem g9{K:RB}:∀{ds:List D} {vs:List Ra},kH ds vs->∃xs,au xs vs/\∀F H,bb K F H ds xs
 |[],[],_=>⟨[],.nil,λ_ _=>bb.nil⟩
 | .int i::ds,.int j t::vs,h=>by
  obtain⟨e,h⟩:=h;subst e;obtain⟨xs,a,b⟩:=g9 (K:=K) h;exact⟨.int i::xs,.cons ⟨t,rfl⟩ a,λF H=>bb.cons rfl (b F H)⟩
 | .str i::ds,.str j t::vs,h=>by
  obtain⟨e,h⟩:=h;subst e;obtain⟨xs,a,b⟩:=g9 (K:=K) h;exact⟨.str i::xs,.cons ⟨t,rfl⟩ a,λF H=>bb.cons rfl (b F H)⟩
 | .bl i::ds,.bool j::vs,h=>by
  obtain⟨e,h⟩:=h;subst e;obtain⟨xs,a,b⟩:=g9 (K:=K) h;exact⟨.bl i::xs,.cons rfl a,λF H=>bb.cons rfl (b F H)⟩
 | .non::ds,.none::vs,h=>by
  obtain⟨xs,a,b⟩:=g9 (K:=K) (ds:=ds) (vs:=vs) h;exact⟨.non::xs,.cons rfl a,λF H=>bb.cons rfl (b F H)⟩
def VIs(K:RB)(d:D)(u:Ra):Prop:=∃v,aT v u/\∀F H,cp K F H d v
theorem nu{K:RB}{i:Int}{t:Tok}:VIs K (.int i) (.int i t):=⟨.int i,⟨t,rfl⟩,λ_ _=>rfl⟩
theorem KW{K:RB}:VIs K .non .none:=⟨.non,rfl,λ_ _=>rfl⟩
theorem KV{K:RB}{q3:Array Ra}(a:K.lookup p=on ⟨q1,q2,.seq q3 q4,q5⟩)(b:q1= .type "tuple")(j:q3.size<=RF)(k:kH ds q3.toList):VIs K (.tup ds) (.ref p):=by
 obtain⟨xs,l,m⟩:=g9 (K:=K) k;exact⟨.ref p,rfl,λF H=>⟨p,xs,rfl,.inr ⟨_,q3,q4,a,b,rfl,j,l⟩,m F H⟩⟩
theorem qJ{K:RB}{mg:R3->Option Ra}{x:R3}{d:D}{u:Ra}(h:mg x=on u)(v:VIs K d u):oq K mg x d:=let ⟨w,h1,h2⟩:=v;⟨u,w,h,h1,h2⟩
theorem CA{K:RB}{ps:List R3}{us:List Ra}(n:Nat)(l:ps.length=n+us.length)(b:∀(s:Rg) (vs:List Ra),K.In s.heap->vs.length=n->Xq s fd ⟨vs,[]⟩ (ps.zip (vs++us)))(h:∃vs,au vs us/\∀F H,bb K F H dd vs):bx K fd ps dd:=
 let ⟨vs,h1,h2⟩:=h
 ⟨us,vs,λs a j k=>b s a j (by rw[Ro]at k;omega),h1,h2⟩
theorem BY{K:RB}:∃vs,au vs []/\∀F H,bb K F H [] vs:=⟨[],.nil,λ_ _=>bb.nil⟩
theorem xw{K:RB}{d:D}{u:Ra}(v:VIs K d u)(h:∃vs,au vs us/\∀F H,bb K F H ds vs):∃vs,au vs (u::us)/\∀F H,bb K F H (d::ds) vs:=by
 obtain⟨w,a,b⟩:=v;obtain⟨vs,j,k⟩:=h;exact⟨w::vs,.cons a j,λF H=>bb.cons (b F H) (k F H)⟩
inductive D_ (K:RB):List (Sr D)->List (Sr Ra)->Prop where
 |nil:D_ K [] []
 |kw {j:Nat} {a:List (Sr D)} {c:List (Sr Ra)}:D_ K a c->D_ K (.kw j::a) (.kw j::c)
 |df {x:D} {y:Ra} {a:List (Sr D)} {c:List (Sr Ra)}:VIs K x y->D_ K a c->D_ K (.df x::a) (.df y::c)
theorem D_.mid{K:RB}:∀{a:List (Sr D)} {c:List (Sr Ra)},D_ K a c->∃b:List (Sr V),lm aT b c/\lm (λd v=>∀F H,cp K F H d v) a b
 |_,_,.nil=>⟨[],.nil,.nil⟩
 |_,_,.kw (j:=j) h=>let ⟨b,h1,h2⟩:=D_.mid h;⟨.kw j::b,.kw h1,.kw h2⟩
 |_,_,.df v h=>let ⟨b,h1,h2⟩:=D_.mid h;let ⟨w,g1,g2⟩:=v;⟨.df w::b,.df g1 h1,.df g2 h2⟩
theorem Qt{K:RB}{ps ks:List R3}{src:List (Sr D)}{sv:List (Sr Ra)}(h:D_ K src sv)(j:ps.length=n+src.length)(k:0<ps.length)(b:∀(s:Rg) (us a:List Ra),K.In s.heap->us.length=n->a.length=ks.length->Xq s fd ⟨us,ks.zip a⟩ (ps.zip (us++sv.map (Sr.pick .none a)))):B_ K fd ps ks n src:=
 ⟨let ⟨sx,h1,h2⟩:=h.mid;⟨sv,sx,h1,h2,b⟩,j,k⟩
variable{X:Cx}{E:St->XK}{K:RB}{st:Sy}
theorem bb.erase:∀{ds:List D} {xs:List V} (i:Nat),bb K F H ds xs->bb K F H (ds.eraseIdx i) (xs.eraseIdx i)
 |[],xs,i,h=>by have q:xs=[]:=h;subst q;simp;rfl
 |c::ds,xs,0,h=>by
  obtain⟨y,r,q,b,a⟩:=h;subst q;exact a
 |c::ds,xs,i+1,h=>by
  obtain⟨y,r,q,b,a⟩:=h;subst q;exact⟨y,r.eraseIdx i,rfl,b,bb.erase i a⟩
end
section
variable{h:G}{δ:Ds}{β β1 β2 β3:Bg}{Q:xr->Bg->Prop}{i:Nat}{fa fb fv:FD}{fl:FL}{d d0 d1:D}{ds:List D}{op:D->D->Option D}
theorem Pt{δ:Dn}{β β1:Bg}(a:t δ β=on (.ok Q4,β1))(b:f δ β1=on r):fIf t f g δ β=on r:=by
 unfold fIf M.bind;rw[a];exact b
theorem Pw{δ:Dn}{β β1:Bg}(a:t δ β=on (.ok Q9,β1))(b:g δ β1=on r):fIf t f g δ β=on r:=by
 unfold fIf M.bind;rw[a];exact b
theorem tH{d:D}{δ:Dn}{β:Bg}(e:δ.getD n QY=on d):aj n δ β=on (.ok d,β):=by unfold aj;rw[e];rfl
end
section
variable{β β1 β2:Bg}{f g h:FD}{δ:Dn}{x y z:Int}
theorem rR(a:f δ β=on (.ok (.int x),β))(b:g δ β=on (.ok (.int y),β))(c:h δ β=on (.ok (.int z),β)):kE s9 Tm f g h δ β=on (.ok (.bl (decide (x<=y)&&decide (y<z))),β):=by
 unfold kE M.bind;rw[a];simp only[b,le_int,M.ofO,asB];by_cases q:x<=y
 .simp only[q,decide_true,SA,c,lt_int,Wh]
 .simp only[q,decide_false,RC,Sz,M.ret,WX]
theorem qo{K:RB}{f:R3}:∀{ns:List R3} {ds:List D} {xs:List V},bb K F H ds xs->(ns.zip ds).lookup f=on d->∃v,(ns.zip xs).lookup f=on v/\cp K F H d v
 |[],ds,xs,h,e=>by simp at e
 |n::ns,[],xs,h,e=>by simp at e
 |n::ns,c::ds,xs,h,e=>by
  obtain⟨x,r,q,a,b⟩:=h;subst q;rw[Tk,Wz]at e⊢;split at e
  .rename_i z
   cases e;exact⟨x,rfl,a⟩
  .rename_i z
   exact qo b e
theorem mH{α:Type}:∀{ns:List R3} {xs:List α},m∉ns->(ns.zip xs).lookup m=QY
 |[],xs,_=>by simp
 |n::ns,[],_=>by simp
 |n::ns,x::xs,h=>by
  rw[Tk,Wz];have a:m≠n:=λz=>h (by rw[z];exact Q7);have b:m∉ns:=λz=>h (Q1 _ z);rw[show(m==n)=Q9 by simpa using a];exact mH b
theorem bx.nil{K:RB}(b:ay K fd ps []):bx K fd ps []:=⟨[],[],b,.nil,λ_ _=>bb.nil⟩
end
section
variable{X:Cx}{E:St->XK}{o e:Expr}{es:List Expr}{pos p apos kpos:Vy}{x m:R3}{k n:Nat}{f C:Q6}{fd:RG}{ps ks:List R3}{kws:List WH}
noncomputable def yT(C:Q6)(f:R3):D->Option D
 | .obj C' ns ds=>if C'=C then(ns.zip ds).lookup f else QY
 |_=>QY
theorem eE{f:R3}(c:pa X.K C)(n:dU X.K C f)(j:PE X e (tV X.K g E))(l:Ve e f X.env (Sw e X.env)=Sw e X.env:=by rfl):PE X (.Attribute e f pos) (tV X.K (f1 (yT C f) g) E):=
 (No j l).imp λL H Q i=>ll i λF δ β fr q h=>⟨F,δ,β,fr,q,(run.bind (R:=cp X.K F) h).mono λv r i=>by
  obtain⟨d,β1,t,hd,r1⟩:=i;obtain⟨d3,b,k⟩:=run.ofO r1;cases d<;>first|cases b|skip
  rename_i u ns ds;unfold yT at b;simp only at b;split at b
  .rename_i z
   subst z;unfold cp at hd;obtain⟨a,y,xs,rfl,N,A,O,B⟩:=hd;obtain⟨w,I,J⟩:=qo B b;exact⟨a,u,y,_,w,rfl,A,c,n,I,k w r (To.refl t.fr) J⟩
  .cases b⟩
def n6(C:Q6)(m:R3)(a:List D->M D)(b:FD)(g:FL)(c:List D):FD:=λδ=>M.bind (b δ) λd=>match d with
 | .obj C' ns _=>if C'=C/\m∉ns then M.bind (g δ) λas=>a (d::(as++c))else M.fail
 |_=>M.fail
theorem u8{i:List D}{K:RB}(N:∀vs H Q E,z_ K n mf vs H Q E->R vs H Q E)(rd:∀F H,bb K F H i dvs)(hn:∀δ β r b,g δ β=on (.ok r,b)->r.length+i.length+1=n)(h:tV K (n6 C m mf fo g i) E σ H Q):xW C m R dvs E (tV K fo E) (i0 K g E) σ H Q:=by
 obtain⟨F,δ,β,fr,A,h⟩:=h;refine⟨F,δ,β,fr,A,(run.bind (R:=cp K F) h).mono λv O T=>oa T λd β1 t hd r1=>?_⟩;have fail:∀{j:M D},j=M.fail->run (cp K F) F E σ j O Q β1->False:=λ{j} e r=>by
  obtain⟨r,b,B,_⟩:=r;rw[e]at B;cases B
 cases d<;>first|exact(fail rfl r1).elim|skip
 rename_i C' ns ds;simp only at r1;split at r1
 .rename_i z
  obtain⟨rfl,hm⟩:=z;have l:=hd;unfold cp at hd;obtain⟨a,U,xs,rfl,h1,W,h3,h4⟩:=hd;refine⟨a,U,_,rfl,W,mH hm,F,δ,β1,t.fr,A.tr (t.tr fr),?_⟩;obtain⟨r0,q,I,J⟩:=run.bind (R:=bb K F) r1;refine⟨r0,q,I,?_⟩;cases r0 with
  |error C=>exact J
  |ok as=>
   intro vs u Y c;obtain⟨d',β2,L,y,Z⟩:=J vs u Y c;have hl:=hn _ _ _ _ I;have hz:=(rd F u).length;refine N _ _ _ _ ⟨by rw[Rl,Ro,<-c.length,<-hz,hl],F,_::(d'++i),β2,L.fr,bb.cons (cp.tr (L.tr t.fr) _ _ l) (bb.append y (rd F u)),run.toE Z⟩
 .exact(fail rfl r1).elim
theorem lW{a:List D}(c:pa X.K C)(hm:i_ X.K C m f)(G:fh X.prog X.w X.K X.mg X.base (hY X.prog X.w) k f fd ps (z_ X.K n mf))(l:ef k X.A)(q:bx X.K fd ps a)(t:cI (hY X.prog X.w) X E)
  (u:PE X o (tV X.K fo E)) (ha:PA X (e::es) (i0 X.K g E)) (hn:∀δ β r j,g δ β=on (.ok r,j)->r.length+a.length+1=n)
  (d:Rm (e::es) X.env=(Q9,Sw e X.env)::Rm es X.env:=by rfl) (i:(Tx pos (Rm es X.env)).any (·.1)=Q9:=by rfl)
  (v:Sw (.Call (.Attribute o m apos) (e::es) [] pos) X.env=(do
   let ov <-Sw o X.env
   UF apos.atName
   let (f,first) <-U6 [ov] (Wq ov m pl)
   X7 pos f first (Tx pos (Rm (e::es) X.env)) (Uj pos (Th [] X.env))):=by rfl):
  PE X (.Call (.Attribute o m apos) (e::es) [] pos) (tV X.K (n6 C m mf fo g a) E):=by
 obtain⟨ds,y,b,B,rd⟩:=q;exact(Lx (pl:=pl) u c hm G l b B t ha d i v).imp λF H Q h=>u8 (λ_ _ _ _ z=>z) rd hn h
theorem dy{d:List D}(c:pa X.K C)(hm:i_ X.K C m f)(G:fh X.prog X.w X.K X.mg X.base (hY X.prog X.w) k f fd ps (z_ X.K n mf))(i:ef k X.A)(j:bx X.K fd ps d)(l:cI (hY X.prog X.w) X E)
  (q:PE X o (tV X.K fo E)) (hn:d.length+1=n)
  (t:Sw (.Call (.Attribute o m apos) [] [] pos) X.env=(do
   let ov <-Sw o X.env
   UF apos.atName
   let (f,first) <-U6 [ov] (Wq ov m pl)
   X7 pos f first (Tx pos (Rm [] X.env)) (Uj pos (Th [] X.env))):=by rfl):
  PE X (.Call (.Attribute o m apos) [] [] pos) (tV X.K (n6 C m mf fo aN d) E):=by
 obtain⟨ds,u,b,y,rd⟩:=j;refine(EF (pl:=pl) q c hm G i b y l t).imp λU H Q h=>?_;obtain⟨F,δ,β,fr,B,h⟩:=u8 (λ_ _ _ _ z=>z) rd (λδ β r I e=>by cases e;simpa using hn) h;refine⟨F,δ,β,fr,B,h.mono λv W ⟨a,J,fs,L,ha,N,Y,O,β2,g,R,T⟩=>⟨a,J,fs,L,ha,N,?_⟩⟩;exact run.ret g T bb.nil
def vL(C:Q6)(m:R3)(a:List D->M D)(b:FD)(g c:FL)(src:List (Sr D)):FD:=λδ=>M.bind (b δ) λd=>match d with
 | .obj C' ns _=>if C'=C/\m∉ns then M.bind (g δ) λas=>M.bind (c δ) λks=>a (d::(as++src.map (Sr.pick .non ks)))else M.fail
 |_=>M.fail
def MG(C:Q6)(m:R3)(sp:Sp)(d:List V->List V->List V)(E:St->XK)(g:TE)(t h:TA):TE:=λb H Q=>g b H λx c=>∃a i fs,x= .ref a/\c a=on (.ins C i fs)/\fs.lookup m=QY/\
 t b c λvs j=>h b j λl q=>sp (d (x::vs) l) q Q (E b)
theorem EE(N:PE X o ta)(c:pa X.K C)(hm:i_ X.K C m f)(F:fh X.prog X.w X.K X.mg X.base CX k f fd ps sp)(O:ef k X.A)(R:u_ X.K fd ps ks g gV)(T:cI CX X E)(ha:PA X (e::es) t)(i:PK X kws tk)
  (d:(Uj pos (Th kws X.env)).all (·.1.isSome)=Q4:=by rfl) (j:(Uj pos (Th kws X.env)).filterMap (·.1)=ks:=by rfl)
  (v:Rm (e::es) X.env=(Q9,Sw e X.env)::Rm es X.env:=by rfl) (y:((Tx pos (Rm (e::es) X.env)).any (·.1)||(Uj pos (Th kws X.env)).any (·.1.isNone))=Q9:=by rfl)
  (U:Sw (.Call (.Attribute o m apos) (e::es) kws pos) X.env=(do
   let ov <-Sw o X.env
   UF apos.atName
   let (f,first) <-U6 [ov] (Wq ov m pl)
   X7 pos f first (Tx pos (Rm (e::es) X.env)) (Uj pos (Th kws X.env))):=by rfl):
  PE X (.Call (.Attribute o m apos) (e::es) kws pos) (MG C m sp gV E ta t tk):=by
 intro b s B H Q I h;refine ZI (pl:=pl) (ee (N b s B H _ I h) λu Y ⟨x,Z,J,rx,a,dx,fs,ex,ea,l,q⟩=>?_) U;subst ex;obtain rfl:u=RI a:=rx;refine lh J ea c hm l ?_;refine PySem.W.callWith_KW (first:=[.ref a]) (h₀:=X.base) I.ok.mod.kin hm.kp d (ee (ha pos b Y B Z _ J q) λus s2 ⟨vs,H2,I2,r,q2⟩=>?_) y v
 refine ee (i pos b s2 B H2 _ I2 q2) λws s3 ⟨zs,H3,L,rz,q3⟩=>⟨L.kIn,?_⟩;rw[j];exact Li (us:= .ref a::us) (vs:= .ref a::vs) F O R T L (.cons rfl r) rz q3
theorem ww{src:List (Sr D)}(c:pa X.K C)(hm:i_ X.K C m f)(G:fh X.prog X.w X.K X.mg X.base (hY X.prog X.w) k f fd ps (z_ X.K n mf))(hr:ef k X.A)(hb:B_ X.K fd ps ks (n1+1) src)(hx:cI (hY X.prog X.w) X E)
  (ho:PE X o (tV X.K fo E)) (ha:PA X (e::es) (i0 X.K g E)) (q:PK X kws (i0 X.K gk E)) (hn:∀δ β r b,g δ β=on (.ok r,b)->r.length=n1) (u:∀δ β r b,gk δ β=on (.ok r,b)->r.length=ks.length) (h3:n1+1+src.length=n)
  (j:(Uj pos (Th kws X.env)).all (·.1.isSome)=Q4:=by rfl) (y:(Uj pos (Th kws X.env)).filterMap (·.1)=ks:=by rfl)
  (B:Rm (e::es) X.env=(Q9,Sw e X.env)::Rm es X.env:=by rfl) (I:((Tx pos (Rm (e::es) X.env)).any (·.1)||(Uj pos (Th kws X.env)).any (·.1.isNone))=Q9:=by rfl)
  (ht:Sw (.Call (.Attribute o m apos) (e::es) kws pos) X.env=(do
   let ov <-Sw o X.env
   UF apos.atName
   let (f,first) <-U6 [ov] (Wq ov m pl)
   X7 pos f first (Tx pos (Rm (e::es) X.env)) (Uj pos (Th kws X.env))):=by rfl):
  PE X (.Call (.Attribute o m apos) (e::es) kws pos) (tV X.K (vL C m mf fo g gk src) E):=by
 obtain⟨sv,sx,rd,kb⟩:=hb.kb;refine(EE (pl:=pl) ho c hm G hr kb hx ha q j y B I ht).imp λσ H Q J=>ll J λF δ β fr L h=>⟨F,δ,β,fr,L,(run.bind (R:=cp X.K F) h).mono λv H1 J=>oa J λd β1 t hd r1=>?_⟩;have fail:∀{N:M D},N=M.fail->run (cp X.K F) F E σ N H1 Q β1->False:=λ{N} e r=>by
  obtain⟨r,b,e',_⟩:=r;rw[e]at e';cases e'
 cases d<;>first|exact(fail rfl r1).elim|skip
 rename_i C' ns ds;simp only at r1;split at r1
 .rename_i z
  obtain⟨rfl,O⟩:=z;have T:=hd;unfold cp at hd;obtain⟨a,dx,xs,rfl,h1,h2,h3',U⟩:=hd;refine⟨a,dx,_,rfl,h2,mH O,F,δ,β1,t.fr,L.tr (t.tr fr),?_⟩;obtain⟨r0,W,e0,h0⟩:=run.bind (R:=bb X.K F) r1;refine⟨r0,W,e0,?_⟩;cases r0 with
  |error C=>exact h0
  |ok as=>
   intro vs H2 t2 i;obtain⟨d',β2,l,Y,r3⟩:=h0 vs H2 t2 i;refine⟨F,δ,β2,l.fr,(L.tr (t.tr fr)).tr (l.tr t.fr),?_⟩;obtain⟨q0,Z,e4,U⟩:=run.bind (R:=bb X.K F) r3;refine⟨q0,Z,e4,?_⟩;cases q0 with
   |error C=>exact U
   |ok bs=>
    intro zs H3 t4 hz;obtain⟨d5,β5,t5,hd5,r5⟩:=U zs H3 t4 hz;have l1:=hn _ _ _ _ e0;have l2:=u _ _ _ _ e4;have g1:gK V.non (n1+1) ks.length sx (.ref a::vs) zs=(.ref a::vs)++sx.map (Sr.pick .non zs):=Rb ⟨by rw[Rl,<-i.length,l1],by rw[<-hz.length,l2]⟩;rw[g1];have hda:bb X.K F H3 d' vs:=bb.tr (t5.tr l.fr) _ _ Y;refine⟨by rw[Ro,QX,Rl,<-i.length,l1,<-rd.len,h3],F,_::(d'++src.map (Sr.pick .non d5)),β5,t5.fr,bb.cons (cp.tr (t5.tr l.fr) _ _ (cp.tr (l.tr t.fr) _ _ T)) (bb.append hda (lm.den hd5 rd)),run.toE r5⟩
 .exact(fail rfl r1).elim
structure ToX (F:Fx) (x:Q6) (H H':Hp) (β':Bg):Prop where
 kp:∀a o,a≠x->H a=on o->(∀b l,F.bg=on (b,l)->a≠b/\a≠l)->H' a=on o
 fr:Fr F H' β'
def spI(K:RB)(C:Q6)(ns:List R3)(n:Nat)(g:List D->M (List D)):Sp:=λvs H Q E=>∃x rest F ds β d,vs= .ref x::rest/\rest.length=n/\Fr F H β/\F.A x/\(∀b l,F.bg=on (b,l)->x≠b/\x≠l)/\H x=on (.ins C d [])/\bb K F H ds rest/\
 ∃r a,g ds β=on (r,a)/\match r with
  | .ok es=>∀c xs,ToX F x H c a->c x=on (.ins C d (ns.zip xs))->ns.length=xs.length->bb K F c es xs->Q .non c
  | .error Ce=>∀c,ToX F x H c a->E (.ref Ce) QY c
variable{ns:List R3}
def qF(C:Q6)(ns:List R3)(a:List D->M (List D))(g:FL)(b:List D):FD:=λδ=>M.bind (g δ) λas=>M.bind (a (as++b)) λfs=>M.ret (.obj C ns fs)
theorem ET{K:RB}{vs:List V}(fr:Fr F H2 β2)(R:vs.length=n)(hd:bb K F H2 ds vs)(r:run (cp K F) F E σ (M.bind (mi ds) λfs=>M.ret (.obj C ns fs)) H2 Q β2):
  ∀x c,H2 x=QY->H2 c=QY->c≠x->spI K C ns n mi (.ref x::vs) (upd (upd H2 c (.own x)) x (.ins C c [])) (λv T=>v= .non/\Q (.ref x) T) (E σ):=by
 intro x c H I ne;have J:¬F.A x:=fr.fresh H;have same:bK H2 (upd (upd H2 c (.own x)) x (.ins C c [])):=λa o h=>by
  rw[b_ (az h H),b_ (az h I)];exact h
 have t:=fr.same same;have L:Fr (F.but x) (upd (upd H2 c (.own x)) x (.ins C c [])) β2:=⟨λa ha z=>(by
  rcases ha with ha|ha
  .exact t.fr.occ a ha z
  .subst ha;rw[aq]at z;cases z),λb l q=>let ⟨z1,z2,z3⟩:=fr.bgA b l q;⟨.inl z1,.inl z2,z3⟩,t.fr.bag⟩
 have U:∀b l,F.bg=on (b,l)->x≠b/\x≠l:=λb l q=>⟨λz=>J (z▸(fr.bgA b l q).1),λz=>J (z▸(fr.bgA b l q).2.1)⟩;have N:Tr F H2 (F.but x) (upd (upd H2 c (.own x)) x (.ins C c [])):=⟨λa W Y z=>by
  rcases z with z|z
  .exact W z
  .subst z;exact Y H,λa o _ h=>same a o h,rfl⟩
 obtain⟨Z,d,g,h⟩:=r;refine⟨x,vs,F.but x,ds,β2,c,rfl,R,L,.inr rfl,U,aq,bb.tr N _ _ hd,?_⟩;have u:∀{i:Hp} {d:Bg},ToX (F.but x) x (upd (upd H2 c (.own x)) x (.ins C c [])) i d->To F H2 i d:=λ{i d} j=>⟨λa o ha n=>j.kp a o (az ha H) (same a o ha) n,⟨λa ha=>j.fr.occ a (.inl ha),fr.bgA,j.fr.bag⟩⟩;cases q:mi ds β2 with
 |none=>unfold M.bind at g;rw[q]at g;cases g
 |some z=>
  obtain⟨r1,β1⟩:=z;refine⟨r1,β1,rfl,?_⟩;cases r1 with
  |error Ce=>
   rw[M.bind_err q]at g;cases g;exact λi j=>h i (u j)
  |ok fs=>
   rw[M.bind_ok q]at g;cases g;refine λi xs j O y B=>⟨rfl,h (.ref x) i (u j) ⟨x,c,xs,rfl,J,O,y,bb.tr Fx.tr_of _ _ B⟩⟩
theorem jX{a:List D}(v:Mk X.K C f)(G:fh X.prog X.w X.K X.mg X.base (hY X.prog X.w) k f fd ps (spI X.K C ns n mi))(y:ef (k+1) X.A)(B:Gl X x)(hm:X.mg x=on (.ref C))(I:bx X.K fd ps a)(J:cI (hY X.prog X.w) X E)
  (ha:PA X (e::es) (i0 X.K g E)) (hn:∀δ β r h,g δ β=on (.ok r,h)->r.length+a.length=n) (c:(x==("__debug__":R3))=Q9:=by decide) (L:Rm (e::es) X.env=(Q9,Sw e X.env)::Rm es X.env:=by rfl) (d:(Tx pos (Rm es X.env)).any (·.1)=Q9:=by rfl):
  PE X (.Call (.Name x p) (e::es) [] pos) (tV X.K (qF C ns mi g a) E):=by
 obtain⟨ds,N,b,O,rd⟩:=I;refine(Ly v G y B hm b O J ha c L d).imp λσ H Q T=>ll T λF δ β fr U r=>⟨F,δ,β,fr,U,?_⟩;obtain⟨r0,i,q,u⟩:=run.bind (R:=bb X.K F) r;refine⟨r0,i,q,?_⟩;cases r0 with
 |error C=>exact u
 |ok as=>
  intro vs j t hd;obtain⟨d',β1,W,l,r1⟩:=u vs j t hd;have Y:=hn _ _ _ _ q;have Z:=(rd F j).length;exact ET W.fr (by rw[Ro,<-hd.length,<-Z,Y]) (bb.append l (rd F j)) r1
abbrev IP:=Ds->List D->Bg->Option (Except Q6 (List D)×Bg)
noncomputable def yG:IP:=λ_ done β=>on (.ok done,β)
noncomputable def k8(g:G)(a:IP):IP:=λδ done β=>match g δ β with
 |some (.nx δ1,β1)=>match δ[0]?,δ1[0]? with
  |some (on (Sl.sh (D.adr x))),on (on (Sl.sh (D.adr y)))=>if x=y then a δ1 done β1 else QY
  |_,_=>QY
 |some (.ex C _,β1)=>on (.error C,β1)
 |_=>QY
def iD(f:FD)(a:IP):IP:=λδ done β=>match f (vw δ) β with
 |some (.ok d,β1)=>a δ (done++[d]) β1
 |some (.error C,β1)=>on (.error C,β1)
 |none=>QY
structure na (x:Q6) (B:Ow) (H:Hp) (B':Ow) (H':Hp):Prop where
 kp:∀a o,a≠x->H a=on o->(B a=QY\/B a=on 0)->H' a=on o
 tg:∀a,B a=on 0\/B a=on 1->B' a=B a
 nn:∀a o,a≠x->H a=on o->B a=QY->B' a=QY
 al:∀a,H a≠QY->H' a≠QY
end
theorem hE.x{x:Q6}{B b:Ow}{H c:Hp}(s:hE B H b c):na x B H b c:=⟨λa o _=>s.kp a o,s.tg,λa o _=>s.nn a o,s.al⟩
theorem na.trans(a:na x B H B1 H1)(b:na x B1 H1 B2 H2):na x B H B2 H2:=by
 refine⟨λc o ne h n=>b.kp c o ne (a.kp c o ne h n) ?_,λc h=>?_,λc o ne h n=>b.nn c o ne (a.kp c o ne h (.inl n)) (a.nn c o ne h n),λc h=>b.al c (a.al c h)⟩
 .rcases n with n|n
  .exact .inl (a.nn c o ne h n)
  .exact .inr ((a.tg c (.inl n)).trans n)
 .have e:=a.tg c h
  rw[<-e]at h;exact(b.tg c h).trans e
def kI(K:RB)(bg:Option (Q6×Q6))(E:St->XK)(Dn:o_)(B:Ow)(H:Hp)(x C e:Q6)(all:List R3)(r:Except Q6 (List D))(d:Bg):Prop:=match r with
 | .ok ds=>∀b c a vs,na x B H c a->Fr (eg c bg) a d->a x=on (.ins C e (all.zip vs))->all.length=vs.length->bb K (eg c bg) a ds vs->Dn.nx b a
 | .error Ce=>∀b c a,na x B H c a->Fr (eg c bg) a d->E b (.ref Ce) QY a
theorem kI.pre{K:RB}{E:St->XK}{Dn:o_}(s:na x B H B1 H1)(h:kI K bg E Dn B H x C dx all r β'):kI K bg E Dn B1 H1 x C dx all r β':=by
 cases r with
 |ok ds=>exact λa b c vs t=>h a b c vs (s.trans t)
 |error d=>exact λa b c t=>h a b c (s.trans t)
def tI(K:RB)(H₀:Hp)(C:Q6)(a names:List R3)(f:IP)(E:St->XK):TS:=λDn g H=>∃B bg δ β x e b c r d,fw K H₀ B bg H δ β g/\δ[0]?=on (on (.sh (.adr x)))/\B x=on 0/\H x=on (.ins C e (a.zip b))/\a.length=b.length/\bb K (eg B bg) H c b/\f δ c β=on (r,d)/\kI K bg E Dn B H x C e (a++names) r d
theorem sC:∀{ns:List R3} {vs:List V},ns.length=vs.length->f∉ns->dN f y (ns.zip vs)=(ns++[f]).zip (vs++[y])
 |[],[],_,_=>rfl
 |n::ns,v::vs,h,hf=>by
  have a:¬n=f:=λz=>hf (by rw[z];exact Q7);show(if n=f then(n,y)::ns.zip vs else(n,v)::dN f y (ns.zip vs))=_;rw[Q8 a,sC (by simpa using h) λz=>hf (Q1 _ z)];rfl
 |[],_::_,h,_=>by simp at h
 |_::_,[],h,_=>by simp at h
theorem fw.upd0{K:RB}(ok:fw K H₀ B bg H δ β σ)(g:B x=on 0):fw K H₀ B bg (upd H x o) δ β σ/\na x B H B (upd H x o):=by
 have al:∀c,H c≠QY->upd H x o c≠QY:=λc f=>by
  by_cases z:c=x
  .subst z;rw[aq];simp
  .rw[b_ z];exact f
 have t:∀b l,bg=on (b,l)->b≠x/\l≠x:=λb l e=>by
  obtain⟨b1,b2⟩:=ok.bgt b l e;exact⟨λz=>(by rw[z,g]at b1;cases b1),λz=>(by rw[z,g]at b2;cases b2)⟩
 have tr:Tr (eg B bg) H (eg B bg) (upd H x o):=⟨λ_ h _=>h,λc u f e=>by
  rw[b_]
  .exact e
  .intro z;subst z;exact f (by show B c≠QY;rw[g];simp),rfl⟩
 refine⟨⟨⟨λc f=>al c (ok.fr.occ c f),ok.fr.bgA,λb l e=>?_⟩,ok.bgt,ok.len,λc f=>al c (ok.cov c f),ok.new,λc k f=>?_,λi s e=>?_⟩,λc u ne h _=>by rw[b_ ne];exact h,λ_ _=>rfl,λ_ _ _ _ n=>n,al⟩
 .obtain⟨y,A⟩:=ok.fr.bag b l e
  obtain⟨C,F⟩:=t b l e;exact⟨by rw[b_ C];exact y,by rw[b_ F];exact A⟩
 .obtain⟨xs,h⟩:=ok.lst c k f
  exact⟨xs,by rw[b_];exact h;intro z;subst z;rw[g]at f;cases f⟩
 .obtain⟨v,I,j⟩:=ok.tell i s e
  refine⟨v,I,?_⟩;cases s with
  |sh d=>exact cp.tr tr _ _ j
  |own ds=>
   obtain⟨a,xs,rfl,hB,ha,hd⟩:=j;exact⟨a,xs,rfl,hB,(by rw[b_];exact ha;intro z;subst z;rw[g]at hB;cases hB),bb.tr tr _ _ hd⟩
  |grd a_=>
   obtain⟨a,rs,rfl,hB,ha,nd,J⟩:=j;refine⟨a,rs,rfl,hB,(by rw[b_];exact ha;intro z;subst z;rw[g]at hB;cases hB),nd,d4.tr tr J λr xs _ p q=>⟨p,?_⟩⟩;rw[b_]
   .exact q
   .intro z;subst z
    have m:B r=on (i+2):=p;rw[g]at m;cases m
section
variable{X:Cx}{E:St->XK}{st:Sy}{sts:List Sy}{C:Q6}{ns0 names:List R3}{ip:IP}
theorem Kz:PSs X [] (tI X.K X.H₀ C ns0 [] yG E):=rj.imp λDn b H c=>by
 obtain⟨B,bg,δ,β,x,i,a,d,r,f,ok,j,l,g,h,hd,e,k⟩:=c;cases e;rw[RX]at k;exact k b B H a (hE.refl B H).x ok.fr g h hd
theorem yH(m:PS X st (tG X.K X.H₀ g E))(n:PSs X sts (tI X.K X.H₀ C ns0 names ip E)):PSs X (st::sts) (tI X.K X.H₀ C ns0 names (k8 g ip) E):=(db m n).imp λDn y H o=>by
 obtain⟨B,bg,δ,β,x,p,c,d,r,f,ok,q,h,t,u,hd,e,k⟩:=o;unfold k8 at e;split at e
 .rename_i δ1 β1 i
  split at e
  .rename_i A F q1 q2
   split at e
   .rename_i z
    subst z;rw[q]at q1;cases q1;refine⟨B,bg,δ,β,.nx δ1,β1,ok,i,λb j l s a=>?_⟩;exact⟨j,bg,δ1,β1,x,p,c,d,r,f,a,q2,(s.tg x (.inl h)).trans h,s.kp x _ t (.inr h),u,bb.tr s.tr _ _ hd,e,kI.pre s.x k⟩
   .cases e
  .cases e
 .rename_i v δ1 β1 i
  cases e;exact⟨B,bg,δ,β,.ex v δ1,_,ok,i,λb j l s a=>k b j l s.x a.fr⟩
 .cases e
theorem qB(c:pa X.K C)(n:dU X.K C f)(Q:f∉ns0)(L:ns0.length<1000)(R:PS X st (MZ X.K (lY 0) (tV X.K fv E) f))(T:PSs X sts (tI X.K X.H₀ C (ns0++[f]) names ip E)):PSs X (st::sts) (tI X.K X.H₀ C ns0 (f::names) (iD fv ip) E):=(db R T).imp λDn U H W=>by
 obtain⟨B,bg,δ,β,x,l,g,q,r,t,ok,N,m,Y,O,hd,e,k⟩:=W;refine⟨eg B bg,vw δ,β,ok.fr,ok.view,?_⟩;unfold iD at e;split at e
 .rename_i d β1 A
  refine⟨.ok d,β1,A,λy p F Z=>?_⟩;obtain⟨b,i⟩:=ok.to rfl F;obtain⟨v,g1,g2⟩:=b.tell 0 _ N;have hv:v= .ref x:=g2;subst hv;have I:=i.kp x _ Y (.inr m);refine⟨_,g1,x,C,l,_,rfl,I,c,n,?_,?_⟩
  .rw[Ua];omega
  obtain⟨J,s2⟩:=b.upd0 (o:= .ins C l (dN f y (ns0.zip g))) m;have j:Tr (eg B bg) p (eg B bg) (upd p x (.ins C l (dN f y (ns0.zip g)))):=⟨λ_ h _=>h,λa u ha e=>by
   rw[b_]
   .exact e
   .intro z;subst z;exact ha (by show B a≠QY;rw[m];simp),rfl⟩
  refine⟨B,bg,δ,β1,x,l,g++[y],q++[d],r,t,J,N,m,by rw[aq,sC O Q],by simp[O],bb.append (bb.tr j _ _ (bb.tr i.tr _ _ hd)) (bb.cons (cp.tr j _ _ Z) bb.nil),e,?_⟩;rw[Sm];exact kI.pre (i.x.trans s2) k
 .rename_i Ce β1 A
  cases e;refine⟨.error Ce,_,A,λp F=>?_⟩;obtain⟨b,i⟩:=ok.to rfl F;exact k U B p i.x b.fr
 .cases e
end
open Classical in
def ld(m:Nat)(a:IP):List D->M (List D):=λds β=>if h:∃r,∀x,a (vu m (.adr x::ds)) [] β=on r then on h.choose else QY
theorem vx(h:∀x,ip (vu m (.adr x::ds)) [] β=on r):ld m ip ds β=on r:=by
 have a:∃r,∀x,ip (vu m (.adr x::ds)) [] β=on r:=⟨r,h⟩;unfold ld;rw[dif_pos a];have:=a.choose_spec 0;rw[h 0]at this;exact this.symm
theorem BO(h:ld m ip ds β=on r):∀x,ip (vu m (.adr x::ds)) [] β=on r:=by
 unfold ld at h;split at h
 .rename_i a
  have:=a.choose_spec;cases h;exact this
 .cases h
section
variable{P:RT}{w:R8}{K:RB}{mg:R3->Option Ra}{base:SE}
theorem xo{st:Sy}{N ps names:List R3}(n m:Nat)(ip:IP)(F:dq K x qual st f fd)(S:cb N ps (ae st))(O:ps.length=n+1)(R:N.length=m)
  (p:∀(i:Ra) (A:SB) (outer:List Yi) (s:Rg) (H:Hp) (E:XK),ef k (A.deeper (VL qual (ae st) s.heap.objs.size f i))->
   PSs (gn (hY P w) P w K mg base N qual (ae st) f i A outer s H E) (c8 st) (tI K H C [] names ip (λ_=>E))):fh P w K mg base (hY P w) (k+1) f fd ps (spI K C names n (ld m ip)):=by
 subst R;refine F.okE S (λvs H Q E h=>?_) λi A outer s H vs Q E hr h=>?_
 .obtain⟨y,rest,j,ds,β,dx,rfl,hl,_⟩:=h
  rw[Rl,hl,O]
 obtain⟨y,rest,j,ds,β,dx,rfl,hl,fr,T,nb,hH,hd,r,d,e,h⟩:=h;refine⟨_,p i A outer s H E hr,?_⟩;have U:bb K j H (.adr y::ds) (.ref y::rest):=bb.cons rfl hd;obtain⟨B,ok,L,h1,hn⟩:=zG (N:=N) fr U;have hy:B y=on 0:=by
  rcases L y T with z|z
  .exact z
  .obtain⟨b,l,q,w⟩:=h1 y z
   obtain⟨W,X⟩:=nb b l q;rcases w with w|w
   .exact RJ w W
   .exact RJ w X
 have v:∀{u:Ow} {g:Hp} {d:Bg},na y B H u g->Fr (eg u j.bg) g d->ToX j y H g d/\Tr (eg u j.bg) g j g:=λ{u g d} s c=>by
  have hs:∀a,j.A a->u a≠QY:=λa ha=>by
   rw[s.tg a (L a ha)];rcases L a ha with z|z<;>rw[z]<;>simp
  refine⟨⟨λa o ne ha n=>s.kp a o ne ha ?_,λa ha=>c.occ a (hs a ha),λb l e=>fr.bgA b l e,c.bag⟩,λa ha _ z=>ha (hs a z),λ_ _ _ h=>h,rfl⟩;cases q:B a with
  |none=>exact .inl rfl
  |some t=>
   have:=L a (hn a (by rw[q];simp));rcases this with z|z
   .rw[q]at z;exact .inr z
   .obtain⟨b,l,e,w⟩:=h1 a z
    obtain⟨W,X⟩:=n b l e;rcases w with w|w
    .exact RJ w W
    .exact RJ w X
 refine⟨B,j.bg,vu N.length (.adr y::ds),β,y,dx,[],[],r,d,ok,rfl,hy,hH,rfl,bb.nil,BO e y,?_⟩;cases r with
 |ok es=>
  intro Y u g vs s c Z I J;obtain⟨t1,t2⟩:=v s c;exact h g vs t1 Z I (bb.tr t2 _ _ J)
 |error Ce=>
  intro Y u g s c;exact h g (v s c).1
variable{X:Cx}{E:St->XK}{st:Sy}
def JS(to c:TE):TS:=λD a H=>to a H λo d=>c a d λi b=>∃l xs k j,o= .ref l/\i= .int k/\b l=on (.lst xs)/\mm xs.length k=on j/\D.nx a (upd b l (.lst (xs.eraseIdx j)))
theorem Lp(g:PE X o to)(m:PE X i ti):PS X (.Delete [.Subscript o i tpos] pos) (JS to ti):=by
 intro a s c H D I h;refine wpAny_Delete (wpAny_deleteEach_cons (wpAny_delete_Subscript (ee (g a s c H _ I h) λu p ⟨x,q,v,A,q1⟩=>ee (m a p c q _ v q1) λN B ⟨y,O,d,C,l,xs,k,j,ex,F,f,J,q2⟩=>?_)));subst ex F;obtain rfl:u=RI l:=A;obtain⟨t,rfl⟩:=C;obtain⟨z,its,n,r,b,e⟩:=d.lstM f;obtain⟨L,Q,R,T⟩:=rD J;have hn:=kz;refine PySem.P.delItem_list (n:=n) e (fitsIndex_both (by omega) (by omega)) (by rw[Rx,<-b];exact L) ?_ (by rw[Rx,<-b];exact z);refine wpAny_deleteEach_nil ⟨c,_,d.lset (t':=B.toks) (its':=its.eraseIdx j) f e ?_ (r.eraseIdx j) ?_,q2⟩
 .show its.toArray.eraseIdxIfInBounds j=(its.eraseIdx j).toArray
  rw[List.eraseIdxIfInBounds_toArray]
 .have:=List.length_eraseIdx_le xs j
  omega
def yM(i:Nat)(f:FD):G:=λδ β=>match δ.getD i QY with
 |some (.own cs)=>match f (hO δ) β with
  |some (.ok (.int k),β1)=>match mm cs.length k with
   |some j=>on (.nx (δ.set i (on (.own (cs.eraseIdx j)))),β1)
   |none=>QY
  |_=>QY
 |_=>QY
theorem PZ(h:PS X st (JS (lY i) (tV X.K f E))):PS X st (tG X.K X.H₀ (yM i f) E):=h.imp λD Q H y=>by
 obtain⟨B,bg,δ,β,o,A,ok,e,q⟩:=y;unfold yM at e;split at e
 case h_2=>cases e
 rename_i cs r;split at e
 case h_2=>cases e
 rename_i k β1 C;split at e
 case h_2=>cases e
 rename_i j F;cases e;obtain⟨v,m,a,ys,rfl,I,R,T⟩:=ok.tell i _ (getD_some r);refine⟨_,m,o0 B bg,hO δ,β,ok.frA,ok.viewA,.ok (.int k),_,C,λu U t J=>?_⟩;cases J;obtain⟨b,L⟩:=ok.to rfl t;obtain⟨W,c,Y,d,n,N,g,l⟩:=b.tell i _ (getD_some r);rw[m]at c;cases c;cases n;obtain⟨p,O⟩:=b.writeOwn (ds:=cs.eraseIdx j) (xs:=d.eraseIdx j) m I g (bb.erase j l);exact⟨a,d,k,j,rfl,rfl,g,by rw[<-l.length];exact F,q _ _ _ (L.trans O) p⟩
variable{h:G}{δ:Ds}{β β1:Bg}{Q:xr->Bg->Prop}{i:Nat}{f:FD}
theorem PF{cs:List D}(a:δ.getD i QY=on (.own cs))(e:f (hO δ) β=on (.ok (.int k),β1))(b:mm cs.length k=on j)(c:Gw h (δ.set i (on (.own (cs.eraseIdx j)))) β1 Q):Gw (bo (yM i f) h) δ β Q:=
 dX (by unfold yM;simp only[a,e,b]) c
end
section
variable{C Ce:Q6}{m:R3}{ns:List R3}{mf:List D->M D}{mi:List D->M (List D)}{fo:FD}{g gk:FL}{dd fs as ks:List D}{src:List (Sr D)}{δ:Dn}{β β1 β2 β3:Bg}{r:Except Q6 D×Bg}{d:D}{f:R3}{h:G}{Q:xr->Bg->Prop}{i:Nat}{δs:Ds}
theorem cA(a:fo δ β=on (.ok (.obj C ns fs),β1))(b:g δ β1=on (.ok as,β2))(c:mf (.obj C ns fs::(as++dd)) β2=on r)(hm:m∉ns:=by decide):n6 C m mf fo g dd δ β=on r:=by
 unfold n6;rw[M.bind_ok a];simp only[hm,not_false_eq_true,and_self,SA];rw[M.bind_ok b];exact c
theorem wr(a:fo δ β=on (.ok (.obj C ns fs),β1))(b:g δ β1=on (.ok as,β2))(c:gk δ β2=on (.ok ks,β3))(e:mf (.obj C ns fs::(as++src.map (Sr.pick .non ks))) β3=on r)(hm:m∉ns:=by decide):vL C m mf fo g gk src δ β=on r:=by
 unfold vL;rw[M.bind_ok a];simp only[hm,not_false_eq_true,and_self,SA];rw[M.bind_ok b,M.bind_ok c];exact e
theorem zh(a:g δ β=on (.ok as,β1))(b:mi (as++dd) β1=on (.ok fs,β2)):qF C ns mi g dd δ β=on (.ok (.obj C ns fs),β2):=by
 unfold qF;rw[M.bind_ok a,M.bind_ok b];rfl
theorem eC(a:x δ β=on (.ok (.obj C ns fs),β1))(b:(ns.zip fs).lookup f=on d):f1 (yT C f) x δ β=on (.ok d,β1):=by
 refine x_1 a ?_;unfold yT;simp only[SA];exact b
theorem Ms{fl:FL}(e:fl (vw δs) β=on (.ok ds,β1))(k:Gw h (δs.set i (on (.own ds))) β1 Q):Gw (bo (t8 i fl) h) δs β Q:=dX (by unfold t8;simp only[e]) k
theorem vq{g:G}{δ δ1:Ds}{r:Except Q6 (List D)×Bg}(e:g δ β=on (.nx δ1,β1))(a:δ[0]?=on (on (.sh (.adr x))))(b:δ1[0]?=on (on (.sh (.adr x))))(k:ip δ1 done β1=on r):k8 g ip δ done β=on r:=by
 unfold k8;simp only[e,a,b,SA];exact k
theorem mQ{f:FD}{δ:Ds}{d:D}{r:Except Q6 (List D)×Bg}(e:f (vw δ) β=on (.ok d,β1))(k:ip δ (done++[d]) β1=on r):iD f ip δ done β=on r:=by
 unfold iD;rw[e];exact k
noncomputable def vr{α:Type}(d:α)(c:Nat)(a_:List (List α)):List (List α):=(Re c).map λj=>a_.map λrow=>row.getD j d
abbrev tp(c:Nat)(a_:LI):LI:=vr 0 c a_
theorem vC{α a:Type}(f:α->a)(d:α)(l:List α)(j:Nat):f (l.getD j d)=(l.map f).getD j (f d):=by
 rw[QZ,QZ,Q5];cases l[j]?<;>rfl
theorem iE{α:Type}{d:α}{r c:Nat}{a_:List (List α)}(h:a_.length=r):hL c r (vr d c a_):=⟨by simp[vr],λrow a=>by
 obtain⟨j,_,rfl⟩:=Rp.mp a;rw[QX,h]⟩
theorem MC{α:Type}{d:α}{a_:List (List α)}(h:j<c):(vr d c a_)[j]?=on (a_.map λrow=>row.getD j d):=by
 unfold vr;rw[Q5,Se h];rfl
theorem ye{d:Int}:∀(row:List Int),(Re row.length).map (λj=>row.getD j d)=row:=λrow=>by
 refine List.ext_getElem? λi=>?_;rw[Q5];by_cases h:i<row.length
 .rw[Se h]
  show on (row.getD i d)=_;rw[QZ,Q2 h];rfl
 .rw[Vk (by simpa using h),Vk (by omega)];rfl
theorem qX{α:Type}(f g:α->Int):∀l:List α,(l.map λx=>f x+g x).sum=(l.map f).sum+(l.map g).sum
 |[]=>by simp
 |x::l=>by
  simp only[Rk,Rh,qX f g l];omega
theorem oK{α:Type}:∀l:List α,(l.map λ_=>(0:Int)).sum=0
 |[]=>rfl
 |x::l=>by simp only[Rk,Rh,oK l];rfl
theorem pJ:∀{a_:LI},(∀row∈a_,row.length=c)->tot (tp c a_)=tot a_
 |[],_=>by
  show((vr 0 c []).map SF).sum=0;unfold vr;rw[Rc];exact oK (Re c)
 |row::a_,h=>by
  have ih:=pJ (c:=c) (a_:=a_) λx b=>h x (Q1 _ b);have a:=h row Q7;unfold tot tp vr at ih⊢;rw[Rc]at ih⊢;have e:(λj=>(SF ((row::a_).map λrow=>row.getD j 0)))=λj=>row.getD j 0+(a_.map λrow=>row.getD j 0).sum:=by
   funext j;rw[Rk,Rh]
  show((Re c).map λj=>(SF ((row::a_).map λrow=>row.getD j 0))).sum=_;rw[e,qX,<-a,ye,a,Rk,Rh];congr 1
theorem xU(h:∀row∈a_,∀x∈row,0<=x):∀row∈tp c a_,∀x∈row,0<=x:=λrow a x b=>by
 obtain⟨j,_,rfl⟩:=Rp.mp a;obtain⟨q,k,rfl⟩:=Rp.mp b;rw[QZ];cases e:q[j]? with
 |none=>exact Zx 0
 |some y=>exact h q k y (RK e)
structure Gd (r c:Nat) (a_:LI):Prop where
 shp:hL r c a_
 nn:∀row∈a_,∀x∈row,0<=x
 tot:tot a_<=40
theorem ul.gd{r c:Nat}(t:ul r c a_):Gd r c a_:=⟨t.shp,t.nn,t.tot⟩
theorem Gd.tab{r c:Nat}(t:Gd r c a_)(r0:1<=r)(r1:r<=4)(c0:1<=c)(c1:c<=6):ul r c a_:=⟨t.shp,t.nn,t.tot,r0,r1,c0,c1⟩
theorem Gd.tp{r c:Nat}(t:Gd r c a_):Gd c r (tp c a_):=⟨iE t.shp.1,xU t.nn,by rw[pJ t.shp.2];exact t.tot⟩
def dh(x y:List Int):List Int:=(x.zip y).map λp=>p.1+p.2
theorem zb{x y:List Int}(a:x.length=c)(b:y.length=c):(dh x y).length=c:=by
 unfold dh;rw[QX,Ua];omega
theorem qO:∀{x y:List Int},x.length=y.length->(dh x y).sum=x.sum+y.sum
 |[],[],_=>rfl
 |a::x,b::y,h=>by
  have ih:=qO (x:=x) (y:=y) (by simpa using h);unfold dh at ih⊢;simp only[Tk,Rk,Rh,ih];omega
 |[],_::_,h=>by simp at h
 |_::_,[],h=>by simp at h
theorem CT(c:∀a∈x,0<=a)(e:∀a∈y,0<=a):∀a∈dh x y,0<=a:=λa ha=>by
 obtain⟨p,b,rfl⟩:=Rp.mp ha;have j:=c p.1 (VD b).1;have k:=e p.2 (VD b).2;omega
def e9(a_:LI)(i j:Nat):LI:=(a_.set i (dh (a_.getD i []) (a_.getD j []))).eraseIdx j
theorem rX:∀{xs:List Int} {j:Nat} {x:Int},xs[j]?=on x->(xs.eraseIdx j).sum=xs.sum-x
 |[],j,x,h=>by simp at h
 |y::xs,0,x,h=>by
  simp at h;subst h;simp only[YF,Rh];omega
 |y::xs,j+1,x,h=>by
  have h':xs[j]?=on x:=by simpa using h
  simp only[YE,Rh,rX h'];omega
theorem dP{α a:Type}(f:α->a):∀(l:List α) (j:Nat),(l.eraseIdx j).map f=(l.map f).eraseIdx j
 |[],j=>by simp
 |x::l,0=>rfl
 |x::l,j+1=>by simp[dP f l j]
theorem Gd.join{r c i j:Nat}(t:Gd r c a_)(n:i<r)(l:j<r)(a:i≠j):Gd (r-1) c (e9 a_ i j):=by
 obtain⟨x,b,o⟩:=t.shp.at n;obtain⟨y,e,p⟩:=t.shp.at l;have ex:a_.getD i []=x:=by rw[QZ,b];rfl
 have q:a_.getD j []=y:=by rw[QZ,e];rfl
 unfold e9;rw[ex,q];refine⟨⟨?_,λrow k=>?_⟩,λrow k=>?_,?_⟩
 .rw[VZ (by rw[RV,t.shp.1];exact l),RV,t.shp.1]
 .rcases Tw (Wn k)with h|rfl
  .exact t.shp.2 row h
  .exact zb o p
 .rcases Tw (Wn k)with h|rfl
  .exact t.nn row h
  .exact CT (t.nn x (RK b)) (t.nn y (RK e))
 .have u:=t.tot
  unfold L2.Pu.tot at u⊢;rw[dP,Uv,rX (x:=y.sum) (by
   rw[R4,Q8 a,Q5,e];rfl),gA (x:=x.sum) (by rw[Q5,b];rfl),qO (by omega)]
  omega
end
end L2.Pu
namespace L2.Pu
open PySem PySem.Spec PyProof PyProof.Rows
section
variable{X:Cx}
variable{prog:RT}{w:R8}{A:SB}{E:Ra->Rg->Prop}{s:Rg}{l:Q6}{xs:Array (Int×Tok)}
variable{K:RB}
end
end L2.Pu
namespace L2
open PySem PySem.Spec PyProof.Rows
end L2
namespace L2.Pu
open PySem PySem.Spec PyProof.Rows
section
variable{X:Cx}{E:St->XK}{K:RB}{elt cx iter:Expr}{ifs:List Expr}{rest:List S7}{scope:Scope}{pos:Vy}{Nc c_:List R3}{cw:List Nat}{g:TG}{tb:Q6->TB}
variable{st:Sy}{H₀:Hp}{B:Ow}{bg:Option (Q6×Q6)}{H H':Hp}{δ:Ds}{β β':Bg}{σ:St}
theorem lU1{us:List Ra}(h:us.length=1):∃a,us=[a]:=List.length_eq_one_iff.mp h
theorem lU2{us:List Ra}(h:us.length=2):∃c a1,us=[c,a1]:=by
 obtain⟨a,l,rfl⟩:=UO h;obtain⟨b,rfl⟩:=lU1 (us:=l) (by simpa using h);exact⟨_,_,rfl⟩
theorem lU3{us:List Ra}(h:us.length=3):∃d a1 a2,us=[d,a1,a2]:=by
 obtain⟨a,l,rfl⟩:=UO h;obtain⟨b,c,rfl⟩:=lU2 (us:=l) (by simpa using h);exact⟨_,_,_,rfl⟩
theorem lU4{us:List Ra}(h:us.length=4):∃e a1 a2 a3,us=[e,a1,a2,a3]:=by
 obtain⟨a,l,rfl⟩:=UO h;obtain⟨b,c,d,rfl⟩:=lU3 (us:=l) (by simpa using h);exact⟨_,_,_,_,rfl⟩
end
section
variable{X:Cx}{E:St->XK}{e e1 e2 e3 e4 e5:Expr}{es:List Expr}{pos p:Vy}{f1 f2 f3 f4 f5:FD}{g:FL}{k j n:Nat}{f:Q6}{fd:RG}{ps:List R3}{x:R3}{op:List D->Option D}{r:List V->Hp->VK->Prop}{id T:String}
theorem vv(i:Nat){x:R3}(b:X.N[i]?=on x:=by rfl)(c:Vis X.env.scope x:=by first|exact Tg rfl|exact T5 (Tg rfl)|exact T5 (T5 rfl))(hd:(x==("__debug__":R3))=Q9:=by decide)
  (a:(x==("__classdict__":R3))=Q9:=by decide):PE X (.Name x pos) (tV X.K (aj i) E):=PJ i (pv i b c hd a)
theorem dr(a:PE X e1 (tV X.K f1 E))(b:Rm [e1] X.env=(Q9,Sw e1 X.env)::Rm [] X.env:=by rfl):PA X [e1] (i0 X.K (ao f1 aN) E):=nw a ft b
theorem ej(a:PE X e1 (tV X.K f1 E))(b:PE X e2 (tV X.K f2 E))(c:Rm [e1,e2] X.env=(Q9,Sw e1 X.env)::Rm [e2] X.env:=by rfl)(d:Rm [e2] X.env=(Q9,Sw e2 X.env)::Rm [] X.env:=by rfl):PA X [e1,e2] (i0 X.K (ao f1 (ao f2 aN)) E):=nw a (dr b d) c
theorem pj(a:PE X e1 (tV X.K f1 E))(b:PE X e2 (tV X.K f2 E))(c:PE X e3 (tV X.K f3 E))(d:Rm [e1,e2,e3] X.env=(Q9,Sw e1 X.env)::Rm [e2,e3] X.env:=by rfl)(h:Rm [e2,e3] X.env=(Q9,Sw e2 X.env)::Rm [e3] X.env:=by rfl)(i:Rm [e3] X.env=(Q9,Sw e3 X.env)::Rm [] X.env:=by rfl):PA X [e1,e2,e3] (i0 X.K (ao f1 (ao f2 (ao f3 aN))) E):=nw a (ej b c h i) d
theorem K_(a:PE X e1 (tV X.K f1 E))(b:PE X e2 (tV X.K f2 E))(c:PE X e3 (tV X.K f3 E))(d:PE X e4 (tV X.K f4 E))(h:Rm [e1,e2,e3,e4] X.env=(Q9,Sw e1 X.env)::Rm [e2,e3,e4] X.env:=by rfl)(i:Rm [e2,e3,e4] X.env=(Q9,Sw e2 X.env)::Rm [e3,e4] X.env:=by rfl)(l:Rm [e3,e4] X.env=(Q9,Sw e3 X.env)::Rm [e4] X.env:=by rfl)(m:Rm [e4] X.env=(Q9,Sw e4 X.env)::Rm [] X.env:=by rfl):PA X [e1,e2,e3,e4] (i0 X.K (ao f1 (ao f2 (ao f3 (ao f4 aN)))) E):=nw a (pj b c d i l m) h
theorem ry(δ:Dn)(β:Bg)(r:List D)(a:Bg)(h:aN δ β=on (.ok r,a)):r.length=0:=IV h
structure FB (P:RT) (w:R8) (K:RB) (mg:R3->Option Ra) (base:SE) (k:Nat) (x:R3) (f:Q6) (fd:RG) (ps:List R3) (n:Nat) (m:List D->M D):Prop where
 ok:fh P w K mg base (hY P w) k f fd ps (z_ K n m)
 m:mg x=on (.ref f)
 kp:WS K (.ref f)=Q4
 b:ay K fd ps []
theorem vc(G:FB X.prog X.w X.K X.mg X.base j x f fd ps n m)(h:ef k X.A)(ha:PA X (e::es) (i0 X.K g E))(i:j<=k:=by decide)(l:cI (hY X.prog X.w) X E:=by first|exact bH|exact yk|assumption)(o:Gl X x:=by rfl)
  (hn:∀δ β r d,g δ β=on (.ok r,d)->r.length=n:=by repeat (first|exact ry|apply aL)) (a:(x==("__debug__":R3))=Q9:=by decide) (q:Rm (e::es) X.env=(Q9,Sw e X.env)::Rm es X.env:=by rfl) (c:(Tx pos (Rm es X.env)).any (·.1)=Q9:=by rfl):
  PE X (.Call (.Name x p) (e::es) [] pos) (tV X.K (fP m g) E):=Mu G.ok (h.mono i) o G.m G.kp G.b l ha hn a q c
theorem bW(hm:X.mg "len"=QY)(ha:PA X (e::es) (i0 X.K g E))(b:Gl X "len":=by rfl)(c:Rm (e::es) X.env=(Q9,Sw e X.env)::Rm es X.env:=by rfl)(a:(Tx pos (Rm es X.env)).any (·.1)=Q9:=by rfl):PE X (.Call (.Name "len" p) (e::es) [] pos) (tV X.K (bt eV g) E):=cX m4 Qq b hm PySem.boot_len ha (by decide) (by decide) c a
theorem fj(hm:X.mg "sum"=QY)(ha:PA X (e::es) (i0 X.K g E))(b:Gl X "sum":=by rfl)(c:X.calm=Q4:=by rfl)(d:Rm (e::es) X.env=(Q9,Sw e X.env)::Rm es X.env:=by rfl)(a:(Tx pos (Rm es X.env)).any (·.1)=Q9:=by rfl):PE X (.Call (.Name "sum" p) (e::es) [] pos) (tV X.K (bt fI g) E):=cX (CG c) NK b hm PyProof.Rows.Boot.«sum» ha (by decide) (by decide) d a
theorem f0{scope:Scope}(a c_:List R3)(cw:List Nat)(k:scope.kind= .function:=by rfl)(nd:(scope.names.map (·.1)).Nodup:=by decide +kernel)
  (fr:(scope.names.all λy=>y.2 != .free||(X.env.scope.names.lookup y.1==on .cell||X.env.scope.names.lookup y.1==on .free))=Q4:=by rfl) (b:a=c_++cw.map (λj=>X.N.getD j US):=by rfl)
  (c:(cw.all λj=>decide (j<X.N.length)&&scope.names.lookup (X.N.getD j US)==on .free)=Q4:=by rfl):dk X scope a c_ cw:=dk.ofB k nd fr b c
theorem en{a:List R3}(h:a.Nodup:=by decide +kernel):(aP X a scope cl C fp s H).N.Nodup:=h
theorem dv(i:Nat){x:R3}(a:X.N.Nodup)(b:X.N[i]?=on x:=by rfl)(c:y4 X.env.scope x:=by first|exact Tg rfl|exact T5 rfl)(d:X.fn x=Q4\/X.env.scope.names.lookup x=on .local:=by first|exact .inl rfl|exact .inr rfl|assumption):PG X (.Name x pos) (fi i):=wX a b c d
theorem fc(i:Nat){x:R3}{e:Expr}{pos a:Vy}(b:X.N.Nodup)(c:PE X e te)(d:X.N[i]?=on x:=by rfl)(h:y4 X.env.scope x:=by first|exact Tg rfl|exact T5 rfl)(hs:VM e (on (.Name x a)) pos.line X.env=T0 Q9:=by rfl)(l:X.fn x=Q4\/X.env.scope.names.lookup x=on .local:=by first|exact .inl rfl|exact .inr rfl|assumption):PS X (.Assign [.Name x a] e pos) (h9 te (fi i)):=qd b d h c hs l
theorem oD{Q:List Ra->Prop}(h:∀a,Q [a])(us:List Ra)(b:us.length=1):Q us:=by obtain⟨_,rfl⟩:=lU1 b;exact h _
theorem wh{Q:List Ra->Prop}(h:∀a b,Q [a,b])(us:List Ra)(c:us.length=2):Q us:=by obtain⟨_,_,rfl⟩:=lU2 c;exact h _ _
theorem si{Q:List Ra->Prop}(h:∀a b c,Q [a,b,c])(us:List Ra)(d:us.length=3):Q us:=by obtain⟨_,_,_,rfl⟩:=lU3 d;exact h _ _ _
theorem bA4{Q:List Ra->Prop}(h:∀a b c d,Q [a,b,c,d])(us:List Ra)(i:us.length=4):Q us:=by obtain⟨_,_,_,_,rfl⟩:=lU4 i;exact h _ _ _ _
theorem fk{N Q:List R3}{c:Scope}(a:c.kind= .function:=by rfl)(b:c.isCoroutine=Q9:=by rfl)(g:c.isGenerator=Q9:=by rfl)(d:N.Nodup:=by decide +kernel)(e:N.take Q.length=Q:=by rfl)(f:∀x∈Q,c.names.lookup x=on .local\/c.names.lookup x=on .cell:=by decide +kernel)(h:∀y∈c.names,y.2≠ .free:=by decide +kernel):cb N Q c:=⟨a,b,g,d,e,f,h⟩
end
end L2.Pu
namespace L2
open PySem PySem.Spec PyProof.Rows
section
variable{prog:RT}{w:R8}{A:SB}{E:Ra->Rg->Prop}{s:Rg}{K:RB}
variable{X:Cx}
end
namespace Pu
section
variable{X:Cx}{E:St->XK}
end
end Pu
end L2
namespace L2.Pu
open PySem PySem.Spec PyProof.Rows
section
variable{X:Cx}{E:St->XK}{a b:Expr}{pos:Vy}{k:Nat}{f C:Q6}{fd:RG}{ps:List R3}{K:RB}
structure IsC (K:RB) (C:Q6):Prop where
 cl:pa K C
 ha:Vc K (.ref C) "__class__"=on (on (.builtin "object.__class__"))
 hn:specialIn K (.builtin "object.__class__") "__get__"=on (on (.builtin "getset_descriptor.__get__"))
 htk:ZY K (.builtin "object.__class__")=on Q4
 hm:PySem.W.mroIn K C (.type "object")=on Q4
theorem JJ{r c:Nat}{a_:LI}(sh:hL r c a_):tp r (tp c a_)=a_:=by
 obtain⟨e,g⟩:=sh;refine Tq (by simp[vr,e]) λi n d=>?_;have h:a_[i].length=c:=g _ (R1 d);refine Tq (by simp[vr,h]) λj o l=>?_;have m:j<c:=by omega
 simp[vr,QZ,m,d,l]
variable{p1 p2 pos1 pos2:Vy}
noncomputable def S(n:Nat)(f:Nat->Int):Int:=((Re n).map f).sum
theorem Pn(f:Nat->Int):S 0 f=0:=rfl
theorem gr(n:Nat)(f:Nat->Int):S (n+1) f=S n f+f n:=by
 unfold S;rw[Uc,RU,XX];simp
theorem dT{f g:Nat->Int}(h:∀i<n,f i=g i):S n f=S n g:=by
 unfold S;rw[RE λi c=>h i (Rz.mp c)]
theorem ug(n:Nat)(f g:Nat->Int):S n (λi=>f i+g i)=S n f+S n g:=qX f g _
theorem m9(n:Nat):S n (λ_=>0)=0:=oK _
theorem QW(n:Nat)(f:Nat->Int):S n (λi=>-f i)=-S n f:=by
 induction n with
 |zero=>rfl
 |succ n ih=>rw[gr,gr,ih];omega
theorem CU(n m:Nat)(h:Nat->Nat->Int):S n (λi=>S m (λj=>h i j))=S m (λj=>S n (λi=>h i j)):=by
 induction n with
 |zero=>rw[Pn];exact(m9 m).symm
 |succ n ih=>
  rw[gr,ih,<-ug];exact dT λj _=>(gr n _).symm
theorem oM{g:Nat->Int}:∀{l L:List Nat},l.Sublist L->L.Nodup->(l.map g).sum=(L.map λx=>if x∈l then g x else 0).sum
 |_,_,.slnil,_=>rfl
 |l,_,.cons a (l₂:=L) h,nd=>by
  have c:=(Sb.mp nd);have ha:a∉l:=λz=>c.1 (h.subset z);rw[Rk,Rh,Q8 ha,oM h c.2,UQ]
 |_,_,.cons₂ a (l₁:=l) (l₂:=L) h,nd=>by
  have c:=(Sb.mp nd);rw[Rk,Rk,Rh,Rh,Rb Q7,oM h c.2];congr 2;refine RE λx e=>?_;have d:x≠a:=λz=>c.1 (z▸e);by_cases q:x∈l
  .rw[Rb q,Rb (Q1 _ q)]
  .rw[Q8 q,Q8 λz=>(Rq.mp z).elim d q]
theorem ny{l:List Nat}(h:l.Sublist (Re n)):(l.map g).sum=S n λx=>if x∈l then g x else 0:=oM h WA
theorem xp{p:Nat->Bool}{g:Nat->Int}:∀l:List Nat,((l.filter p).map g).sum=(l.map λx=>if p x=Q4 then g x else 0).sum
 |[]=>rfl
 |x::l=>by
  rw[Ul,Rk,Rh,<-xp l];by_cases q:p x=Q4
  .rw[Rb q,Rb q,Rk,Rh]
  .rw[Q8 q,Q8 q,UQ]
noncomputable abbrev nI(l:List Nat):List Int:=l.map λ(i:Nat)=>(i:Int)
noncomputable abbrev nL(l:List Nat):D:= .lst ((nI l).map D.int)
theorem xi:∀xs:List Int,inB (.int i) (xs.map D.int)=decide (i∈xs)
 |[]=>rfl
 |x::xs=>by
  have ih:=xi (i:=i) xs;unfold inB at ih⊢;rw[Rk,Wm,ih];show(decide (x=i)||_)=_;rw[WM];simp only[Bool.or_eq_true,R5,Rq];constructor
  .rintro(h|h)
   .exact .inl h.symm
   .exact .inr h
  .rintro(h|h)
   .exact .inl h.symm
   .exact .inr h
theorem sN:∀xs:List Int,(xs.map D.int).all gl=Q4
 |[]=>rfl
 |_::xs=>sN xs
theorem NU{xs:List Int}{neg:Bool}:inD neg (.int i) (.lst (xs.map D.int))=on (.bl (if neg then !decide (i∈xs)else decide (i∈xs))):=by
 show(if(gl (.int i)&&(xs.map D.int).all gl)=Q4 then _ else _)=_;rw[sN,Bool.and_true,Rb (show gl (.int i)=Q4 from rfl),xi]
theorem NE{i:Nat}{l:List Nat}:((i:Int)∈nI l)↔i∈l:=by
 constructor
 .intro h
  obtain⟨j,c,e⟩:=Rp.mp h;exact(Int.ofNat.inj e)▸c
 .intro h
  exact Rp.mpr ⟨i,h,rfl⟩
theorem vy{i:Nat}{l:List Nat}{neg:Bool}:inD neg (.int (i:Int)) (nL l)=on (.bl (if neg then !decide (i∈l)else decide (i∈l))):=by
 rw[NU];simp only[NE]
theorem jj{α:Type}{f:FD}(xs:List α)(u v:α->D)(p:α->Bool)(g:it δ β=on (.ok (xs.map u),β))
  (i:∀x∈xs,∃δ1,tg (u x) (lK nv cw δ)=on δ1/\tt δ1 β=on (.ok (p x),β)/\(p x=Q4->f δ1 β=on (.ok (v x),β))) (j:xs.length<=RF):bT nv cw it tg tt (k_ f) δ β=on (.ok (.lst ((xs.filter p).map v)),β):=by
 refine rK g ?_ (by rw[QX];exact Ru (List.length_filter_le _ _) j);have gen:∀xs:List α,(∀x∈xs,∃δ1,tg (u x) (lK nv cw δ)=on δ1/\tt δ1 β=on (.ok (p x),β)/\(p x=Q4->f δ1 β=on (.ok (v x),β)))->p4 tg tt (k_ f) (xs.map u) (lK nv cw δ) β=on (.ok ((xs.filter p).map v),β):=by
  intro xs
  induction xs with
  |nil=>intro _;rfl
  |cons x xs ih=>
   intro h;obtain⟨δ1,d,c,l⟩:=h x Q7;have e:=ih λy m=>h y (Q1 _ m);rw[Rk,p4,Ul];cases q:p x with
   |true=>
    rw[q]at c;simp only[d,M.bind,M.ret,c,k_,l q,e,Rb,Rk,Vm,Ub]
   |false=>
    rw[q]at c;simp only[d,M.bind,M.ret,c,e,RC,Sz,Ub]
 exact gen xs i
theorem oH:∀(n:Nat) (xs:List D),dj n xs=(Re xs.length).map λ(i:Nat)=>D.tup [.int ((n+i:Nat):Int),xs.getD i .non]
 |n,[]=>rfl
 |n,x::xs=>by
  rw[dj,oH (n+1) xs,Rl,YV,Rk,Rc];congr 1;refine RE λi _=>?_;simp only[VY];rw[show n+1+i=n+(i+1) by omega];rfl
noncomputable abbrev bI(b:LP)(i j:Nat):Int×Int:=(b.getD i []).getD j (0,0)
theorem hL.getD{α:Type}{m:List (List α)}(h:hL r c m)(d:i<r):m[i]?=on (m.getD i [])/\(m.getD i []).length=c:=by
 obtain⟨row,e,l⟩:=h.at d;have:m.getD i []=row:=by rw[QZ,e];rfl
 rw[this];exact⟨e,l⟩
theorem oi{α:Type}{l:List α}{i:Nat}{d:α}(h:i<l.length):l[i]?=on (l.getD i d):=by
 rw[QZ,Q2 h];rfl
theorem Kx{xs:List Int}(h:i<xs.length):ko (.lst (xs.map D.int)) (.int (i:Int))=on (.int (xs.getD i 0)):=bR (by rw[Q5,oi h];rfl)
theorem vn{b:LP}(sh:hL r c b)(g:i<r)(h:j<c):ko (d9 b) (.int (i:Int))=on (.lst ((b.getD i []).map pD))/\ko (.lst ((b.getD i []).map pD)) (.int (j:Int))=on (pD (bI b i j)):=by
 obtain⟨e,l⟩:=sh.getD g;refine⟨jL (by rw[Q5,e];rfl),bR ?_⟩;rw[Q5,oi (d:=(0,0)) (by omega)];rfl
noncomputable def qg(rs:List Int)(c:List Nat):Int:=(c.map λi=>rs.getD i 0).sum
def ff(cs:List Int)(b:LP)(r:Nat)(c:List Nat)(j:Nat):Int:=cs.getD j 0-S r λi=>if i∈c then 0 else(bI b i j).1
def f6(b:LP)(c:List Nat)(j:Nat):Int:=(c.map λi=>(bI b i j).2).sum
def tR(cs:List Int)(b:LP)(r c:Nat)(d e:List Nat):Int:=S c λj=>if j∈e then ff cs b r d j else f6 b d j
def hF(b:LP)(c d:List Nat)(i j:Nat):Int:=(if i∈c/\j∉d then(bI b i j).2 else 0)-(if i∉c/\j∈d then(bI b i j).1 else 0)
theorem Lk{b:LP}{d e:List Nat}(h:d.Sublist (Re r))(g:e.Sublist (Re c)):
  tR cs b r c d e=qg cs e+S r λi=>S c λj=>hF b d e i j:=by
 unfold tR qg;rw[ny g,CU,<-ug];refine dT λj l=>?_;by_cases q:j∈e
 .rw[Rb q,Rb q]
  unfold ff;rw[Int.sub_eq_add_neg,<-QW];congr 1;refine dT λi g=>?_;unfold hF;by_cases z:i∈d
  .simp[z,q]
  .simp[z,q]
 .rw[Q8 q,Q8 q,UQ]
  unfold f6;rw[ny h];refine dT λi g=>?_;unfold hF;by_cases z:i∈d
  .simp[z,q]
  .simp[z,q]
variable{o e:Expr}{es:List Expr}{p apos:Vy}{x m:R3}{n:Nat}{ks ns:List R3}{kws:List WH}{st:Sy}{sts:List Sy}
variable{ns0 names:List R3}{ip:IP}
variable{P:RT}{w:R8}{mg:R3->Option Ra}{base:SE}
variable{δ:Dn}{β β1 β2:Bg}
end
end L2.Pu
namespace L2.Pu
open PySem PySem.Spec PyProof PyProof.Rows
section
variable{X:Cx}{K:RB}
variable{E:St->XK}{o e:Expr}{apos cpos:Vy}
theorem KS(c:Nat->Ds->Bg->Prop)
  (step:∀n δ β,c n δ β->(∃β1,t (hO δ) β=on (.ok Q9,β1)/\Gw h δ β1 Q)\/∃β1,t (hO δ) β=on (.ok Q4,β1)/\Gw g δ β1 (λo β2=>∃δ1,o= .nx δ1/\∃m,m<n/\c m δ1 β2)):
  ∀(n:Nat) (δ:Ds) (β:Bg),c n δ β->Gw (bo (gWh t g) h) δ β Q:=by
 have gen:∀(n:Nat) (δ:Ds) (β:Bg),c n δ β->∃k a b,bZ t g k δ β=on (.nx a,b)/\Gw h a b Q:=by
  intro n
  induction n using X5 with
  |_ n ih=>
   intro δ β hI;rcases step n δ β hI with⟨β1,e,k⟩|⟨β1,e,k⟩
   .exact⟨1,δ,β1,by unfold bZ;simp only[e],k⟩
   .obtain⟨o,β2,f,δ1,rfl,m,hm,d⟩:=k
    obtain⟨k,a,b,i,j⟩:=ih m hm δ1 β2 d;exact⟨k+1,a,b,by unfold bZ;simp only[e,f,i],j⟩
 intro n δ β hI;obtain⟨k,a,b,e,l⟩:=gen n δ β hI;exact dX (NY e) l
end
end L2.Pu
namespace L2.Pu
open PySem PySem.Spec PyProof.Rows
section
variable{prog:RT}{w:R8}{A:SB}{E:Ra->Rg->Prop}{s:Rg}{l:Q6}{xs:Array (Int×Tok)}
theorem DM(f:A.handled=QY)(c:s.heap.IsTuple l (Zc xs))
  (h:∀h' d t',(∀b o,s.heap.get? b=on o->h'.get? b=on o)->Q (.int (preSum (numAt xs) xs.size) t') {s with heap:=h',toks:=d}):
  Rt (RN prog w) A (XN (.builtin "sum") [.ref l]) Q E s:=by
 have a:l<s.heap.objs.size:=by obtain⟨_,e,_⟩:=c;exact RM e
 refine call_sum_walkG (XR c ⟨_,_,_,_,_,_,numAt xs,rfl,Walks.tuple (A:=A.in1) f _ l (Sg a) (Zc xs),⟨⟨_,Rw _ rfl,rfl,rfl⟩,c.at λo e=>Q3 _ e⟩,λb hb=>?_,(λ_ _=>intItems_at),λh' d t' g=>?_⟩)
 .show b<(s.heap.push _).objs.size
  rw[S3];rcases Rq.mp hb with rfl|hb
  .exact WF _
  .rcases Rq.mp hb with rfl|hb
   .exact Wp a
   .cases hb
 .have:=h h' d t' λb o e=>g b o (λhm=>by
   rcases Rq.mp hm with i|hm
   .exact RJ (i▸RM e) (Sf _)
   .cases hm) (Q3 _ e)
  simpa[Zc]using this
variable{X:Cx}{K:RB}
abbrev JT(K:RB):List V->Hp->VK->Prop:=λxs H Q=>∃(p:Q6) (ns:List Int),xs=[.ref p]/\(e_ K H p (ns.map V.int)\/il K H p (ns.map V.int))/\Q (.int ns.sum) H
theorem CF(b:X.calm=Q4):dJ X (.builtin "sum") (JT X.K):=by
 intro a s f H xs us Q I r h;obtain⟨p,ns,rfl,hq|hq,q⟩:=h
 .exact sU b a s f H _ us Q I r ⟨p,ns,rfl,hq,q⟩
 .obtain⟨u,rfl,g⟩:=kK r
  cases g;obtain⟨its,i,pl,m⟩:=I.tuple hq;have c:=qy i;obtain⟨xs,ex⟩:=c.allInts.items;have d:=c.numsOf;have j:its=(Zc xs).toList:=by rw[<-ex]
  rw[j,nums_intItems]at d;rw[ex]at pl;refine DM (I.ok.hd b) pl λh' n t' k=>?_;have e:preSum (numAt xs) xs.size=ns.sum:=by rw[preSum_eq,TY (by simp),d]
  rw[e];exact⟨.int ns.sum,H,I.kept k,⟨_,rfl⟩,q⟩
def pO:List D->Option D
 |[.lst xs]=>(eW xs).map λns=> .int ns.sum
 |[.tup xs]=>(eW xs).map λns=> .int ns.sum
 |_=>QY
theorem NJ:fQ K (JT K) pO:=λF H β Q ds d vs fr h e k=>by
 unfold pO at e;split at e
 .rename_i xs
  obtain⟨ns,q,rfl⟩:=WB.mp e;obtain⟨v,rfl,g⟩:=bb.one h;obtain⟨a,ys,rfl,r,dl⟩:=cp.sqL g;rw[jm q]at dl;have b:=bb.ints ns dl;subst b;exact⟨a,ns,rfl,.inl r,k _ H (To.refl fr) rfl⟩
 .rename_i xs
  obtain⟨ns,q,rfl⟩:=WB.mp e;obtain⟨v,rfl,g⟩:=bb.one h;obtain⟨a,ys,rfl,r,dl⟩:=cp.sqT g;rw[jm q]at dl;have b:=bb.ints ns dl;subst b;exact⟨a,ns,rfl,.inr r,k _ H (To.refl fr) rfl⟩
 .cases e
theorem MM(ns:List Int):pO [.lst (ns.map D.int)]=on (.int ns.sum):=dL ns
theorem ML(ns:List Int):pO [.tup (ns.map D.int)]=on (.int ns.sum):=dL ns
end
section
variable{X:Cx}{E:St->XK}{o e e1 e2:Expr}{es:List Expr}{pos p apos:Vy}{x m:R3}{k n:Nat}{f C:Q6}{fd:RG}{ps ks ns:List R3}{kws:List WH}
noncomputable def NZ:G:=λ_ _=>QY
theorem bC{X:Cx}{st:Sy}{K:RB}{E:St->XK}:PS X st (tG K H NZ E):=λ_ _ _ _ _ _ h=>by
 obtain⟨_,_,_,_,_,_,_,e,_⟩:=h;cases e
end
end L2.Pu
namespace L2.Pu
open PySem
noncomputable def dc:Nat->Nat
 |0=>1
 |n+1=>dc n*(n+1)
noncomputable def pr(l:List Nat):Nat:=l.foldr (·*·) 1
theorem z7:pr []=1:=rfl
theorem uP(l m:List Nat):pr (l++m)=pr l*pr m:=by
 induction l with
 |nil=>simp[pr]
 |cons x l ih=>
  show x*pr (l++m)=x*pr l*pr m;rw[ih,Sx]
theorem K2{α:Type}{l:List α}{i:Nat}{x:α}(h:l[i]?=on x):l.take (i+1)=l.take i++[x]:=by
 rw[List.take_succ,h];rfl
theorem nM{α:Type}{f:α->Nat}{l:List α}{i:Nat}{x:α}(h:l[i]?=on x):pr ((l.take (i+1)).map f)=pr ((l.take i).map f)*f x:=by
 rw[K2 h,RU,uP];simp[pr]
theorem kD:∀n,0<dc n
 |0=>by decide
 |n+1=>Nat.mul_pos (kD n) (by omega)
theorem vJ:∀{n m:Nat},n<=m->dc n<=dc m:=by
 intro n m h
 induction h with
 |refl=>exact Rf _
 |step h ih=>exact Ru ih (WE _ (by omega))
theorem QJ:dc 40<=2^160:=by decide +kernel
theorem vK(h:n<=40):dc n<=2^160:=Ru (vJ h) QJ
theorem z6(h:∀x∈l,0<x):0<pr l:=by
 induction l with
 |nil=>decide
 |cons x l ih=>exact Nat.mul_pos (h x Q7) (ih λy a=>h y (Q1 _ a))
theorem P7{l:List Nat}(h:∀x∈l,x<=2^m):pr l<=2^(m*l.length):=by
 induction l with
 |nil=>exact Nat.one_le_two_pow
 |cons x l ih=>
  show x*pr l<=_;rw[Rl,Nat.mul_succ,WP,Nat.pow_add];exact Nat.mul_le_mul (h x Q7) (ih λy a=>h y (Q1 _ a))
theorem iI{l:List Nat}(h:x∈l):x<=l.sum:=by
 induction l with
 |nil=>cases h
 |cons y l ih=>
  rw[Rh];rcases Rq.mp h with rfl|h
  .omega
  .have:=ih h;omega
theorem dD(h:t<=2^m)(hm:m<=999):t<2^1000:=Tl (Ru h (VB (by decide) hm)) (Nat.pow_lt_pow_right (by decide) (by decide))
theorem mE{t n:Nat}(a:t<2^1000)(b:n<2^1000):ER (.int (t:Int)) (.int (n:Int))=on (.int ((t*n:Nat):Int)):=by
 have c:gQ (t:Int)=Q4:=Rv (by rw[Xi];exact a);have d:gQ (n:Int)=Q4:=Rv (by rw[Xi];exact b);show(if(gQ (t:Int)&&gQ (n:Int))=Q4 then _ else _)=_;simp only[c,d,Xa,SA];rfl
theorem QI{t g:Nat}(d:0<g)(a:g<2^1000):KE (.int (t:Int)) (.int (g:Int))=on (.int ((t/g:Nat):Int)):=by
 have b:decide ((0:Int)<(g:Int))=Q4:=Rv (by omega);have c:decide (((g:Int)).natAbs.log2<9000)=Q4:=Rv (by
  rw[Xi];have:=(Nat.log2_lt (n:=g) (k:=1000) (by omega)).mpr a;omega)
 show(if(decide ((0:Int)<(g:Int))&&decide (((g:Int)).natAbs.log2<9000))=Q4 then _ else _)=_;simp only[b,c,Xa,SA];rfl
theorem jd(l:List Nat):(nI l).sum=((l.sum:Nat):Int):=by
 induction l with
 |nil=>rfl
 |cons x l ih=>
  show(x:Int)+(nI l).sum=_;rw[ih,Rh,X3]
theorem tX{l:List Nat}{i:Nat}{d:D}(h:((nI l).map D.int)[i]?=on d):∃n,l[i]?=on n/\d= .int (n:Int):=by
 obtain⟨x,a,rfl⟩:=cS h;obtain⟨n,hn,rfl⟩:=cS a;exact⟨n,hn,rfl⟩
theorem AS(l:List Nat):((nI l).map D.int).length=l.length:=by rw[QX,QX]
def Sq(l:List Nat)(d:D):Prop:=d=nL l\/d= .tup ((nI l).map D.int)
theorem Sq.seq(h:Sq l d):fK d=on ((nI l).map D.int):=by rcases h with rfl|rfl<;>rfl
theorem rg2'(a:0<=i)(b:i<=10^9)(c:0<=j)(d:j<=10^9):oV [.int i,.int j]=on (bh i (j-i).toNat):=by
 have q:(decide (-(2^62)<=i)&&decide (i<2^62)&&decide (-(2^62)<=j)&&decide (j<2^62))=Q4:=by
  simp only[RZ,R5];omega
 show(if(decide (-(2^62)<=i)&&decide (i<2^62)&&decide (-(2^62)<=j)&&decide (j<2^62))=Q4 then on (bh i (j-i).toNat)else QY)=_;rw[Rb q]
theorem rg2{n:Nat}(h:n<=1000):oV [.int 2,.int ((n:Int)+1)]=on (bh 2 (n-1)):=by
 rw[rg2' (by decide) (by decide) (by omega) (by omega),show((n:Int)+1-2).toNat=n-1 by omega]
end L2.Pu
namespace L2.Pu
theorem CV(h:∀i<n,f i<=g i):S n f<=S n g:=by
 induction n with
 |zero=>exact Zx _
 |succ n ih=>
  rw[gr,gr];have a:=ih λi b=>h i (by omega);have c:=h n (by omega);omega
theorem KK(n:Nat)(f g:Nat->Int):S n (λi=>f i-g i)=S n f-S n g:=by
 induction n with
 |zero=>rfl
 |succ n ih=>rw[gr,gr,gr,ih];omega
noncomputable def fl(x y:Bool)(l h:Int):Int:=(if x=Q4/\y=Q9 then h else 0)-(if x=Q9/\y=Q4 then l else 0)
def slk(rs cs:Nat->Int)(lo a:Nat->Nat->Int)(r c:Nat)(X Y:Nat->Bool):Int:=
 S c (λj=>if Y j=Q4 then cs j else 0)-S r (λi=>if X i=Q4 then rs i else 0)+S r λi=>S c λj=>fl (X i) (Y j) (lo i j) (a i j)
section
variable{rs cs:Nat->Int}{lo hi:Nat->Nat->Int}{r c:Nat}
theorem K9{g:Nat->Nat->Int}(h:∀i<r,∀j<c,lo i j<=g i j/\g i j<=hi i j)(d:∀i<r,rs i=S c (g i))(e:∀j<c,cs j=S r λi=>g i j)(X Y:Nat->Bool):0<=slk rs cs lo hi r c X Y:=by
 have f:S c (λj=>if Y j=Q4 then cs j else 0)=S r λi=>S c λj=>if Y j=Q4 then g i j else 0:=by
  rw[CU];refine dT λj a=>?_;cases q:Y j with
  |true=>simp only[Rb];exact e j a
  |false=>simp only[RC,Sz];exact(m9 r).symm
 have k:S r (λi=>if X i=Q4 then rs i else 0)=S r λi=>S c λj=>if X i=Q4 then g i j else 0:=by
  refine dT λi hi=>?_;cases q:X i with
  |true=>simp only[Rb];exact d i hi
  |false=>simp only[RC,Sz];exact(m9 c).symm
 unfold slk;rw[f,k,<-KK,<-ug];refine Int.le_trans (Int.le_of_eq (m9 r).symm) (CV λi b=>?_);rw[<-KK,<-ug];refine Int.le_trans (Int.le_of_eq (m9 c).symm) (CV λj a=>?_);have:=h i b j a;unfold fl;cases X i<;>cases Y j<;>simp<;>omega
noncomputable def t_:Nat->List (List Nat)
 |0=>[[]]
 |n+1=>t_ n++(t_ n).map (·++[n])
theorem iN:∀(n:Nat) (l:List Nat),l∈t_ n->l.Sublist (Re n)
 |0,l,h=>by rw[RP.mp h];exact .slnil
 |n+1,l,h=>by
  rw[Uc];rcases S4.mp h with h|h
  .exact(iN n l h).trans (List.sublist_append_left _ _)
  .obtain⟨a,h',rfl⟩:=Rp.mp h
   exact(iN n a h').append (Vz _)
theorem xE:∀n:Nat,(t_ n).length=2^n
 |0=>rfl
 |n+1=>by
  rw[t_,Ro,QX,xE n,Y0];omega
end
section
variable{rs cs:List Int}{b:LP}{r c:Nat}
abbrev slB(rs cs:List Int)(b:LP)(r c:Nat)(X Y:Nat->Bool):Int:=slk (λi=>rs.getD i 0) (λj=>cs.getD j 0) (λi j=>(bI b i j).1) (λi j=>(bI b i j).2) r c X Y
theorem MR{a d:List Nat}(e:a.Sublist (Re r))(f:d.Sublist (Re c)):tR cs b r c a d-qg rs a=slB rs cs b r c (λi=>decide (i∈a)) (λj=>decide (j∈d)):=by
 rw[Lk e f];unfold qg slB slk;rw[ny f,ny e];have h:∀(n:Nat) (l:List Nat) (g:Nat->Int),S n (λj=>if decide (j∈l)=Q4 then g j else 0)=S n (λj=>if j∈l then g j else 0):=λn l g=>dT λj _=>by simp
 rw[h,h];have k:(S r λi=>S c λj=>hF b a d i j)=S r λi=>S c λj=>fl (decide (i∈a)) (decide (j∈d)) (bI b i j).1 (bI b i j).2:=by
  refine dT λi _=>dT λj _=>?_;unfold hF fl;simp
 simp only[k];omega
def uZ(cs:List Int)(b:LP)(r c:Nat)(a:List Nat):List Nat:=(Re c).filter λj=>decide (ff cs b r a j<f6 b a j)
end
end L2.Pu
namespace L2.Pu
open PySem PySem.W
section
variable{tb:String->Option Builtin}{p:RT}{w:R8}{n₀:Nat}{ann:Option Ra}{env:Yi}{q:Vy}
theorem jh(k:Nat){b:List Sy}(h:segRun tb p w n₀ ann 1 n s (piecesOf (b.take k) env c pos [Zg q])=on (.next,s',c,p'))
  (a:topRun tb p w n₀ ann N s' (restOf (b.drop k) env c p' [Zg q])=on r):topRun tb p w n₀ ann (n+N) s (restOf b env c pos [Zg q])=on r:=by
 have:=piece_app h a;rwa[T4]at this
theorem FU(e:b=[])(k:topRun tb p w n₀ ann N s ⟨doneF .next,c,pos,[Zg q]⟩=on r):topRun tb p w n₀ ann N s (restOf b env c pos [Zg q])=on r:=by
 subst e;exact piece_nil k
end
end L2.Pu
namespace L2.Hs
open PySem PySem.SetTable
def Rs(xs:Array Nat):Prop:=∀i k x y:Nat,i<k->xs[i]?=on x->xs[k]?=on y->x<y
theorem pw{xs:Array Nat}(r:Rs xs):∀(fuel lo c:Nat),lo<=c->c<=xs.size->c-lo<=fuel->(∀i x,i<lo->xs[i]?=on x->x<j)->(∀i x,c<=i->xs[i]?=on x->j<=x)->
  below.go xs j fuel lo c<=xs.size/\(∀i x,i<below.go xs j fuel lo c->xs[i]?=on x->x<j)/\∀i x,below.go xs j fuel lo c<=i->xs[i]?=on x->j<=x
 |0,lo,c,h1,h2,h3,a,b=>by
  have:lo=c:=by omega
  subst this;exact⟨h2,a,b⟩
 |fuel+1,lo,c,h1,h2,h3,a,b=>by
  unfold below.go;by_cases q:lo<c
  .rw[Rb q]
   simp only;have hm:(lo+c)/2<xs.size:=by omega
   have e:xs[(lo+c)/2]?=on (xs.getD ((lo+c)/2) j):=by simp[Ug,hm]
   by_cases z:xs.getD ((lo+c)/2) j<j
   .rw[Rb z]
    refine pw r fuel _ _ (by omega) h2 (by omega) (λi x f d=>?_) b;by_cases w:i=(lo+c)/2
    .subst w
     rw[e]at d;cases d;exact z
    .exact VV (r i ((lo+c)/2) x _ (by omega) d e) z
   .rw[Q8 z]
    refine pw r fuel _ _ (by omega) (by omega) (by omega) a (λi x f d=>?_);by_cases w:i=(lo+c)/2
    .subst w
     rw[e]at d;cases d;omega
    .have:=r ((lo+c)/2) i _ x (by omega) e d
     omega
  .rw[Q8 q]
   have:lo=c:=by omega
   subst this;exact⟨h2,a,b⟩
theorem jk{xs:Array Nat}(r:Rs xs):below xs j<=xs.size/\(∀i x,i<below xs j->xs[i]?=on x->x<j)/\∀i x,below xs j<=i->xs[i]?=on x->j<=x:=
 pw r xs.size 0 xs.size (Ss _) (Rf _) (by omega) (λi x h=>RJ h (TX i)) (λi x h e=>by
  have:=(SC.mp e).1;omega)
theorem GK(r:Rs xs)(h:xs[i]?=on j):below xs j=i:=by
 obtain⟨c,a,b⟩:=jk (j:=j) r;rcases UH (below xs j) i with q|q|q
 .have d:=(SC.mp h).1
  have e:xs[below xs j]?=on xs[below xs j]:=getElem?_pos xs _ (by omega);have:=b _ _ (Rf _) e;have:=r _ _ _ _ q e h;omega
 .exact q
 .have:=a _ _ q h
  omega
theorem sf{t:Si}(r:Rs t.place)(h:t.place[i]?=on j):t.slot j= .live i:=by
 unfold slot;simp only[GK r h,h,beq_self_eq_true,SA]
theorem x8{t:Si}(d:t.dummies=#[])(h:∀i:Nat,t.place[i]?≠on j):t.slot j= .empty:=by
 unfold slot;have a:(t.place[below t.place j]?==on j)=Q9:=by
  rw[YH];exact h _
 have b:has t.dummies j=Q9:=by unfold has;rw[d];rfl
 simp only[a,b,RC,Sz]
noncomputable def eo(t:Si):Nat->Probe->Probe
 |0,p=>p
 |n+1,p=>eo t n (t.advance p)
theorem o9(t:Si):∀(n:Nat) (p:Probe),eo t (n+1) p=t.advance (eo t n p)
 |0,p=>rfl
 |n+1,p=>by
  show eo t (n+1) (t.advance p)=t.advance (eo t n (t.advance p));exact o9 t n (t.advance p)
theorem nY(t:Si):∀(n m:Nat) (p:Probe),eo t (n+m) p=eo t m (eo t n p)
 |0,m,p=>by rw[Sn];rfl
 |n+1,m,p=>by
  rw[show n+1+m=(n+m)+1 by omega];exact nY t n m (t.advance p)
structure Pv (t:Si) (p:Probe):Prop where
 j:p.j+p.more<=t.mask
 more:p.more<=9
 i:p.i<=t.mask
 pt:p.perturb<2^64
 du:p.dummy=QY
theorem sB{mask i:Nat}(h:i<=mask):i<=runEnd mask i/\runEnd mask i<=mask/\runEnd mask i-i<=9:=by
 unfold runEnd;by_cases q:i+9<=mask
 .rw[Rb q];omega
 .rw[Q8 q];omega
noncomputable def r_(t:Si)(i pt:Nat):Probe:={j:=i,more:=runEnd t.mask i-i,i,perturb:=pt,dummy:=QY}
theorem qN{t:Si}(h:i<=t.mask)(a:pt<2^64):Pv t (r_ t i pt):=by
 obtain⟨c,d,b⟩:=sB h;refine⟨?_,b,h,a,rfl⟩;show i+(runEnd t.mask i-i)<=t.mask;omega
theorem rZ(t:Si)(h:Int):t.probeStart h=r_ t (bits h % (t.mask+1)) (bits h):=rfl
theorem n9(h:Int):bits h<2^64:=by
 unfold bits;have:=V5 h (show(0:Int)<2^64 by decide);have:=VE h (show(2^64:Int)≠0 by decide);omega
theorem oO(t:Si)(h:Int):Pv t (t.probeStart h):=by
 rw[rZ];exact qN (by have:=Xk (bits h) (show t.mask+1>0 by omega);omega) (n9 h)
noncomputable abbrev Ic(mask i pt:Nat):Nat:=(i*5+1+pt/32) % (mask+1)
theorem CS{t:Si}{p:Probe}(h:0<p.more):t.advance p={p with j:=p.j+1,more:=p.more-1}:=by
 unfold advance;rw[Rb h]
theorem xH{t:Si}{p:Probe}(h:p.more=0)(hd:p.dummy=QY):t.advance p=r_ t (Ic t.mask p.i p.perturb) (p.perturb/32):=by
 unfold advance;rw[Q8 (by omega)];unfold leap r_;simp only[hd]
theorem yw(mask i pt:Nat):Ic mask i pt<=mask:=by
 have:=Xk (i*5+1+pt/32) (show mask+1>0 by omega);unfold Ic;omega
theorem CQ{t:Si}(v:Pv t p):Pv t (t.advance p):=by
 by_cases q:0<p.more
 .rw[CS q]
  exact⟨by have:=v.j;show p.j+1+(p.more-1)<=t.mask;omega,by have:=v.more;show p.more-1<=9;omega,v.i,v.pt,v.du⟩
 .rw[xH (by omega) v.du]
  exact qN (yw _ _ _) (Tl (X4 _ _) v.pt)
theorem mP:∀(n:Nat) {p:Probe},Pv t p->Pv t (eo t n p)
 |0,_,v=>v
 |n+1,_,v=>mP n (CQ v)
theorem rE:∀(k:Nat) {p:Probe},Pv t p->k<=p.more->eo t k p={p with j:=p.j+k,more:=p.more-k}
 |0,p,v,h=>by cases p;rfl
 |k+1,p,v,h=>by
  rw[o9,rE k v (by omega)];rw[CS (show 0<p.more-k by omega)];simp only[Probe.mk.injEq,and_true,true_and];omega
theorem pb{t:Si}{p:Probe}(v:Pv t p):eo t (p.more+1) p=r_ t (Ic t.mask p.i p.perturb) (p.perturb/32):=by
 rw[o9,rE _ v (Rf _)];exact xH (VW _) v.du
def cr(mask:Nat):Nat->Nat×Nat->Nat×Nat
 |0,x=>x
 |k+1,x=>cr mask k (Ic mask x.1 x.2,x.2/32)
theorem jE(mask:Nat):∀(k:Nat) (x:Nat×Nat),cr mask (k+1) x=(Ic mask (cr mask k x).1 (cr mask k x).2,(cr mask k x).2/32)
 |0,x=>rfl
 |k+1,x=>jE mask k _
theorem vo{t:Si}:∀(k:Nat) {p:Probe},Pv t p->∃n,n<=10*(k+1)/\eo t n p=r_ t (cr t.mask (k+1) (p.i,p.perturb)).1 (cr t.mask (k+1) (p.i,p.perturb)).2
 |0,p,v=>⟨p.more+1,by have:=v.more;omega,pb v⟩
 |k+1,p,v=>by
  obtain⟨n,hn,e⟩:=vo k v;have a:=mP n v;rw[e]at a;refine⟨n+((r_ t (cr t.mask (k+1) (p.i,p.perturb)).1 (cr t.mask (k+1) (p.i,p.perturb)).2).more+1),by have:=a.more;omega,?_⟩;rw[nY,e,pb a,jE t.mask (k+1)];rfl
def Mk(mask:Nat):Prop:=mask=7\/mask=31\/mask=127
noncomputable def G_(mask:Nat):Nat->Nat->Nat
 |0,i=>i
 |k+1,i=>G_ mask k ((i*5+1) % (mask+1))
theorem nQ(mask:Nat):∀(a b i:Nat),G_ mask (a+b) i=G_ mask b (G_ mask a i)
 |0,b,i=>by rw[Sn];rfl
 |a+1,b,i=>by
  rw[show a+1+b=(a+b)+1 by omega];exact nQ mask a b _
def JV(mask:Nat):Bool:=(G_ mask (mask+1) 0==0)&&(Re (mask+1)).all λj=>(Re (mask+1)).any λk=>G_ mask k 0==j
theorem Np{mask:Nat}(h:Mk mask):JV mask=Q4:=by
 rcases h with rfl|rfl|rfl<;>decide +kernel
theorem wZ{mask i j:Nat}(h:Mk mask)(l:i<=mask)(m:j<=mask):∃k,k<=mask/\G_ mask k i=j:=by
 have o:=Np h;unfold JV at o;rw[RZ,UW,Vl]at o;obtain⟨g,ha⟩:=o;obtain⟨a,e,c⟩:=XD.mp (ha i (Rz.mpr (by omega)));obtain⟨b,f,d⟩:=XD.mp (ha j (Rz.mpr (by omega)));rw[UW]at c d;have:=Rz.mp e;have:=Rz.mp f;by_cases q:a<=b
 .refine⟨b-a,by omega,?_⟩
  rw[<-c,<-nQ,show a+(b-a)=b by omega,d]
 .refine⟨b+(mask+1)-a,by omega,?_⟩
  rw[<-c,<-nQ,show a+(b+(mask+1)-a)=(mask+1)+b by omega,nQ,g,d]
theorem mo(mask:Nat):∀(k i:Nat),cr mask k (i,0)=(G_ mask k i,0)
 |0,i=>rfl
 |k+1,i=>by
  show cr mask k (Ic mask i 0,0/32)=_;rw[show(0/32:Nat)=0 from rfl,mo mask k];rfl
theorem oU(mask:Nat):∀(a b:Nat) (x:Nat×Nat),cr mask (a+b) x=cr mask b (cr mask a x)
 |0,b,x=>by rw[Sn];rfl
 |a+1,b,x=>by
  rw[show a+1+b=(a+b)+1 by omega];exact oU mask a b _
theorem oS(mask:Nat):∀(k:Nat) (x:Nat×Nat),(cr mask k x).2=x.2/32^k
 |0,x=>by simp[cr]
 |k+1,x=>by
  rw[jE,oS mask k x,YZ,Y0]
theorem wL(mask:Nat):∀(k:Nat) (x:Nat×Nat),x.1<=mask->(cr mask k x).1<=mask
 |0,x,h=>h
 |k+1,x,h=>by rw[jE];exact yw _ _ _
theorem QU{t:Si}(h:Mk t.mask)(v:Pv t p)(a:j<=t.mask):∃n,n<10*turns t.mask/\(eo t n p).j=j:=by
 have z:(cr t.mask 13 (p.i,p.perturb)).2=0:=by
  rw[oS];exact Nat.div_eq_of_lt (RH v.pt (by decide))
 have l:=wL t.mask 13 (p.i,p.perturb) v.i;obtain⟨k,c,e⟩:=wZ h l a;obtain⟨n,hn,b⟩:=vo (12+k) v;refine⟨n,by unfold turns;omega,?_⟩;rw[b];show(cr t.mask (12+k+1) (p.i,p.perturb)).1=j;rw[show 12+k+1=13+k by omega,oU,show cr t.mask 13 (p.i,p.perturb)=((cr t.mask 13 (p.i,p.perturb)).1,0)from Vg rfl z,mo];exact e
abbrev Lv(t:Si)(j:Nat):Prop:=∃k:Nat,t.place[k]?=on j
structure Tb (t:Si) (hs:List Int):Prop where
 km:Mk t.mask
 sz:t.place.size=hs.length
 rs:Rs t.place
 le:∀i j:Nat,t.place[i]?=on j->j<=t.mask
 du:t.dummies=#[]
 nf:t.place.size*5<t.mask*3
 rch:∀(i:Nat) (h:Int) (j:Nat),hs[i]?=on h->t.place[i]?=on j->∃n,(eo t n (t.probeStart h)).j=j/\∀m<n,Lv t (eo t m (t.probeStart h)).j
theorem Mk.odd(h:Mk m):m % 2=1/\7<=m/\m<=127:=by
 rcases h with rfl|rfl|rfl<;>decide
theorem gap{xs:Array Nat}(r:Rs xs):∀n,n<=xs.size->(∀i:Nat,i<n->xs[i]?=on i)\/∃j,j<n/\∀i:Nat,xs[i]?≠on j
 |0,_=> .inl λi h=>RJ h (TX i)
 |n+1,h=>by
  rcases gap r n (by omega)with q|⟨j,c,b⟩
  .have e:xs[n]?=on xs[n]:=getElem?_pos xs n (by omega)
   by_cases z:xs[n]=n
   .refine .inl λi d=>?_
    by_cases w:i=n
    .subst w;rw[e,z]
    .exact q i (by omega)
   .have lt:n<=xs[n]:=by
     cases n with
     |zero=>omega
     |succ m=>
      have:=r m (m+1) _ _ (by omega) (q m (by omega)) e;omega
    refine .inr ⟨n,by omega,λi a=>?_⟩;rcases UH i n with w|w|w
    .rw[q i w]at a;cases a;omega
    .subst w;rw[e]at a;exact z (RO a)
    .have:=r n i _ _ w e a
     omega
  .exact .inr ⟨j,by omega,b⟩
theorem NX{xs:Array Nat}(r:Rs xs):∃j,j<=xs.size/\∀i:Nat,xs[i]?≠on j:=by
 rcases gap r xs.size (Rf _)with q|⟨j,c,a⟩
 .refine⟨xs.size,Rf _,λi e=>?_⟩
  have b:=(SC.mp e).1;rw[q i b]at e;cases e;omega
 .exact⟨j,by omega,a⟩
theorem KC{t:Si}(r:Rs t.place)(d:t.dummies=#[]):∀(fuel:Nat) (p:Probe) (e:Nat),Pv t p->e<fuel->¬Lv t (eo t e p).j->
  ∃m,m<=e/\(∀a<m,∃i,t.place[i]?=on (eo t a p).j/\hashAt i≠h)/\
   ((¬Lv t (eo t m p).j/\probe.go t hashAt h fuel p=on (.empty (eo t m p).j QY))\/∃i,t.place[i]?=on (eo t m p).j/\hashAt i=h/\probe.go t hashAt h fuel p=on (.candidate (eo t m p).j i (eo t (m+1) p)))
 |0,_,_,_,h,_=>RJ h (TX _)
 |fuel+1,p,e,v,hf,he=>by
  unfold probe.go;by_cases q:Lv t p.j
  .obtain⟨i,b⟩:=q
   rw[sf r b];simp only;by_cases z:hashAt i=h
   .refine⟨0,Ss _,λa hm=>RJ hm (TX _),.inr ⟨i,b,z,?_⟩⟩
    rw[Rb (by rw[UW];exact z)];rfl
   .rw[Q8 (by rw[UW];exact z)]
    cases e with
    |zero=>exact RJ ⟨i,b⟩ he
    |succ e=>
     obtain⟨m,hm,ha,c⟩:=KC r d fuel (t.advance p) e (CQ v) (by omega) he;refine⟨m+1,by omega,λa f=>?_,c⟩;cases a with
     |zero=>exact⟨i,b,z⟩
     |succ a=>exact ha a (by omega)
  .rw[x8 d (λi b=>q ⟨i,b⟩)]
   refine⟨0,Ss _,λa hm=>RJ hm (TX _),.inl ⟨q,?_⟩⟩;simp only[v.du];rfl
theorem Tb.free{t:Si}(T:Tb t hs)(v:Pv t p):∃e,e<10*turns t.mask/\¬Lv t (eo t e p).j:=by
 obtain⟨j,f,a⟩:=NX T.rs;have:=T.nf;have:=T.km.odd;obtain⟨e,b,c⟩:=QU T.km v (show j<=t.mask by omega);exact⟨e,b,λ⟨k,d⟩=>a k (by rw[<-c];exact d)⟩
theorem BN{α:Type}{xs:Array α}{p:Nat}{x:α}(b:p<=xs.size)(i:Nat):(insertAt xs p x)[i]?=if i<p then xs[i]? else if i=p then on x else xs[i-1]?:=by
 unfold insertAt;rw[Array.getElem?_append];have a:((xs.extract 0 p).push x).size=p+1:=by simp;omega
 rw[a];by_cases q:i<p
 .rw[Rb (by omega),Rb q,Zj,Zt]
  rw[Q8 (by omega),YC];simp;omega
 .by_cases z:i=p
  .subst z
   rw[Rb (by omega),Q8 (by omega),Rb rfl,Zj,Zt];rw[Rb (by omega)]
  .rw[Q8 (by omega),Q8 q,Q8 z,YC]
   by_cases w:i-1<xs.size
   .rw[Rb (by omega)]
    congr 1;omega
   .rw[Q8 (by omega),Ut (by omega)]
theorem gj{α:Type}{xs:Array α}{p:Nat}{x:α}(a:p<=xs.size):(insertAt xs p x).size=xs.size+1:=by
 unfold insertAt;simp;omega
theorem Tb.put{t:Si}{hs:List Int}(T:Tb t hs)(C:¬Lv t j)(hn:(eo t n (t.probeStart h)).j=j)(ha:∀m<n,Lv t (eo t m (t.probeStart h)).j)(nf:(t.place.size+1)*5<t.mask*3):
  (t.put j).1.dummies=#[]/\(t.put j).1.mask=t.mask/\(t.put j).1.place.size=t.place.size+1/\(t.put j).2<=t.place.size/\Tb (t.put j).1 (hs.take (t.put j).2++h::hs.drop (t.put j).2):=by
 obtain⟨b1,b2,b3⟩:=jk (j:=j) T.rs;have hd:has t.dummies j=Q9:=by unfold has;rw[T.du];rfl
 have A:(t.put j).1.dummies=#[]:=by
  show(if has t.dummies j=Q4 then _ else t.dummies)=#[];rw[hd,Q8 Ri,T.du]
 have ep:(t.put j).1.place=insertAt t.place (below t.place j) j:=rfl;have g:=λi=>BN (x:=j) b1 i;have B:∀x,Lv t x->Lv (t.put j).1 x:=λx ⟨k,l⟩=>by
  by_cases q:k<below t.place j
  .exact⟨k,by rw[ep,g,Rb q];exact l⟩
  .exact⟨k+1,by rw[ep,g,Q8 (by omega),Q8 (by omega)];exact l⟩
 have it:∀m p,eo (t.put j).1 m p=eo t m p:=λm=>by
  induction m with
  |zero=>intro p;rfl
  |succ m ih=>intro p;exact ih (t.advance p)
 refine⟨A,rfl,by rw[ep,gj b1],b1,⟨T.km,?_,?_,?_,A,?_,?_⟩⟩
 .rw[ep,gj b1,T.sz]
  have:(t.put j).2<=hs.length:=by rw[<-T.sz];exact b1
  simp;omega
 .intro i k x y r c e
  rw[ep,g]at c e;have F:∀k,t.place[k]?≠on j:=λk l=>C ⟨k,l⟩;by_cases q1:i<below t.place j
  .rw[Rb q1]at c
   by_cases q2:k<below t.place j
   .rw[Rb q2]at e
    exact T.rs i k x y r c e
   .rw[Q8 q2]at e
    by_cases q3:k=below t.place j
    .rw[Rb q3]at e;cases e
     exact b2 i x q1 c
    .rw[Q8 q3]at e
     exact T.rs i (k-1) x y (by omega) c e
  .rw[Q8 q1]at c
   rw[Q8 (by omega),Q8 (by omega)]at e;by_cases q3:i=below t.place j
   .rw[Rb q3]at c;cases c
    have L:=b3 (k-1) y (by omega) e;have:y≠j:=λz=>F (k-1) (by rw[e,z]);omega
   .rw[Q8 q3]at c
    exact T.rs (i-1) (k-1) x y (by omega) c e
 .intro i x c
  rw[ep,g]at c;by_cases q1:i<below t.place j
  .rw[Rb q1]at c;exact T.le i x c
  .rw[Q8 q1]at c
   by_cases q3:i=below t.place j
   .rw[Rb q3]at c;cases c
    have v:=mP n (oO t h);have:=v.j;show j<=t.mask;omega
   .rw[Q8 q3]at c;exact T.le _ x c
 .rw[ep,gj b1];exact nf
 .intro i h' x H c
  have N:(t.put j).2<=hs.length:=by rw[<-T.sz];exact b1
  have u:(t.put j).2=below t.place j:=rfl;rw[ep,g]at c;have d:(if i<below t.place j then hs[i]? else if i=below t.place j then on h else hs[i-1]?)=on h':=by
   rw[<-H,u];by_cases q1:i<below t.place j
   .rw[Rb q1,UR (by rw[S6];omega),Yw q1]
   .rw[Q8 q1,Tv (by rw[S6];omega),S6,Nat.min_eq_left (by omega)]
    by_cases q3:i=below t.place j
    .rw[Rb q3,q3,VW];rfl
    .rw[Q8 q3,show i-below t.place j=(i-1-below t.place j)+1 by omega,YG,ZR]
     congr 1;omega
  have f:∀o,hs[o]?=on h'->t.place[o]?=on x->∃n,(eo (t.put j).1 n ((t.put j).1.probeStart h')).j=x/\∀m<n,Lv (t.put j).1 (eo (t.put j).1 m ((t.put j).1.probeStart h')).j:=λo a b=>by
   obtain⟨I,J,u⟩:=T.rch o h' x a b;refine⟨I,by rw[it];exact J,λm hm=>?_⟩;rw[it];exact B _ (u m hm)
  by_cases q1:i<below t.place j
  .rw[Rb q1]at c d
   exact f i d c
  .rw[Q8 q1]at c d
   by_cases q3:i=below t.place j
   .rw[Rb q3]at c d
    cases c;cases d;refine⟨n,by rw[it];exact hn,λm hm=>?_⟩;rw[it];exact B _ (ha m hm)
   .rw[Q8 q3]at c d
    exact f (i-1) d c
theorem vp{t u:Si}(h:t.mask=u.mask):∀(n:Nat) (p:Probe),eo t n p=eo u n p
 |0,p=>rfl
 |n+1,p=>by
  show eo t n (t.advance p)=eo u n (u.advance p);have:t.advance p=u.advance p:=by unfold advance;rw[h]
  rw[this];exact vp h n _
theorem xZ{t u:Si}(h:t.mask=u.mask)(x:Int):t.probeStart x=u.probeStart x:=by unfold probeStart;rw[h]
noncomputable abbrev tm(mask:Nat):Si:={mask,place:=#[],dummies:=#[],finger:=0,led:=Q4,moves:=0,plain:=Q4}
noncomputable abbrev fr(owner:Array (Option Nat))(j:Nat):Bool:=(owner.getD j (on 0)).isNone
theorem n5{mask:Nat}{owner:Array (Option Nat)}:∀(fuel i pt:Nat),i<=mask->pt<2^64->(∃b,b<fuel/\fr owner (cr mask b (i,pt)).1=Q4)->
  ∃n,layClean.free mask owner fuel i pt=on (eo (tm mask) n (r_ (tm mask) i pt)).j/\fr owner (eo (tm mask) n (r_ (tm mask) i pt)).j=Q4/\∀m<n,fr owner (eo (tm mask) m (r_ (tm mask) i pt)).j=Q9
 |0,_,_,_,_,⟨b,h,_⟩=>RJ h (TX b)
 |fuel+1,i,pt,hi,hp,⟨b,hb,hf⟩=>by
  have v:=qN (t:=tm mask) hi hp;obtain⟨r1,B,C⟩:=sB hi;have f:(r_ (tm mask) i pt).more=runEnd mask i-i:=rfl;have d:∀k,k<=runEnd mask i-i->(eo (tm mask) k (r_ (tm mask) i pt)).j=i+k:=λk c=>by
   rw[rE k v c];rfl
  unfold layClean.free;split
  .rename_i k c
   obtain⟨g,l,o⟩:=List.find?_range_eq_some.mp c;have:=Rz.mp l;refine⟨k,by rw[d k (by omega)],by rw[d k (by omega)];exact g,λm hm=>?_⟩;rw[d m (by omega)];have:=o m hm;simpa using this
  .rename_i c
   have hn:∀k,k<=runEnd mask i-i->fr owner (i+k)=Q9:=λk p=>by
    have:=List.find?_range_eq_none.mp c k (by omega);simpa using this
   cases b with
   |zero=>
    have r:=hn 0 (by omega);exact RJ hf (by rw[show(cr mask 0 (i,pt)).1=i+0 from rfl,r];exact Ri)
   |succ b=>
    obtain⟨n,u,y,A⟩:=n5 fuel (Ic mask i pt) (pt/32) (yw _ _ _) (Tl (X4 _ _) hp) ⟨b,by omega,hf⟩;have a:∀m,eo (tm mask) (runEnd mask i-i+1+m) (r_ (tm mask) i pt)=eo (tm mask) m (r_ (tm mask) (Ic mask i pt) (pt/32)):=λm=>by
     rw[nY,<-f,pb v];rfl
    refine⟨runEnd mask i-i+1+n,by rw[a];exact u,by rw[a];exact y,λm hm=>?_⟩;by_cases q:m<=runEnd mask i-i
    .rw[d m q];exact hn m q
    .obtain⟨e,rfl⟩:∃e,m=runEnd mask i-i+1+e:=⟨m-(runEnd mask i-i+1),by omega⟩
     rw[a];exact A e (by omega)
structure Ow (mask:Nat) (owner:Array (Option Nat)) (hs:List Int):Prop where
 sz:owner.size=mask+1
 lt:∀j k:Nat,owner[j]?=on (on k)->k<hs.length
 un:∀j j' k:Nat,owner[j]?=on (on k)->owner[j']?=on (on k)->j=j'
 cn:owner.toList.countP (·.isSome)=hs.length
 ex:∀(k:Nat) (h:Int),hs[k]?=on h->∃j n:Nat,owner[j]?=on (on k)/\(eo (tm mask) n ((tm mask).probeStart h)).j=j/\∀m<n,∃k':Nat,owner[(eo (tm mask) m ((tm mask).probeStart h)).j]?=on (on k')
theorem yR{mask:Nat}{owner:Array (Option Nat)}(hs:owner.size=mask+1){j:Nat}(b:j<=mask):(fr owner j=Q4↔owner[j]?=on QY)/\(fr owner j=Q9↔∃k:Nat,owner[j]?=on (on k)):=by
 have e:owner[j]?=on owner[j]:=getElem?_pos owner j (by omega);have a:owner.getD j (on 0)=owner[j]:=by simp[Ug,show j<owner.size by omega]
 unfold fr;rw[a,e];cases owner[j]<;>simp
theorem Ow.step{mask:Nat}{owner:Array (Option Nat)}{hs:List Int}(O:Ow mask owner hs)(h:Int)(hm:Mk mask)(U:hs.length<=mask):
  ∃j,layClean.free mask owner (turns mask) (bits h % (mask+1)) (bits h)=on j/\Ow mask (owner.setIfInBounds j (on hs.length)) (hs++[h]):=by
 have r:bits h % (mask+1)<=mask:=by have:=Xk (bits h) (show mask+1>0 by omega);omega
 have⟨u,h1,h2⟩:∃u,u<=mask/\fr owner u=Q4:=by
  refine UG λz=>?_;have all:∀a∈owner.toList,Option.isSome a=Q4:=λa ha=>by
   obtain⟨i,g,e⟩:=VF ha;have J:i<owner.size:=by simpa using g
   have L:fr owner i=Q9:=by
    cases q:fr owner i with
    |false=>rfl
    |true=>exact RJ ⟨i,by have:=O.sz;omega,q⟩ z
   obtain⟨k,v⟩:=(yR O.sz (show i<=mask by have:=O.sz;omega)).2.mp L;have:owner[i]?=on a:=by rw[<-UC,Q2 g,e]
   rw[this]at v;cases v;rfl
  have:=List.countP_eq_length.mpr all;rw[O.cn]at this;have:=O.sz;simp at*;omega
 have z:(cr mask 13 (bits h % (mask+1),bits h)).2=0:=by
  rw[oS];exact Nat.div_eq_of_lt (RH (n9 h) (by decide))
 have l:=wL mask 13 (bits h % (mask+1),bits h) r;obtain⟨k,v,e⟩:=wZ hm l h1;have N:fr owner (cr mask (13+k) (bits h % (mask+1),bits h)).1=Q4:=by
  rw[oU,show cr mask 13 (bits h % (mask+1),bits h)=((cr mask 13 (bits h % (mask+1),bits h)).1,0)from Vg rfl z,mo];show fr owner (G_ mask k _)=Q4;rw[e];exact h2
 obtain⟨n,C,F,Q⟩:=n5 (owner:=owner) (turns mask) (bits h % (mask+1)) (bits h) r (n9 h) ⟨13+k,by unfold turns;omega,N⟩;have H:∀m,(eo (tm mask) m (r_ (tm mask) (bits h % (mask+1)) (bits h))).j<=mask:=λm=>by
  have:=(mP m (qN (t:=tm mask) r (n9 h))).j;show _<=(tm mask).mask;omega
 generalize I:(eo (tm mask) n (r_ (tm mask) (bits h % (mask+1)) (bits h))).j=j at C F;have R:j<=mask:=by rw[<-I];exact H n
 have jn:owner[j]?=on QY:=(yR O.sz R).1.mp F;have o:j<owner.size:=by have:=O.sz;omega
 have set:∀x:Nat,(owner.setIfInBounds j (on hs.length))[x]?=if j=x then on (on hs.length)else owner[x]?:=λx=>by
  rw[Array.getElem?_setIfInBounds];by_cases q:j=x
  .rw[Rb q,Rb q,Rb o]
  .rw[Q8 q,Q8 q]
 refine⟨j,C,⟨by rw[Array.size_setIfInBounds];exact O.sz,λx k c=>?_,λx y k c f=>?_,?_,λk h' d=>?_⟩⟩
 .rw[set]at c
  rw[Ro];by_cases q:j=x
  .rw[Rb q]at c;cases c;simp
  .rw[Q8 q]at c
   have:=O.lt x k c;omega
 .rw[set]at c f
  by_cases q:j=x
  .rw[Rb q]at c;cases c
   by_cases p:j=y
   .omega
   .rw[Q8 p]at f
    exact RJ (O.lt y _ f) (Sf _)
  .rw[Q8 q]at c
   by_cases p:j=y
   .rw[Rb p]at f;cases f
    exact RJ (O.lt x _ c) (Sf _)
   .rw[Q8 p]at f
    exact O.un x y k c f
 .rw[Array.toList_setIfInBounds,List.countP_set (by simpa using o),O.cn]
  have:owner.toList[j]'(by simpa using o)=QY:=by
   have e:=getElem?_pos owner j o;rw[jn]at e;rw[Vp];exact(RO e).symm
  rw[this];simp
 .by_cases q:k<hs.length
  .rw[UR q]at d
   obtain⟨x,T,a1,a2,a3⟩:=O.ex k h' d;refine⟨x,T,?_,a2,λm hm=>?_⟩
   .rw[set,Q8 (λw=>by subst w;rw[jn]at a1;cases a1)];exact a1
   .obtain⟨A,b⟩:=a3 m hm
    exact⟨A,by rw[set,Q8 (λw=>by rw[<-w,jn]at b;cases b)];exact b⟩
  .have B:=(Rj.mp d).1
   rw[Ro,Sd]at B;have:k=hs.length:=by omega
   subst this;rw[Tv (Rf _),VW]at d;cases d;refine⟨j,n,by rw[set,Rb rfl],I,λm hm=>?_⟩;obtain⟨A,b⟩:=(yR O.sz (H m)).2.mp (Q m hm);exact⟨A,by rw[rZ,set,Q8 (λw=>by rw[<-w,jn]at b;cases b)];exact b⟩
theorem Ow.nil(mask:Nat):Ow mask (Array.replicate (mask+1) QY) []:=by
 have g:∀x:Nat,(Array.replicate (mask+1) (QY:Option Nat))[x]?=if x<mask+1 then on QY else QY:=λx=>Array.getElem?_replicate;refine⟨by simp,λj k h=>?_,λj b k h=>?_,by simp,λk h a=>by simp at a⟩
 .rw[g]at h
  split at h<;>cases h
 .rw[g]at h
  split at h<;>cases h
theorem vg{mask:Nat}(hm:Mk mask):∀(l:List Int) (owner:Array (Option Nat)) (hs:List Int),Ow mask owner hs->hs.length+l.length<=mask+1->∃a,l.foldl (λ(acc:Option (Array (Option Nat)×Nat)) h=>do
   let (owner,k) <-acc
   let j <-layClean.free mask owner (turns mask) (bits h % (mask+1)) (bits h)
   T0 (owner.setIfInBounds j (on k),k+1)) (on (owner,hs.length))=on (a,hs.length+l.length)/\Ow mask a (hs++l)
 |[],owner,hs,O,_=>⟨owner,rfl,by rw[RX];exact O⟩
 |h::l,owner,hs,O,hl=>by
  rw[Rl]at hl;obtain⟨j,e,d⟩:=O.step h hm (by omega);obtain⟨f,b,c⟩:=vg hm l _ (hs++[h]) d (by rw[Ro,Sd];omega);refine⟨f,?_,by rw[Sm]at c;exact c⟩;rw[List.foldl_cons];simp only[Option.bind_eq_bind,Xx,e];rw[Ro,Sd]at b;rw[Rl,show hs.length+(l.length+1)=hs.length+1+l.length by omega];exact b
theorem NI{mask:Nat}(hm:Mk mask)(hs:Array Int)(b:hs.size<=mask+1):∃owner,layClean mask hs=on owner/\Ow mask owner hs.toList:=by
 obtain⟨o,e,O⟩:=vg hm hs.toList _ [] (Ow.nil mask) (by simpa using b);refine⟨o,?_,O⟩;unfold layClean;rw[<-Array.foldl_toList];have a:=e;simp only[XV]at a;exact(R9 (Option.map (·.1)) a).trans rfl
theorem vE{α β:Type}{f:α->Option β}{g:α->β}:∀{l:List α},(∀a∈l,f a=on (g a))->l.filterMap f=l.map g
 |[],_=>rfl
 |a::l,h=>by
  rw[S8,h a Q7,Rk,vE λb c=>h b (Q1 a c)]
noncomputable def cj(mask:Nat)(owner:Array (Option Nat)):List (Nat×Nat):=(Re (mask+1)).filterMap λj=>(owner.getD j QY).map (j,·)
theorem FC{mask:Nat}{owner:Array (Option Nat)}(hs:owner.size=mask+1){j k:Nat}:(j,k)∈cj mask owner↔owner[j]?=on (on k):=by
 unfold cj;rw[V1];constructor
 .rintro⟨x,c,e⟩
  have d:=Rz.mp c;have a:owner.getD x QY=owner[x]:=by simp[Ug,show x<owner.size by omega]
  rw[a]at e;cases q:owner[x]with
  |none=>rw[q]at e;cases e
  |some f=>
   rw[q]at e;simp only[SY,Yx,Prod.mk.injEq]at e;obtain⟨rfl,rfl⟩:=e;rw[getElem?_pos owner x (by omega),q]
 .intro e
  have b:=(SC.mp e).1;refine⟨j,Rz.mpr (by omega),?_⟩;have a:owner.getD j QY=owner[j]:=by simp[Ug,b]
  rw[getElem?_pos owner j b]at e;rw[a,RO e];rfl
theorem BA(mask:Nat)(owner:Array (Option Nat)):(cj mask owner).Pairwise λa b=>a.1<b.1:=by
 unfold cj;refine List.Pairwise.filterMap _ (λa f h b d g c=>?_) List.pairwise_lt_range;cases q:owner.getD a QY with
 |none=>rw[q]at d;cases d
 |some k=>
  rw[q]at d;cases e:owner.getD f QY with
  |none=>rw[e]at c;cases c
  |some i=>
   rw[e]at c;cases d;cases c;exact h
theorem zV{t:Si}{hs:Array Int}(hm:Mk (sizeAbove wanted-1))(nf:hs.size*5<(sizeAbove wanted-1)*3):
  ∃(t':Si) (c:Array Nat),t.relaid hs wanted=on (t',c)/\c.toList.Perm (Re hs.size)/\Tb t' (c.toList.map λk=>hs.getD k 0)/\t'.led=t.led/\t'.plain=t.plain:=by
 have ho:=hm.odd;obtain⟨owner,e,O⟩:=NI hm hs (by omega);generalize T:sizeAbove wanted-1=mask at*;have d:hs.toList.length=hs.size:=by simp
 have f:=BA mask owner;have g:∀{j k:Nat},(j,k)∈cj mask owner↔owner[j]?=on (on k):=FC O.sz;have U:t.relaid hs wanted=on ({mask,place:=((cj mask owner).map (·.1)).toArray,dummies:=#[],finger:=t.finger,led:=t.led,moves:=t.movedTo mask,plain:=t.plain},((cj mask owner).map (·.2)).toArray):=by
  unfold relaid laid;rw[T,e];rfl
 have perm:((cj mask owner).map (·.2)).Perm (Re hs.size):=by
  refine(List.perm_ext_iff_of_nodup ?_ WA).mpr λk=>?_
  .unfold List.Nodup
   rw[We];refine List.Pairwise.imp_of_mem (R:=λa b=>a.1<b.1) (λ{a b} ha B h z=>?_) f;obtain⟨j,k⟩:=a;obtain⟨r,v⟩:=b;have W:k=v:=z;subst W;have:=O.un j r k (g.mp ha) (g.mp B);have h':j<r:=h;omega
  .rw[Rp,Rz]
   constructor
   .rintro⟨⟨j,v⟩,h,rfl⟩
    have:=O.lt j v (g.mp h);rwa[d]at this
   .intro A
    obtain⟨j,n,C,_⟩:=O.ex k _ (Q2 (by rw[d];exact A));exact⟨(j,k),g.mpr C,rfl⟩
 have l:(cj mask owner).length=hs.size:=by
  have:=perm.length_eq;rwa[QX,Ry]at this
 refine⟨_,_,U,by simpa using perm,?_,rfl,rfl⟩;have pg:∀{i:Nat} {x:Nat},(((cj mask owner).map (·.1)).toArray)[i]?=on x->∃k,(cj mask owner)[i]?=on (x,k):=λ{i x} h=>by
  rw[WU,Q5]at h;cases q:(cj mask owner)[i]? with
  |none=>rw[q]at h;cases h
  |some a=>
   rw[q]at h;cases h;exact⟨a.2,rfl⟩
 have F:∀{j k:Nat},owner[j]?=on (on k)->∃i:Nat,(((cj mask owner).map (·.1)).toArray)[i]?=on j:=λ{j k} h=>by
  obtain⟨i,X,Y⟩:=VF (g.mpr h);exact⟨i,by rw[WU,Q5,Q2 X,Y];rfl⟩
 refine⟨hm,?_,?_,?_,rfl,?_,?_⟩
 .show(((cj mask owner).map (·.1)).toArray).size=_
  simp
 .intro i k x y H Z hy
  obtain⟨a,ha⟩:=pg Z;obtain⟨b,B⟩:=pg hy;obtain⟨C,I⟩:=Rj.mp ha;obtain⟨h2,e2⟩:=Rj.mp B;have:=T8.mp f i k C h2 H;rw[I,e2]at this;exact this
 .intro i j h
  obtain⟨a,ha⟩:=pg h;have:=(SC.mp (g.mp (RK ha))).1;have:=O.sz;show j<=mask;omega
 .show(((cj mask owner).map (·.1)).toArray).size*5<mask*3
  have:(((cj mask owner).map (·.1)).toArray).size=hs.size:=by simp[l]
  omega
 .intro i h j J hj
  obtain⟨k,A⟩:=pg hj;have o:=g.mp (RK A);have eh:hs.toList[k]?=on h:=by
   rw[Q5]at J;have I:((cj mask owner).map (·.2)).toArray.toList[i]?=on k:=by
    show((cj mask owner).map (·.2))[i]?=_;rw[Q5,A];rfl
   rw[I]at J;have N:k<hs.size:=by have:=O.lt j k o;rwa[d]at this
   have:hs.getD k 0=h:=RO J;rw[UC,getElem?_pos hs k N,<-this];simp[Ug,N]
  obtain⟨r,n,a1,a2,a3⟩:=O.ex k h eh;have:=O.un j r k o a1;subst this;have tr:∀(u:Si),u.mask=mask->∀m,eo u m (u.probeStart h)=eo (tm mask) m ((tm mask).probeStart h):=λu Q m=>by
   rw[xZ (u:=tm mask) Q,vp (u:=tm mask) Q]
  refine⟨n,by rw[tr _ rfl];exact a2,λm L=>?_⟩;rw[tr _ rfl];obtain⟨v,p⟩:=a3 m L;exact F p
theorem sD{t:Si}(a:t.probe f h p=r)(T:Tb t hs)(v:Pv t p)(b:e<10*turns t.mask)(c:¬Lv t (eo t e p).j):
  ∃m,m<=e/\(∀d<m,∃i,t.place[i]?=on (eo t d p).j/\f i≠h)/\
   ((¬Lv t (eo t m p).j/\r=on (.empty (eo t m p).j QY))\/∃i,t.place[i]?=on (eo t m p).j/\f i=h/\r=on (.candidate (eo t m p).j i (eo t (m+1) p))):=by
 subst a;exact KC T.rs T.du _ p e v b c
section
variable{prog:RT}{w:R8}{A:SB}{E:Ra->Rg->Prop}{s:Rg}
noncomputable abbrev hW(prog:RT)(w:R8):HeapKind prog w (List Int):=tupleKind (W4 prog w)
noncomputable abbrev hsh(prog:RT)(w:R8)(k:List Int):Int:=(hW prog w).hash k
theorem Tb.fits{t:Si}{hs:List Int}(T:Tb t hs)(hn:hs.length=n):t.fits n=Q4:=by
 have:=T.nf;have:=T.sz;have:=T.km.odd;unfold X0 SetTable.fill;rw[T.du];simp;omega
theorem items_int(h:ItemsAre (W4 prog w) ks vs):∀v∈vs,∃n t,v=U8 n t:=by
 induction h with
 |nil=>intro v hv;cases hv
 |@cons k v' ks vs h1 _ ih=>
  intro v hv;rcases Rq.mp hv with rfl|hv
  .obtain⟨t,e⟩:=Xm h1
   exact⟨_,t,e⟩
  .exact ih v hv
theorem zn{M:Model}{o:RA}(b:s.heap.get? a=on o)(h:Q o.cls s):Rt M A (typeOf (.ref a)) Q E s:=by
 show Rt M A (loadPart a _>>=_) Q E s;exact My (wpAny_loadPart b (Q0 h))
theorem uW(f:(hW prog w).is s.heap k x)(h:Q Q9 s):Rt (RN prog w) A (X9 8 (.ref x)) Q E s:=by
 obtain⟨o,b,n,e,g,hd,i⟩:=f;unfold X9;refine My (zn e ?_);rw[g];simp only[beq_self_eq_true,SA];refine My (Q0 ?_);simp only[TZ,RC,Sz];refine My (Tp e hd ?_);refine My ?_;show Rt _ _ (forIn b _ _) _ _ s;rw[<-U2];refine WW _ (λrest r s'=>r.1=QY/\s'=s/\∀v∈rest,∃n t,v=U8 n t) _ ?_ ?_ _ _ ⟨rfl,rfl,items_int i⟩
 .rintro v rest r s' ⟨c,rfl,a⟩
  obtain⟨n,t,rfl⟩:=a v Q7;unfold X9;refine My (Q0 ?_);simp only[RC,Sz];exact Q0 ⟨rfl,rfl,λu d=>a u (Q1 _ d)⟩
 .rintro⟨r1,j⟩ s' ⟨c,rfl,_⟩
  simp only at c;subst c;exact Q0 h
theorem GH(e:(hW prog w).is s.heap k x)(h:Q Q4 s):Rt (RN prog w) A (hashByValue 8 (.ref x)) Q E s:=by
 have f:=YD (s:=s) e;obtain⟨o,b,n,g,j,hd,i⟩:=e;unfold hashByValue;refine My (Uh f F.slot_tuple_hash.lookup ?_);simp only;refine My (Tp g hd ?_);refine My ?_;show Rt _ _ (forIn b _ _) _ _ s;rw[<-U2];refine WW _ (λrest r s'=>r.1=QY/\s'=s/\∀v∈rest,∃n t,v=U8 n t) _ ?_ ?_ _ _ ⟨rfl,rfl,items_int i⟩
 .rintro v rest r s' ⟨c,rfl,a⟩
  obtain⟨n,t,rfl⟩:=a v Q7;unfold hashByValue;refine My (Q0 ?_);simp only[TZ,RC,Sz];exact Q0 ⟨rfl,rfl,λu d=>a u (Q1 _ d)⟩
 .rintro⟨r1,l⟩ s' ⟨c,rfl,_⟩
  simp only at c;subst c;exact Q0 h
theorem LK(f:(hW prog w).is s.heap k x):∀(l:List (List Int×Q6)) {Q:Bool->Rg->Prop},(∀y∈l,(hW prog w).is s.heap y.1 y.2)->Q Q9 s->Rt (RN prog w) A (Yc (.ref x) (l.map λy=>RI y.2)) Q E s:=by
 intro l Q h i;unfold Yc;refine My ?_;refine WW _ (λrest r s'=>r.1=QY/\s'=s/\∃b:List (List Int×Q6),rest=b.map (λy=>RI y.2)/\∀y∈b,(hW prog w).is s.heap y.1 y.2) _ ?_ ?_ _ _ ⟨rfl,rfl,l,rfl,h⟩
 .rintro v rest r s' ⟨d,rfl,b,e,a⟩
  cases b with
  |nil=>cases e
  |cons y b=>
   cases e;have g:=a y Q7;have nxt:(QY:Option Bool)=QY/\s'=s'/\∃c:List (List Int×Q6),b.map (λy=>RI y.2)=c.map (λy=>RI y.2)/\∀y∈c,(hW prog w).is s'.heap y.1 y.2:=⟨rfl,rfl,b,rfl,λu j=>a u (Q1 y j)⟩;by_cases q:x==y.2
   .simp only[q,Bool.true_or,SA]
    exact Q0 nxt
   .simp only[q,Bool.false_or,carriedByValue,WX,RC,Sz]
    refine My ((hW prog w).quiet f ?_);simp only[TZ,RC,Sz];refine My ((hW prog w).quiet g ?_);simp only[TZ,RC,Sz];refine My (uW f ?_);simp only[RC,Sz];refine My (uW g ?_);simp only[RC,Sz];exact Q0 nxt
 .rintro⟨r1,m⟩ s' ⟨d,rfl,_⟩
  simp only at d;subst d;exact Q0 i
theorem zK{o:RA}{es:Array (Int×Ra)}{t:Si}{xs:List (List Int×Q6)}(hu:A.units<Wu)(ho:s.heap.get? a=on o)(hd:o.data= .set es ep t)
  (H:es.toList=xs.map λx=>(hsh prog w x.1,RI x.2)) (hx:∀x∈xs,(hW prog w).is s.heap x.1 x.2) (T:Tb t (xs.map λx=>hsh prog w x.1)) (hk:(hW prog w).is s.heap k b)
  (he:e<10*turns t.mask) (U:¬Lv t (eo t e (t.probeStart (hsh prog w k))).j) (ha:∀m<e,Lv t (eo t m (t.probeStart (hsh prog w k))).j)
  (q1:k∈xs.map (·.1)->Q (.there QY) s) (q2:k∉xs.map (·.1)->Q (.free (eo t e (t.probeStart (hsh prog w k))).j Q9) s):
  ∀(n c m:Nat) (st:Option Probe),e=m+n->n<c->st.getD (t.probeStart (hsh prog w k))=eo t m (t.probeStart (hsh prog w k))->(∀g<m,∀(i:Nat) x,t.place[i]?=on (eo t g (t.probeStart (hsh prog w k))).j->xs[i]?=on x->x.1≠k)->
   Rt (RN prog w) A (setSearchFrom a (.ref b) (hsh prog w k) Q4 c st) Q E s:=by
 have hsz:es.size=xs.length:=by rw[<-R0,H,QX]
 have W:t.fits es.size=Q4:=T.fits (by rw[QX,hsz]);have l:∀i:Nat,es[i]?=(xs[i]?).map λx=>(hsh prog w x.1,RI x.2):=λi=>by rw[<-UC,H,Q5]
 have gw:t.gaveWay=Q9:=by
  have:=T.km.odd;unfold SetTable.gaveWay;rw[YH];omega
 intro n
 induction n using X5 with
 |_ n ih=>
  intro c m st em hfu hst p;cases c with
  |zero=>omega
  |succ c=>
   unfold setSearchFrom;refine My (Ti ho hd W ?_)
   dsimp only
   rw[hst,gw];simp only[RC,Sz];have v:=mP m (oO t (hsh prog w k));have it:∀n',eo t n' (eo t m (t.probeStart (hsh prog w k)))=eo t (m+n') (t.probeStart (hsh prog w k)):=λn'=>(nY t m n' _).symm;have same:∀{i O j:Nat},t.place[i]?=on j->t.place[O]?=on j->i=O:=λ{i O j} u C=>by
    rcases UH i O with q|q|q
    .exact RJ (T.rs i O j j q u C) (Sf j)
    .exact q
    .exact RJ (T.rs O i j j q C u) (Sf j)
   split
   .rename_i X heq
    obtain⟨g,hm',r,d⟩:=sD heq T v (e:=n) (by omega) (by rw[it,<-em];exact U);rcases d with⟨Y,I⟩|⟨i,R,hfi,I⟩
    .cases I
     have Z:g=n:=by
      rcases VU g n with q|q
      .rw[it]at Y
       exact RJ (ha (m+g) (by omega)) Y
      .omega
     subst Z;refine Q0 ?_;rw[it,<-em];refine q2 λhmem=>?_;obtain⟨x,hx1,J⟩:=Rp.mp hmem;obtain⟨B,hi0,ei0⟩:=VF hx1;have h:xs[B]?=on x:=by rw[Q2 hi0,ei0]
     have L:B<t.place.size:=by have:=T.sz;rw[QX]at this;omega
     obtain⟨F,a1,a2⟩:=T.rch B (hsh prog w k) t.place[B] (by rw[Q5,h,<-J];rfl) (getElem?_pos t.place B L);have hlt:F<e:=by
      rcases UH F e with q|q|q
      .exact q
      .subst q
       exact RJ ⟨B,by rw[a1];exact getElem?_pos t.place B L⟩ U
      .exact RJ (a2 e q) U
     have hp0:t.place[B]?=on (eo t F (t.probeStart (hsh prog w k))).j:=by rw[a1];exact getElem?_pos t.place B L
     by_cases q:F<m
     .exact p F q B x hp0 h J
     .obtain⟨i,u,C⟩:=r (F-m) (by omega)
      rw[it,show m+(F-m)=F by omega]at u;have:=same u hp0;subst this;refine C ?_;show(es[i]?.map (·.1)).getD 0=_;rw[l,h,<-J];rfl
    .cases I
     have N:i<xs.length:=by
      have u:=(SC.mp R).1;have:=T.sz;rw[QX]at this;omega
     have h:xs[i]?=on xs[i]:=Q2 N;have hei:es[i]?=on (hsh prog w xs[i].1,RI xs[i].2):=by rw[l,h];rfl
     have hxk:=hx xs[i] (R1 N);rw[it]at R;simp only;have el:(Sj (λx=>x.snd) (Array.filter (λx=>x.fst==hsh prog w k) es).toList)=(xs.filter λy=>hsh prog w y.1==hsh prog w k).map λy=>RI y.2:=by
      rw[Array.toList_filter,H,WO,Rc];rfl
     rw[el];have seen:∀{Q':Bool->Rg->Prop},Q' Q9 s->Rt (RN prog w) A (Yc (.ref b) ((xs.filter λy=>hsh prog w y.1==hsh prog w k).map λy=>RI y.2)) Q' E s:=λhq=>LK hk _ (λy hy=>hx y (SI.mp hy).1) hq;have sm:t.sameMemory t.moves t.mask=on Q4:=by unfold sameMemory;simp
     have sl:t.slot (eo t (m+g) (t.probeStart (hsh prog w k))).j= .live i:=sf T.rs R;cases hled:t.led
     all_goals simp only[Yg,TZ,RC,SA,Sz,it,hei]
     all_goals try refine My (seen ?_)
     all_goals try simp only[RC,Sz]
     all_goals
      refine My (SX ((hW prog w).eqBool hu hxk hk (My (Ti ho hd W ?_))));simp only[Wh];by_cases q:xs[i].1=k
      .rw[Rb (Rv q)]
       exact Q0 (q1 (Rp.mpr ⟨xs[i],R1 N,q⟩))
      .rw[Q8 (by simpa using q)]
       simp only[sm,SA,sl,hei];refine My ?_;unfold isSame;simp only[beq_self_eq_true,SA];refine Q0 (My (Q0 ?_));simp only[SA];rw[Q8 (by simpa using q)];have Z:g<n:=by
        rcases VU g n with z|z
        .exact z
        .obtain rfl:g=n:=by omega
         rw[<-em]at R;exact RJ ⟨i,R⟩ U
       refine ih (n-(g+1)) (by omega) c (m+g+1) _ (by omega) (by omega) rfl λm2 hm2 i2 x2 u C z=>?_;by_cases q1:m2<m
       .exact p m2 q1 i2 x2 u C z
       .by_cases q2:m2=m+g
        .subst q2
         have:=same R u;subst this;rw[h]at C;cases C;exact q z
        .obtain⟨i3,h3,h4⟩:=r (m2-m) (by omega)
         rw[it,show m+(m2-m)=m2 by omega]at h3;have:=same h3 u;subst this;refine h4 ?_;show(es[i3]?.map (·.1)).getD 0=_;rw[l,C,<-z];rfl
   .rename_i hno
    have key:∀f:Nat->Int,(∀X,t.probe f (hsh prog w k) (eo t m (t.probeStart (hsh prog w k)))=on X->False)->False:=λf W=>by
     obtain⟨g,hm',r,d⟩:=sD (f:=f) rfl T v (e:=n) (by omega) (by rw[it,<-em];exact U);rcases d with⟨_,I⟩|⟨i,_,_,I⟩
     .exact W _ I
     .exact W _ I
    exact(key _ hno).elim
theorem Qk{P:Nat->Prop}:∀n,P n->∃m,m<=n/\P m/\∀k<m,¬P k:=by
 intro n
 induction n using X5 with
 |_ n ih=>
  intro h;by_cases q:∃k,k<n/\P k
  .obtain⟨k,a,b⟩:=q
   obtain⟨m,d,c⟩:=ih k a b;exact⟨m,by omega,c⟩
  .exact⟨n,Rf n,h,λk a b=>q ⟨k,a,b⟩⟩
def rO(prog:RT)(w:R8)(h:SE)(a:Q6)(xs:List (List Int×Q6)):Prop:=
 ∃o es ep t,h.get? a=on o/\o.ExactSet/\o.data= .set es ep t/\(es.toList=xs.map λx=>(hsh prog w x.1,RI x.2))/\(xs.map (·.1)).Nodup/\(∀x∈xs,(hW prog w).is h x.1 x.2)/\(Tb t (xs.map λx=>hsh prog w x.1))/\t.plain=Q4/\t.led=!(w.params.followText "set-order")
theorem pA{h h':SE}{o:RA}{es ep t}(x:(hW prog w).is h k b)(i:h.get? a=on o)(hd:o.data= .set es ep t)(hs:RQ a h h'):(hW prog w).is h' k b:=by
 obtain⟨g,c,n,e,j,d,l⟩:=x;have f:b≠a:=by
  rintro rfl;obtain rfl:g=o:=RO (e.symm.trans i);rw[hd]at d;exact nomatch d
 exact⟨g,c,n,(hs.2 b f).trans e,j,d,l⟩
theorem rY{h:SE}{o:RA}(c:h.get? a=on o)(hd:o.data= .set es ep t)(b:Array (Int×Ra))(t':Si):(h.update a (WR b t')).get? a=on {o with data:= .set b (ep+1) t'}:=by
 have:=UE (WR b t') c (by rw[putSet_of b t' hd];rfl);rw[putSet_of b t' hd]at this;exact this
theorem Nf{t:Si}(T:Tb t hs)(j:Nat):(t.put j).1.dummies=#[]/\(t.put j).1.place.size=t.place.size+1/\(t.put j).2<=t.place.size:=by
 obtain⟨b1,b2,b3⟩:=jk (j:=j) T.rs;have hd:has t.dummies j=Q9:=by unfold has;rw[T.du];rfl
 refine⟨?_,gj b1,b1⟩;show(if has t.dummies j=Q4 then _ else t.dummies)=#[];rw[hd,Q8 Ri,T.du]
theorem L9{α β:Type}{xs:List α}{ys:Array β}{f:α->β}(e:ys.toList=xs.map f){p:Nat}(c:p<=ys.size)(x:α):(insertAt ys p (f x)).toList=(xs.take p++x::xs.drop p).map f:=by
 unfold insertAt;simp only[Array.toList_append,ZN,Array.toList_extract];have a:(ys.toList.extract 0 p)=ys.toList.take p:=by simp[List.extract]
 have b:(ys.toList.extract p ys.size)=ys.toList.drop p:=by
  simp only[List.extract];rw[TY (by simp)]
 rw[a,b,e,RU,Rk,Xd,Vr,Sm];rfl
theorem Pj{xs:List (List Int×Q6)}(hu:A.units<Wu)(S:rO prog w s.heap a xs)(hk:(hW prog w).is s.heap k b)(hn:xs.length<63)
  (h:∀h' q,RQ a s.heap h'->rO prog w h' a q->(k∈xs.map (·.1)->q=xs)->(k∉xs.map (·.1)->q.Perm ((k,b)::xs))->Q (decide (k∉xs.map (·.1))) {s with heap:=h'}):
  Rt (RN prog w) A (setAddHashed a (.ref b) (hsh prog w k)) Q E s:=by
 have S0:=S;obtain⟨o,es,ep,t,U,X,hd,W,hnd,hx,T,hp,J⟩:=S;have F:es.size=xs.length:=by rw[<-R0,W,QX]
 have hf:t.fits es.size=Q4:=T.fits (by rw[QX,F]);have Y:t.place.size=xs.length:=by rw[T.sz,QX]
 obtain⟨e0,he0,hl0⟩:=T.free (oO t (hsh prog w k));obtain⟨e,hee,hl,Z⟩:=Qk (P:=λe=>¬Lv t (eo t e (t.probeStart (hsh prog w k))).j) e0 hl0;have ha:∀m<e,Lv t (eo t m (t.probeStart (hsh prog w k))).j:=λm hm=>Classical.not_not.mp (Z m hm);have hmk:=T.km.odd;unfold setAddHashed setAddHashedIn;refine SX (My (Ti U hd hf ?_));have hb:byScan (RI b) es=Q9:=rfl;simp only[hb,RC,Sz];refine My ?_;unfold setSearch;refine zK (e:=e) hu U hd W hx T hk (by omega) hl ha (λhm=>?_) (λhm=>?_) e 100000 0 QY (by omega) (by unfold turns at he0;omega) rfl (λm' hm'=>RJ hm' (TX _))
 .refine Q0 ?_
  have:=h s.heap xs (RQ.refl a s.heap) S0 (λ_=>rfl) (λz=>RJ hm z);rw[RY (λz=>z hm)]at this;exact this
 .have hQ:∀h' q,RQ a s.heap h'->rO prog w h' a q->q.Perm ((k,b)::xs)->Q Q4 {s with heap:=h'}:=λh' q h1 h2 h3=>by
   have:=h h' q h1 h2 (λz=>RJ z hm) (λ_=>h3);rwa[Rv hm]at this
  simp only;refine My (Ti U hd hf ?_);generalize hj:(eo t e (t.probeStart (hsh prog w k))).j=j at hl;obtain⟨pd,ps,pl⟩:=Nf T j;generalize y:t.put j=tp at pd ps pl;obtain⟨u,p⟩:=tp;simp only at pd ps pl⊢;have l:u.plain=Q4:=by
   have:(t.put j).1.plain=t.plain:=rfl;rw[y]at this;rw[this,hp]
  have L:u.led=t.led:=by
   have:(t.put j).1.led=t.led:=rfl;rw[y]at this;exact this
  have v:u.mask=t.mask:=by
   have:(t.put j).1.mask=t.mask:=rfl;rw[y]at this;exact this
  rw[l];simp only[SA];refine My (GH hk ?_);simp only[SA];have N:=L9 (f:=λx:List Int×Q6=>(hsh prog w x.1,RI x.2)) W (p:=p) (by omega) (k,b);have B:(insertAt es p (hsh prog w k,RI b)).size=es.size+1:=gj (by omega);have d:(xs.take p++(k,b)::xs.drop p).Perm ((k,b)::xs):=by
   have:=List.perm_middle (a:=(k,b)) (l₁:=xs.take p) (l₂:=xs.drop p);rwa[T4]at this
  have nd1:((xs.take p++(k,b)::xs.drop p).map (·.1)).Nodup:=by
   refine(d.map (·.1)).nodup_iff.mpr ?_;rw[Rk,Sb];exact⟨hm,hnd⟩
  refine My (wpAny_storeSet_of U hd ?_ (by rw[B,TM];omega));have H:=SZ s.heap a (WR (insertAt es p (hsh prog w k,RI b)) u);have g1:=rY U hd (insertAt es p (hsh prog w k,RI b)) u;have hx1:∀x∈xs.take p++(k,b)::xs.drop p,(hW prog w).is (s.heap.update a (WR (insertAt es p (hsh prog w k,RI b)) u)) x.1 x.2:=λx hx'=>by
   rcases Rq.mp (d.mem_iff.mp hx')with rfl|hx'
   .exact pA hk U hd H
   .exact pA (hx x hx') U hd H
  by_cases r:u.tooFull=Q4
  .simp only[r,Yg,Xa,SA]
   have fu:u.fill*5≥u.mask*3:=by unfold tooFull at r;exact Sk r
   have fe:u.fill=xs.length+1:=by unfold fill;rw[pd,ps,Y];rfl
   have nf0:=T.nf;have f1:u.fits (insertAt es p (hsh prog w k,RI b)).size=Q4:=by
    unfold X0;rw[B,fe,ps,Y,F,v];simp;omega
   have wm:Mk (sizeAbove (grown (es.size+1))-1)/\(es.size+1)*5<(sizeAbove (grown (es.size+1))-1)*3/\sizeAbove (grown (es.size+1))<=128:=by
    rw[fe,v]at fu;rw[F];rcases T.km with z|z|z
    .have:xs.length=4:=by omega
     rw[this];exact⟨.inr (.inl (by decide)),by decide,by decide⟩
    .have:xs.length=18:=by omega
     rw[this];exact⟨.inr (.inr (by decide)),by decide,by decide⟩
    .omega
   have C:(Array.map (λx=>x.fst) (insertAt es p (hsh prog w k,RI b))).size=es.size+1:=by rw[Array.size_map,B]
   obtain⟨t2,c,er,op,T2,led2,I⟩:=zV (t:=u) (hs:=(insertAt es p (hsh prog w k,RI b)).map (·.1)) (wanted:=grown (es.size+1)) wm.1 (by rw[C];exact wm.2.1);refine My ?_;unfold setRelay;refine My (Ti g1 rfl f1 ?_);simp only;rw[Q8 (by rw[TM];omega)];rw[er];generalize hE1:insertAt es p (hsh prog w k,RI b)=es1 at*;generalize hX1:xs.take p++(k,b)::xs.drop p=xs1 at*;have l1:xs1.length=es.size+1:=by rw[d.length_eq,Rl,F]
   have O:∀i,i<xs1.length->es1[i]?=on (hsh prog w (xs1.getD i (k,b)).1,RI (xs1.getD i (k,b)).2):=λi R=>by
    rw[<-UC,N,Q5,Q2 R,QZ,Q2 R];rfl
   have om:∀i∈c.toList,i<xs1.length:=λi R=>by
    have:=Rz.mp (op.mem_iff.mp R);rw[C]at this;omega
   have efl:(c.filterMap λx=>es1[x]?).toList=(c.toList.map λi=>xs1.getD i (k,b)).map λx=>(hsh prog w x.1,RI x.2):=by
    rw[Array.toList_filterMap,vE (g:=λi=>(hsh prog w (xs1.getD i (k,b)).1,RI (xs1.getD i (k,b)).2)) λi R=>O i (om i R),Rc];rfl
   have n:(c.toList.map λi=>xs1.getD i (k,b)).Perm xs1:=by
    refine(op.map _).trans (Xj ?_);rw[C,<-l1];refine Tq (by simp) λi h1 h2=>?_;rw[TF,Uu,QZ,Q2 h2];rfl
   have fsz:(c.filterMap λx=>es1[x]?).size=es1.size:=by
    rw[<-R0,efl,QX,n.length_eq,l1,B]
   refine My ?_;show Rt _ _ (if((c.filterMap λx=>es1[x]?).size !=es1.size)=Q4 then _ else _) _ _ _;rw[Q8 (by rw[fsz];simp)];refine Q0 ?_;refine wpAny_storeSet_of g1 rfl ?_ (by rw[fsz,B,TM];omega);have sb2:=SZ (s.heap.update a (WR es1 u)) a (WR (c.filterMap λx=>es1[x]?) t2);have g2:=rY g1 rfl (c.filterMap λx=>es1[x]?) t2;refine Q0 (hQ _ (c.toList.map λi=>xs1.getD i (k,b)) (H.trans sb2) ⟨_,_,_,t2,g2,X,rfl,efl,?_,λx hx'=>?_,?_,by rw[I,l],by rw[led2,L,J]⟩ (n.trans d))
   .exact(n.map (·.1)).nodup_iff.mpr nd1
   .exact pA (hx1 x (n.mem_iff.mp hx')) g1 rfl sb2
   .have eh:(c.toList.map λi=>xs1.getD i (k,b)).map (λx=>hsh prog w x.1)=c.toList.map λi=>(es1.map (·.1)).getD i 0:=by
     rw[Rc];refine RE λi R=>?_;have h1:=O i (om i R);have h2:(es1.map (·.1))[i]?=on (hsh prog w (xs1.getD i (k,b)).1):=by rw[Array.getElem?_map,h1];rfl
     have h3:=(SC.mp h2);obtain⟨h4,h5⟩:=h3;simp only[VY];rw[<-h5];simp[Ug,h4];omega
    rw[eh];exact T2
  .simp only[r,Yg,Bool.and_false,Sz,Wh,RC]
   refine Q0 (hQ _ (xs.take p++(k,b)::xs.drop p) H ⟨_,_,_,u,g1,X,rfl,N,nd1,hx1,?_,l,by rw[L,J]⟩ d);have nf:(t.place.size+1)*5<t.mask*3:=by
    have:¬(u.fill*5≥u.mask*3):=by
     intro z;exact r (by unfold tooFull;exact Rv z)
    unfold fill at this;rw[pd,ps,v]at this;simp at this;omega
   have:=(T.put (h:=hsh prog w k) hl hj (by exact ha) nf).2.2.2.2;rw[y]at this;rw[RU,Rk,Xd,Vr];exact this
end
namespace F2
theorem si_next:Slot "set_iterator" "__next__" "set_iterator.__next__":= .of (owner:="set_iterator") (n:="__next__") (by rw[YJ,Xf];kernel_rfl) (by decide +kernel) (by decide +kernel) (by decide +kernel)
  (by first|exact .inl (by decide +kernel)|exact .inr (by decide +kernel)) (by rw[Wv];kernel_rfl)
theorem si_iter:Slot "set_iterator" "__iter__" "set_iterator.__iter__":= .of (owner:="set_iterator") (n:="__iter__") (by rw[YJ,Xf];kernel_rfl) (by decide +kernel) (by decide +kernel) (by decide +kernel)
  (by first|exact .inl (by decide +kernel)|exact .inr (by decide +kernel)) (by rw[Wv];kernel_rfl)
theorem ent_next:entryFor table "set_iterator.__next__"=on Builtin.«set_iterator.__next__»:=entryFor_of_tree (by kernel_rfl)
theorem ent_iter:entryFor table "set_iterator.__iter__"=on Builtin.«dict_keyiterator.__iter__»:=Zb (id':="dict_keyiterator.__iter__") (by kernel_rfl) rfl (by decide +kernel) (by kernel_rfl)
theorem ent_set_iter:entryFor table "set.__iter__"=on Builtin.«frozenset.__iter__»:=Zb (id':="frozenset.__iter__") (by kernel_rfl) rfl (by decide +kernel) (by kernel_rfl)
theorem args_next(a:Ra):argsOk "set_iterator.__next__" ⟨[a],[]⟩:=by unfold argsOk;kernel_rfl
theorem args_iter(a:Ra):argsOk "set_iterator.__iter__" ⟨[a],[]⟩:=by unfold argsOk;kernel_rfl
end F2
theorem qG{α:Type}:∀{l:List α} {i:Nat} (h:i<l.length),(l[i]::l.eraseIdx i).Perm l
 |[],i,h=>RJ h (TX i)
 |a::l,0,h=> .refl _
 |a::l,i+1,h=>by
  show(l[i]'(by simpa using h)::a::l.eraseIdx i).Perm (a::l);exact(List.Perm.swap _ _ _).trans ((qG (by simpa using h)).cons a)
theorem wW{α:Type}(next:Nat->Nat):∀(fuel k:Nat) (left:List α) (a:Array α),left.length<=fuel->(Yb next fuel k left a).toList.Perm (a.toList++left)
 |0,k,left,a,h=>by
  have:left=[]:=Wx.mp (by omega);subst this;unfold Yb;rw[RX]
 |fuel+1,k,left,a,h=>by
  unfold Yb;cases left with
  |nil=>simp
  |cons c d=>
   have b:next k % (c::d).length<(c::d).length:=Xk _ (by simp)
   rw[Q2 b];simp only;refine(wW next fuel (k+1) _ _ (by rw[VZ b];omega)).trans ?_
   rw[ZN,Sm];exact List.Perm.append_left _ (qG b)
theorem AA{α:Type}(next:Nat->Nat)(xs:Array α):(Ys next xs).toList.Perm xs.toList:=by
 unfold Ys;refine(wW next xs.size 0 xs.toList #[] (by simp)).trans ?_
 simp
section
variable{prog:RT}{w:R8}{A:SB}{E:Ra->Rg->Prop}{s:Rg}
noncomputable def d6(w:R8)(a:Q6)(ep:Nat)(es:Array (Int×Ra)):Array (Int×Ra):=if w.params.followText "set-order"=Q4 then Ys (w.params.setOrder a ep) es else es
theorem kX(w:R8)(a:Q6)(ep:Nat)(es:Array (Int×Ra)):(d6 w a ep es).toList.Perm es.toList:=by
 unfold d6;split
 .exact AA _ _
 .exact .refl _
structure M_ (w:R8) (h:SE) (I a:Q6) (es:Array (Int×Ra)) (ep:Nat) (t:Si) (i:Nat):Prop where
 st:∃o,h.get? a=on o/\o.data= .set es ep t
 it:∃(o:RA) (sl:Nat),h.get? I=on o/\o.cls= .type "set_iterator"/\o.data= .fields #[.int sl 0,.int i 0,.ref a,.int es.size 0,.int ep 0]/\(w.params.followText "set-order"=Q9->below t.place sl=i)
theorem m5{M:Model}(h:Q (M.w.params.followText "set-order") s):Rt M A setsByText Q E s:=by
 unfold setsByText;exact My (VN (Q0 h))
theorem AL{es:Array (Int×Ra)}{t:Si}{e:Int×Ra}(T:Tb t hs)(h:t.fits es.size=Q4)(H:t.plain=Q4)(J:t.led=!(w.params.followText "set-order"))(x:M_ w s.heap I a es ep t i)(k:I≠a)(l:(d6 w a ep es)[i]?=on e)
  (L:∀h',M_ w h' I a es ep t (i+1)->RQ I s.heap h'->Q (on e.2) {s with heap:=h'}):Rt (RN prog w) A (Vu (.ref I)) Q E s:=by
 obtain⟨⟨N,b,c⟩,o,U,n,u,hd,p⟩:=id x;have y:s.TypeIs (.ref I) "set_iterator":=⟨o,n,u⟩;unfold Vu;refine My (VT (wpAny_callSpecial?_slot (name:=TU "__next__") y F2.si_next (Sc F2.si_next y F2.ent_next ?_ (F2.args_next _))));unfold Builtin.«set_iterator.__next__»;refine My (Q0 ?_);refine My (Xo n hd ?_);simp only;refine My (XB b c h ?_);simp only[UD,RC,Sz];refine My ?_;simp only[SQ]
 have d:∀nx:Nat,(w.params.followText "set-order"=Q9->below t.place nx=i+1)->Rt (RN prog w) A.in1 (do
    Zf (RI I) 0 (Vv nx)
    Zf (RI I) 1 (Vv (i+1))
    ret e.2) (λd s'=>∃v,d=Fin.done (Flow.ret v)/\Rt (RN prog w) A (T0 (on v)) Q E s') (λe s'=>Rt (RN prog w) A (do
     if(<-XO e (U4 "StopIteration"))=Q4 then T0 QY else throw e) Q E s') s:=λnx r=>by
  refine My (Vw n hd (by simp) ?_);have B:(s.heap.update I (Obj.mapFields (·.setIfInBounds 0 (Vv nx)))).get? I=on _:=UE _ n (WV (TN hd _));refine My (Vw B (TN hd _) (by simp) ?_);refine Q0 ⟨_,rfl,Q0 (L _ ⟨⟨N,?_,c⟩,⟨_,nx,UE _ B (WV (TN (TN hd _) _)),?_,?_,r⟩⟩ ((SZ ..).trans (SZ ..)))⟩
  .rw[Ui _ _ _ _ (Ne.symm k),Ui _ _ _ _ (Ne.symm k)];exact b
  .rw[XA,XA];exact u
  .rw[TN (TN hd _)];simp[Vv]
 unfold setNext;refine My (Ti b c h (My (m5 ?_)));have C:(RN prog w).w=w:=rfl;rw[C];cases q:w.params.followText "set-order"
 .have f:d6 w a ep es=es:=by unfold d6;rw[q];rfl
  rw[f]at l;have O:=p q;have W:=(SC.mp l).1;simp only[RC,Sz];have R:t.place.size=es.size:=by
   unfold X0 at h;simp only[RZ,UW,R5]at h;exact h.1
  rw[Q8 (λz=>by
   have F:(!t.plain&&decide (es.size>1))=Q4:=z;rw[H]at F;cases F)]
  refine My ?_;show Rt _ _ (if(!t.led&&!es.isEmpty)=Q4 then _ else _) _ _ _;rw[Q8 (by rw[J,q];exact Ri)];refine Q0 (Q0 ?_);have g:t.place[i]?=on t.place[i]:=getElem?_pos t.place i (by omega);rw[O,l,g];simp only;refine d _ λ_=>?_;obtain⟨b1,b2,b3⟩:=jk (j:=t.place[i]+1) T.rs;rcases UH (below t.place (t.place[i]+1)) (i+1)with z|z|z
  .have:=b3 i _ (by omega) g
   omega
  .exact z
  .have m:t.place[i+1]?=on t.place[i+1]:=getElem?_pos t.place (i+1) (by omega)
   have X:=b2 (i+1) _ z m;have Y:=T.rs i (i+1) _ _ (by omega) g m;omega
 .have f:d6 w a ep es=Ys (w.params.setOrder a ep) es:=by unfold d6;rw[q];rfl
  rw[f]at l;simp only[SA,UD,RC,Sz];refine My ?_;unfold setWalk;refine My (Ti b c h (My (m5 ?_)));rw[C,q];simp only[SA];refine My (VN (Q0 ?_));refine Q0 ?_;rw[show((RN prog w).w.params.setOrder a ep)=w.params.setOrder a ep from rfl,l];simp only[SY];exact d _ λz=>by rw[q]at z;cases z
theorem EQ{es:Array (Int×Ra)}{t:Si}(r:A.handled=QY)(T:Tb t hs)(g:t.fits es.size=Q4)(u:t.plain=Q4)(y:t.led=!(w.params.followText "set-order"))(x:M_ w s.heap I a es ep t es.size)
  (B:∀h',XI I s.heap h'->Q QY {s with heap:=h'}):Rt (RN prog w) A (Vu (.ref I)) Q E s:=by
 obtain⟨⟨F,d,f⟩,o,H,h,C,hd,i⟩:=id x;have l:s.TypeIs (.ref I) "set_iterator":=⟨o,h,C⟩;unfold Vu;refine My (VT (wpAny_callSpecial?_slot (name:=TU "__next__") l F2.si_next (Sc F2.si_next l F2.ent_next ?_ (F2.args_next _))));unfold Builtin.«set_iterator.__next__»;refine My (Q0 ?_);refine My (Xo h hd ?_);simp only;refine My (XB d f g ?_);simp only[UD,RC,Sz];refine My ?_;simp only[SQ]
 have c:Rt (RN prog w) A.in1 (do
    Zf (RI I) 2 Sv
    let e <-newExc (U4 "StopIteration") []
    (raiseNew e:Sem Fin)) (λc s'=>∃v,c=Fin.done (Flow.ret v)/\Rt (RN prog w) A (T0 (on v)) Q E s') (λe s'=>Rt (RN prog w) A (do
     if(<-XO e (U4 "StopIteration"))=Q4 then T0 QY else throw e) Q E s') s:=by
  refine My (Vw h hd (by simp) ?_);refine My ?_;simp only[newExc,newTuple];refine My (SK ?_ (by size_fits));refine My (m:=Vt _ _) (UY (a:=Sv) (by first|rfl|(simp only[Vt];rfl)) ?_)
  refine SK ?_ (by size_fits);simp only[raiseNew];refine My (ZM ?_);rw[show A.in1.handled=QY from r];refine My (Q0 (wpAny_throw ?_));refine My (T7 (T:="StopIteration") (b:=Q4) ⟨_,Rw _ rfl,rfl⟩ Zd ?_);exact Q0 (B _ (((SZ ..).extBut.push _).push _))
 unfold setNext;refine My (Ti d f g (My (m5 ?_)));have n:(RN prog w).w=w:=rfl;rw[n];have j:(d6 w a ep es).size=es.size:=by rw[<-R0,(kX w a ep es).length_eq,R0]
 cases q:w.params.followText "set-order"
 .simp only[RC,Sz]
  rw[Q8 (λz=>by
   have p:(!t.plain&&decide (es.size>1))=Q4:=z;rw[u]at p;cases p)]
  refine My ?_;show Rt _ _ (if(!t.led&&!es.isEmpty)=Q4 then _ else _) _ _ _;rw[Q8 (by rw[y,q];exact Ri)];refine Q0 (Q0 ?_);rw[i q,Ut (Rf _)];exact c
 .have k:d6 w a ep es=Ys (w.params.setOrder a ep) es:=by unfold d6;rw[q];rfl
  simp only[SA,UD,RC,Sz];refine My ?_;unfold setWalk;refine My (Ti d f g (My (m5 ?_)));rw[n,q];simp only[SA];refine My (VN (Q0 ?_));refine Q0 ?_;rw[show((RN prog w).w.params.setOrder a ep)=w.params.setOrder a ep from rfl,<-k,Ut (by rw[j];exact Rf _)];exact c
theorem M_.at{h h':SE}(x:M_ w h I a es ep t i)(k:∀b,b=I\/b=a->∀o,h.get? b=on o->h'.get? b=on o):M_ w h' I a es ep t i:=by
 obtain⟨⟨e,c,d⟩,o,f,g,r⟩:=x;exact⟨⟨e,k a (.inr rfl) e c,d⟩,o,f,k I (.inl rfl) o g,r⟩
theorem DB(q:A.handled=QY){es:Array (Int×Ra)}{t:Si}(T:Tb t hs)(l:t.fits es.size=Q4)(m:t.plain=Q4)(n:t.led=!(w.params.followText "set-order"))(f:I≠a):
  Walks prog w A I [I,a] [I] es.size (λi v=>∃e,(d6 w a ep es)[i]?=on e/\v=e.2) (λi h=>M_ w h I a es ep t i) where
 sub:=λb c=>by simp at c;simp[c]
 frame:=λ_ _ _ st r=>st.at λb c o e=>r b (by simpa using c) o e
 item:=λi s Q E L st d=>by
  have u:(d6 w a ep es).size=es.size:=by rw[<-R0,(kX w a ep es).length_eq,R0]
  have p:(d6 w a ep es)[i]?=on (d6 w a ep es)[i]:=getElem?_pos _ i (by omega);exact AL T l m n st f p λh' g y=>d _ h' s.toks ⟨_,p,rfl⟩ g λb o c e=>y.extBut b o (λh=>c (by simp[h])) e
 done:=λs Q E st d=>EQ q T l m n st λh' j=>d h' s.toks λb o c e=>j b o (λh=>c (by simp[h])) e
 self:=λi s Q E st d=>by
  obtain⟨⟨N,B,C⟩,o,O,F,H,hd,J⟩:=st;have k:s.TypeIs (.ref I) "set_iterator":=⟨o,F,H⟩;refine WL k F2.si_iter (Sc F2.si_iter k F2.ent_iter ?_ (F2.args_iter _));show Rt _ _ (ret (.ref I)) _ _ s;exact Q0 ⟨_,rfl,"set_iterator",_,k,F2.si_next.lookup,d⟩
end
end L2.Hs
namespace L2.Hs
open PySem PySem.SetTable PyProof.Rows
section
variable{prog:RT}{w:R8}{A:SB}{E:Ra->Rg->Prop}{s:Rg}
theorem FM{o:RA}{es:Array (Int×Ra)}{t:Si}(b:s.heap.get? a=on o)(f:o.cls= .type "set")(hd:o.data= .set es ep t)(c:t.fits es.size=Q4)(g:t.plain=Q4)
  (h:Q (.ref s.heap.objs.size) {s with heap:=s.heap.push {cls:= .type "set_iterator",data:= .fields #[.int (0:Nat) 0,.int (0:Nat) 0,.ref a,.int es.size 0,.int ep 0]}}):Rt (RN prog w) A (Xn (.ref a)) Q E s:=by
 have d:s.TypeIs (.ref a) "set":=⟨o,b,f⟩;refine WL d F.slot_set_iter (Sc F.slot_set_iter d F2.ent_set_iter ?_ (F.args_set_iter_1 _));unfold Builtin.«frozenset.__iter__»;refine My (UY (a:=a) rfl ?_);refine My (My (XB b hd c (Q0 ?_)));refine My ?_;unfold setDrawn;refine My (Ti b hd c (My (m5 (Q0 ?_))));rw[Q8 (λz=>by
  have e:(!((RN prog w).w.params.followText "set-order")&&(!t.plain&&decide (es.size>1)))=Q4:=z;rw[g]at e;simp at e)]
 refine My (Q0 ?_);refine My (wpAny_setEpoch_of b hd c ?_);unfold newFields;refine My (SK (Q0 ⟨_,rfl,"set_iterator",_,⟨_,Rw _ rfl,rfl⟩,F2.si_next.lookup,?_⟩));exact h
theorem wn{o:RA}{es:Array (Int×Ra)}{t:Si}(hh:A.handled=QY)(U:s.heap.get? a=on o)(B:o.cls= .type "set")(hd:o.data= .set es ep t)(T:Tb t hs)(X:t.fits es.size=Q4)(Y:t.plain=Q4)(hl:t.led=!(w.params.followText "set-order"))
  (hsz:es.size<=1000)
  (hQ:∀h' Z vs,(∀b o,s.heap.get? b=on o->h'.get? b=on o)->s.heap.objs.size<=h'.objs.size->s.toks<=Z->vs.Perm (es.toList.map (·.2))->Q vs {s with heap:=h',toks:=Z}):Rt (RN prog w) A (collect (.ref a)) Q E s:=by
 unfold collect;refine My (wpAny_runValue (YI F.entry_proto_collect ?_));rw[YM F.plain_proto_collect _];show Rt _ A.in1 (newList []>>=λl=>Yz (.builtin "list.__iadd__" ⟨[l,.ref a],[]⟩)) _ _ s;refine My (SK ?_);refine Q0 ⟨plainId_quiet F.plain_list_iadd _,YI F.entry_list_iadd ?_⟩;rw[YM F.plain_list_iadd _];have ha:=RM U;have g:(s.heap.push {cls:= .type "list",data:= .seq ([]:List Ra).toArray}).get? a=on o:=Q3 _ U;have C:(s.heap.push {cls:= .type "list",data:= .seq ([]:List Ra).toArray}).get? s.heap.objs.size=on {cls:= .type "list",data:= .seq ([]:List Ra).toArray}:=Rw _ rfl;have r:s.heap.objs.size≠a:=Uy ha;have y:Xr (.ref s.heap.objs.size) (.ref a)=Q9:=by simp[Xr,r]
 have H:(⟨s.heap.push {cls:= .type "list",data:= .seq ([]:List Ra).toArray},s.gens,s.drawn,s.toks,s.os⟩:Rg).TypeIs (.ref a) "set":=⟨o,g,B⟩;show Rt _ A.in1 (Xb (.ref s.heap.objs.size) (.ref a) (.ref s.heap.objs.size)) _ _ _;unfold Xb;refine My (wpAny_typeOf H ?_);rw[Q8 (by rw[y];decide)];refine My (FM g B hd X Y ?_);refine My (SX ?_);unfold Builtin.List.listLengthHint;have n:(⟨(s.heap.push {cls:= .type "list",data:= .seq ([]:List Ra).toArray}).push {cls:= .type "set_iterator",data:= .fields #[.int (0:Nat) 0,.int (0:Nat) 0,.ref a,.int es.size 0,.int ep 0]},s.gens,s.drawn,s.toks,s.os⟩:Rg).TypeIs (.ref a) "set":=⟨o,Q3 _ g,B⟩;refine My (Uh n F.slot_set_len.lookup ?_)
 (generalize u:("set.__len__":String)=id0;wp_delta;rw[show splitId id0=on ("set","__len__")from by subst u;decide +kernel];subst u)
 refine My (T7 (b:=Q4) n (by rw[Wv];kernel_rfl) ?_);rw[Q8 (by decide)];show Rt _ _ (if _ then _ else _) _ _ _;rw[Rb (by decide)];refine My (wpAny_typeOf n ?_);refine Q0 ?_;rw[Rb (by decide)];refine My (UZ ?_);have eI:(s.heap.push {cls:= .type "list",data:= .seq ([]:List Ra).toArray}).objs.size=s.heap.objs.size+1:=by rw[size_push']
 generalize h:(s.heap.push {cls:= .type "list",data:= .seq ([]:List Ra).toArray}).push {cls:= .type "set_iterator",data:= .fields #[.int (0:Nat) 0,.int (0:Nat) 0,.ref a,.int es.size 0,.int ep 0]}=d;have gS:d.get? s.heap.objs.size=on (UM "list" #[] 0):=by rw[<-h];exact Q3 _ C
 have gI:d.get? (s.heap.objs.size+1)=on {cls:= .type "set_iterator",data:= .fields #[.int (0:Nat) 0,.int (0:Nat) 0,.ref a,.int es.size 0,.int ep 0]}:=by rw[<-h,<-eI];exact Rw _ rfl
 have ga:d.get? a=on o:=by rw[<-h];exact Q3 _ g
 have p:∀b f,s.heap.get? b=on f->d.get? b=on f:=λb f e=>by rw[<-h];exact Q3 _ (Q3 _ e)
 unfold Builtin.List.listTouch;refine My (My (WT gS rfl ?_ (by show 0<=_;omega) (by show 1<=_;omega)));obtain⟨e1,g1⟩:∃e1,(d.update s.heap.objs.size (Ta λxs=>xs.push Sv)).get? s.heap.objs.size=on (UM "list" #[Sv] e1):=⟨_,get?_update_seq gS λxs=>xs.push Sv⟩;refine WT g1 rfl ?_ (by show 1<=RF;decide) (by show 0<=_;omega);obtain⟨J,g2⟩:∃J,((d.update s.heap.objs.size (Ta λxs=>xs.push Sv)).update s.heap.objs.size (Ta λxs=>xs.pop)).get? s.heap.objs.size=on (UM "list" #[] J):=⟨_,get?_update_seq g1 λxs=>xs.pop⟩;have c:∀b f,b≠s.heap.objs.size->d.get? b=on f->((d.update s.heap.objs.size (Ta λxs=>xs.push Sv)).update s.heap.objs.size (Ta λxs=>xs.pop)).get? b=on f:=λb f q e=>by
  rw[Ui _ _ _ _ q,Ui _ _ _ _ q];exact e
 generalize (d.update s.heap.objs.size (Ta λxs=>xs.push Sv)).update s.heap.objs.size (Ta λxs=>xs.pop)=h4 at g2 c;have L:s.heap.objs.size+1≠a:=Uy (Wp ha);have st:M_ w h4 (s.heap.objs.size+1) a es ep t 0:=⟨⟨o,c a o (Ne.symm r) ga,hd⟩,_,0,c _ _ (by omega) gI,rfl,rfl,λ_=>by
  have:=jk (j:=0) T.rs;rcases Nat.eq_zero_or_pos (below t.place 0)with z|z
  .exact z
  .have e:=getElem?_pos t.place 0 (by omega)
   have:=this.2.1 0 _ z e;omega⟩
 have W:=DB (prog:=prog) (w:=w) (A:=A.in1) (I:=s.heap.objs.size+1) (a:=a) (ep:=ep) hh T X Y hl L;show Rt _ _ (Yz _) _ _ _;rw[eI];refine Q0 ⟨plainId_quiet F.plain_extend_loop _,codeAny_extend_loopS W.toS (by rw[TM];omega) s.heap.objs.size (by simp;omega) _ es.size 0 _ #[] J rfl (Ss _) st g2 (ItemsOf.nil _) λs' k c' hm v m=>?_⟩;show Rt _ A (load s.heap.objs.size>>=_) _ _ s';refine My (wpAny_load v ?_);refine Q0 ?_;have N:s'={s with heap:=s'.heap,toks:=s'.toks}:=by
  have y:=hm.gens;have d:=hm.drawn;have h3:=hm.os;obtain⟨a1,a2,a3,a4,a5⟩:=s';simp only at y d h3;subst y d h3;rfl
 rw[N];refine hQ _ _ _ (λb f e=>?_) (WQ (RM v)) hm.toks ?_
 .have q:=RM e
  exact hm.heap b f (by simp only[Rq,SO,Vj,not_or];exact⟨Sg q,Sg (Wp q)⟩) (c b f (Sg q) (p b f e))
 .refine List.Perm.trans (Xj ?_) ((kX w a ep es).map (·.2))
  have O:(d6 w a ep es).size=es.size:=by rw[<-R0,(kX w a ep es).length_eq,R0]
  refine Tq (by rw[R0,QX,R0,O,m.1]) λi q1 q2=>?_;have R:i<k.size:=by simpa using q1
  obtain⟨e,he,hv⟩:=m.2 i _ (getElem?_pos k i R);rw[Vp,hv,TF,Vp];have:=SC.mp he;obtain⟨z1,z2⟩:=this;rw[z2]
end
end L2.Hs
namespace L2.Hs
open PySem PySem.W PyProof.Rows
section
variable{α β:Type}{lt:Nat->Nat->Bool}{n:Nat}
def Rn(lt:Nat->Nat->Bool)(n:Nat):KasT α->(α->Prop)->Prop
 | .ret a,Φ=>Φ a
 | .ask i j k,Φ=>i<n/\j<n/\Rn lt n (k (lt i j)) Φ
theorem Rn.bind{Φ:β->Prop}:∀{t:KasT α},Rn lt n t (λa=>Rn lt n (f a) Φ)->Rn lt n (t.bind f) Φ
 | .ret a,h=>h
 | .ask i j k,⟨h1,h2,h3⟩=>⟨h1,h2,Rn.bind h3⟩
theorem Rn.mono{Φ Ψ:α->Prop}(b:∀a,Φ a->Ψ a):∀{t:KasT α},Rn lt n t Φ->Rn lt n t Ψ
 | .ret a,h=>b a h
 | .ask i j k,⟨h1,h2,h3⟩=>⟨h1,h2,Rn.mono b h3⟩
theorem Rn.wp{Φ:α->Prop}(b:∀i j,i<n->j<n->∀C:Bool->Rg->Prop,C (lt i j) s->cmp i j C s)(c:∀a,Φ a->Q a s):∀{t:KasT α},Rn lt n t Φ->t.kasWp cmp Q s
 | .ret a,h=>c a h
 | .ask i j k,⟨h1,h2,h3⟩=>b i j h1 h2 _ (Rn.wp b c h3)
end
section
variable{rk:Nat->Nat}{n:Nat}
noncomputable abbrev r8(rk:Nat->Nat)(i j:Nat):Bool:=decide (rk i<rk j)
noncomputable abbrev ky(rk:Nat->Nat)(p:Array Nat)(i:Nat):Nat:=rk (p.getD i 0)
structure Pm (rk:Nat->Nat) (n:Nat) (p:Array Nat):Prop where
 perm:p.toList.Perm (Re n)
 inj:∀i j,i<n->j<n->rk i=rk j->i=j
theorem Pm.sz{p:Array Nat}(h:Pm rk n p):p.size=n:=by have:=h.perm.length_eq;simpa using this
theorem Pm.lt{p:Array Nat}(h:Pm rk n p)(a:i<n):p.getD i 0<n:=by
 have hs:=h.sz;have e:p.getD i 0=p[i]:=by simp[Ug,show i<p.size by omega]
 rw[e];exact Rz.mp (h.perm.mem_iff.mp (by simp))
theorem Pm.ne(h:Pm rk n p)(a:i<j)(b:j<n):ky rk p i≠ky rk p j:=λz=>by
 have hs:=h.sz;have:=h.inj _ _ (h.lt (show i<n by omega)) (h.lt b) z;have nd:p.toList.Nodup:=h.perm.nodup_iff.mpr WA;have c:p.getD i 0=p.toList[i]'(by simp;omega):=by simp[Ug,show i<p.size by omega]
 have d:p.getD j 0=p.toList[j]'(by simp;omega):=by simp[Ug,show j<p.size by omega]
 rw[c,d]at this;exact RJ this (T8.mp nd i j (by simp;omega) (by simp;omega) a)
theorem Pm.of{p q:Array Nat}(h:Pm rk n p)(a:q.Perm p):Pm rk n q:=⟨(Array.perm_iff_toList_perm.mp a).trans h.perm,h.inj⟩
def So(rk:Nat->Nat)(p:Array Nat)(k:Nat):Prop:=∀i j,i<j->j<k->ky rk p i<ky rk p j
def De(rk:Nat->Nat)(p:Array Nat)(k:Nat):Prop:=∀i j,i<j->j<k->ky rk p j<ky rk p i
theorem So.succ(h:So rk p k)(c:1<=k)(b:ky rk p (k-1)<ky rk p k):So rk p (k+1):=λi j a d=>by
 by_cases q:j=k
 .subst q
  by_cases z:i=j-1
  .subst z;exact b
  .exact VV (h i (j-1) (by omega) (by omega)) b
 .exact h i j a (by omega)
theorem De.succ(h:De rk p k)(c:1<=k)(b:ky rk p k<ky rk p (k-1)):De rk p (k+1):=λi j a d=>by
 by_cases q:j=k
 .subst q
  by_cases z:i=j-1
  .subst z;exact b
  .exact VV b (h i (j-1) (by omega) (by omega))
 .exact h i j a (by omega)
theorem v5(P:Pm rk n p):∀(f k:Nat),1<=k->k+f<=n->So rk p k->Rn (r8 rk) n (kas_asc p f k) λm=>k<=m/\m<=k+f/\So rk p m/\(m=k+f\/ky rk p m<ky rk p (m-1))
 |0,k,_,_,h=>⟨Rf k,Rf _,h,.inl rfl⟩
 |f+1,k,h1,h2,h=>by
  refine⟨P.lt (by omega),P.lt (by omega),?_⟩;by_cases q:ky rk p k<ky rk p (k-1)
  .rw[show r8 rk (p.getD k 0) (p.getD (k-1) 0)=Q4 from Rv q];dsimp only;rw[Rb rfl]
   exact⟨Rf k,by omega,h,.inr q⟩
  .rw[show r8 rk (p.getD k 0) (p.getD (k-1) 0)=Q9 from RY q];dsimp only;rw[Q8 Ri]
   have:=P.ne (show k-1<k by omega) (show k<n by omega);refine Rn.mono (λm hm=>?_) (v5 P f (k+1) (by omega) (by omega) (h.succ h1 (by omega)));exact⟨by omega,by omega,hm.2.2.1,by rcases hm.2.2.2 with z|z;exact .inl (by omega);exact .inr z⟩
theorem xx(P:Pm rk n p):∀(f k:Nat),1<=k->k+f<=n->De rk p k->Rn (r8 rk) n (kas_desc f p k 0) λr=>r.1=p/\r.2.2=0/\k<=r.2.1/\r.2.1<=k+f/\De rk p r.2.1
 |0,k,_,_,h=>⟨rfl,rfl,Rf k,Rf _,h⟩
 |f+1,k,h1,h2,h=>by
  refine⟨P.lt (by omega),P.lt (by omega),?_⟩;by_cases q:ky rk p k<ky rk p (k-1)
  .rw[show r8 rk (p.getD k 0) (p.getD (k-1) 0)=Q4 from Rv q];dsimp only;rw[Rb rfl,Q8 (Sf 0)]
   refine Rn.mono (λm hm=>?_) (xx P f (k+1) (by omega) (by omega) (h.succ h1 q));exact⟨hm.1,hm.2.1,by have:=hm.2.2.1;omega,by have:=hm.2.2.2.1;omega,hm.2.2.2.2⟩
  .rw[show r8 rk (p.getD k 0) (p.getD (k-1) 0)=Q9 from RY q];dsimp only;rw[Q8 Ri]
   have:=P.ne (show k-1<k by omega) (show k<n by omega);refine⟨P.lt (by omega),P.lt (by omega),?_⟩;rw[show r8 rk (p.getD (k-1) 0) (p.getD k 0)=Q4 from Rv (show ky rk p (k-1)<ky rk p k by omega)];dsimp only;rw[Rb rfl];exact⟨rfl,rfl,Rf k,by show k<=_;omega,h⟩
theorem xm{p q:Array Nat}(h:p[i]?=q[j]?):p.getD i 0=q.getD j 0:=by
 have a:∀(r:Array Nat) (x:Nat),r.getD x 0=(r[x]?).getD 0:=λr x=>by
  by_cases b:x<r.size
  .simp[Ug,b]
  .simp[Ug,b]
 rw[a,a,h]
theorem M7{p:Array Nat}(a:k<=p.size)(h:De rk p k):So rk (kas_rev p 0 k) k:=λi j b c=>by
 have g:∀x,x<k->(kas_rev p 0 k).getD x 0=p.getD (k-1-x) 0:=λx d=>by
  refine xm ?_;unfold kas_rev;rw[getElem?_mirror_all a,Rb (by omega)];congr 1;omega
 show rk _<rk _;rw[g i (by omega),g j c];exact h (k-1-j) (k-1-i) (by omega) (by omega)
theorem DI(P:Pm rk n p)(b:1<=k)(c:k<=n)(h:De rk p k):Rn (r8 rk) n (kas_tail3 k n p) λr=>Pm rk n r.2/\1<=r.1/\r.1<=n/\So rk r.2 r.1:=by
 have a:Pm rk n (kas_rev p 0 k):=P.of (mirror_perm _ _ _ _);unfold kas_tail3;refine Rn.bind (Rn.mono (λm hm=>?_) (v5 a (n-k) k b (by omega) (M7 (by rw[P.sz];exact c) h)));exact⟨a,by omega,by omega,hm.2.2.1⟩
theorem GC(P:Pm rk n p)(d:1<=n):Rn (r8 rk) n (kas_count n p) λr=>Pm rk n r.2/\1<=r.1/\r.1<=n/\So rk r.2 r.1:=by
 unfold kas_count;refine Rn.bind (Rn.mono (λm hm=>?_) (v5 P (n-1) 1 (Rf 1) (by omega) λi j a b=>by omega));obtain⟨a1,a2,a3,a4⟩:=hm;by_cases q:m=n
 .rw[Rb (by rw[UW];exact q)]
  exact⟨P,by omega,by omega,a3⟩
 .rw[Q8 (by rw[UW];exact q)]
  have hd:ky rk p m<ky rk p (m-1):=by
   rcases a4 with z|z
   .omega
   .exact z
  by_cases q1:m>1
  .rw[Rb q1]
   refine⟨P.lt (by omega),P.lt (by omega),?_⟩;rw[show r8 rk (p.getD 0 0) (p.getD (m-1) 0)=Q4 from Rv (a3 0 (m-1) (by omega) (by omega))];dsimp only;rw[Rb rfl];exact⟨P,by omega,by omega,a3⟩
  .rw[Q8 q1]
   obtain rfl:m=1:=by omega
   unfold kas_descPart;refine Rn.bind (Rn.mono (λr c=>?_) (xx P (n-(1+1)) (1+1) (by omega) (by omega) λi j a b=>by
    obtain rfl:j=1:=by omega
    obtain rfl:i=0:=by omega
    exact hd))
   obtain⟨rfl,b2,b3,b4,b5⟩:=c;rw[Q8 (by omega)];exact DI P (by omega) (by omega) b5
theorem oY(P:Pm rk n p)(a:k<n):∀(f l r:Nat),l<=r->r<=k->r-l<=f->(∀i,i<l->ky rk p i<ky rk p k)->(∀i,r<=i->i<k->ky rk p k<ky rk p i)->So rk p k->
  Rn (r8 rk) n (kas_place p k f l r) λm=>m<=k/\(∀i,i<m->ky rk p i<ky rk p k)/\∀i,m<=i->i<k->ky rk p k<ky rk p i
 |0,l,r,h1,h2,h3,ha,hb,_=>by
  obtain rfl:l=r:=by omega
  exact⟨h2,ha,hb⟩
 |f+1,l,r,h1,h2,h3,ha,hb,so=>by
  unfold kas_place;by_cases q:l≥r
  .rw[Rb q]
   obtain rfl:l=r:=by omega
   exact⟨h2,ha,hb⟩
  .rw[Q8 q]
   refine⟨P.lt (by omega),P.lt (by omega),?_⟩;by_cases z:ky rk p k<ky rk p ((l+r)/2)
   .rw[show r8 rk (p.getD k 0) (p.getD ((l+r)/2) 0)=Q4 from Rv z];dsimp only;rw[Rb rfl]
    refine oY P a f l ((l+r)/2) (by omega) (by omega) (by omega) ha (λi c b=>?_) so;by_cases w:i=(l+r)/2
    .subst w;exact z
    .exact VV z (so _ i (by omega) b)
   .rw[show r8 rk (p.getD k 0) (p.getD ((l+r)/2) 0)=Q9 from RY z];dsimp only;rw[Q8 Ri]
    have d:=P.ne (show(l+r)/2<k by omega) a;refine oY P a f ((l+r)/2+1) r (by omega) h2 (by omega) (λi c=>?_) hb so;by_cases w:i=(l+r)/2
    .subst w;omega
    .exact VV (so i ((l+r)/2) (by omega) (by omega)) (by omega)
theorem CL:∀(f:Nat) {p:Array Nat} {k:Nat},Pm rk n p->k+f=n->So rk p k->Rn (r8 rk) n (kas_bin f p k) λb=>Pm rk n b/\So rk b n
 |0,p,k,P,hk,so=>⟨P,by rw[<-hk];exact so⟩
 |f+1,p,k,P,hk,so=>by
  unfold kas_bin;refine Rn.bind (Rn.mono (λm hm=>?_) (oY P (by omega) k 0 k (Ss _) (Rf _) (by omega) (λi h=>RJ h (TX i)) (λi l c=>by omega) so));obtain⟨l,c,o⟩:=hm;have r:Pm rk n (bubble p k (k-m)):=P.of (bubble_perm _ _ _);refine CL f r (by omega) λi j a t=>?_;have ks:k<p.size:=by rw[P.sz];omega
  have g:∀x:Nat,(bubble p k (k-m)).getD x 0=p.getD (if x=m then k else if m<x/\x<=k then x-1 else x) 0:=λx=>by
   refine xm ?_;rw[getElem?_bubble ks (k-m) (by omega)];by_cases q:x=m
   .rw[Rb (by omega),Rb q]
   .rw[Q8 (by omega),Q8 q]
    by_cases q2:m<x/\x<=k
    .rw[Rb (by omega),Rb q2]
    .rw[Q8 (by omega),Q8 q2]
  show rk _<rk _;rw[g i,g j];by_cases q1:i=m
  .rw[Rb q1,Q8 (by omega),Rb (by omega)]
   exact o (j-1) (by omega) (by omega)
  .rw[Q8 q1]
   by_cases q2:j=m
   .rw[Rb q2,Q8 (by omega)]
    exact c i (by omega)
   .rw[Q8 q2]
    by_cases d:m<i/\i<=k
    .rw[Rb d,Rb (by omega)]
     exact so (i-1) (j-1) (by omega) (by omega)
    .rw[Q8 d]
     by_cases e:m<j/\j<=k
     .rw[Rb e]
      exact so i (j-1) (by omega) (by omega)
     .rw[Q8 e]
      exact so i j a (by omega)
theorem K7(a:1<=n)(inj:∀i j,i<n->j<n->rk i=rk j->i=j):Rn (r8 rk) n (kas_sort n) λp=>Pm rk n p/\So rk p n:=by
 unfold kas_sort;have P:Pm rk n (List.toArray (Re n)):=⟨.refl _,inj⟩;refine Rn.bind (Rn.mono (λr b=>?_) (GC P a));obtain⟨a1,a2,a3,a4⟩:=b;by_cases q:r.1<n
 .rw[Rb q,Nat.max_eq_left a2]
  exact CL _ a1 (by omega) a4
 .rw[Q8 q]
  obtain rfl:r.1=n:=by omega
  exact⟨a1,a4⟩
noncomputable def dg:List Int->List Int->Bool
 |[],[]=>Q9
 |[],_::_=>Q4
 |_::_,[]=>Q9
 |a::as,b::bs=>if a=b then dg as bs else decide (a<b)
theorem iH:∀x,dg x x=Q9
 |[]=>rfl
 |a::as=>by unfold dg;rw[Rb rfl];exact iH as
theorem qq:∀{x y z},dg x y=Q4->dg y z=Q4->dg x z=Q4
 |[],[],_,h,_=>by cases h
 |[],_::_,[],_,h=>by cases h
 |[],_::_,_::_,_,_=>rfl
 |_::_,[],_,h,_=>by cases h
 |_::_,_::_,[],_,h=>by cases h
 |a::as,b::bs,c::cs,h1,h2=>by
  unfold dg at h1 h2⊢;by_cases q1:a=b
  .rw[Rb q1]at h1
   by_cases q2:b=c
   .rw[Rb q2]at h2
    rw[Rb (q1.trans q2)];exact qq h1 h2
   .rw[Q8 q2]at h2
    rw[Q8 (by rw[q1];exact q2),q1];exact h2
  .rw[Q8 q1]at h1
   have l1:=Sk h1;by_cases q2:b=c
   .rw[Q8 (by rw[<-q2];exact q1),<-q2];exact h1
   .rw[Q8 q2]at h2
    have d:=Sk h2;rw[Q8 (by omega)];exact Rv (by omega)
theorem nU:∀{x y},dg x y=Q9->dg y x=Q9->x=y
 |[],[],_,_=>rfl
 |[],_::_,h,_=>by cases h
 |_::_,[],_,h=>by cases h
 |a::as,b::bs,h1,h2=>by
  unfold dg at h1 h2;by_cases q:a=b
  .rw[Rb q]at h1
   rw[Rb q.symm]at h2;rw[q,nU h1 h2]
  .rw[Q8 q]at h1
   rw[Q8 (Ne.symm q)]at h2;have:=of_decide_eq_false h1;have:=of_decide_eq_false h2;omega
theorem vU:∀{L:List Nat},(∀l∈L,p l=Q4->q l=Q4)->∀{i},i∈L->p i=Q9->q i=Q4->L.countP p<L.countP q
 |[],_,i,h,_,_=>by cases h
 |a::L,hpq,i,hi,h1,h2=>by
  have le:L.countP p<=L.countP q:=List.countP_mono_left λl b=>hpq l (Q1 a b);rcases Rq.mp hi with rfl|hi
  .rw[List.countP_cons_of_neg (by rw[h1];exact Ri),List.countP_cons_of_pos h2]
   omega
  .have ih:=vU (λl b=>hpq l (Q1 a b)) hi h1 h2
   rw[List.countP_cons,List.countP_cons];have:(if p a=Q4 then 1 else 0)<=(if q a=Q4 then 1 else 0):=by
    by_cases z:p a=Q4
    .rw[Rb z,Rb (hpq a Q7 z)];exact Rf 1
    .rw[Q8 z];exact Ss _
   omega
def ib(ks:LI)(i:Nat):Nat:=(Re ks.length).countP λj=>dg (ks.getD j []) (ks.getD i [])
theorem tT{ks:LI}(a:i<ks.length)(h:dg (ks.getD i []) (ks.getD j [])=Q4):ib ks i<ib ks j:=
 vU (λl _ b=>qq b h) (Rz.mpr a) (iH _) h
theorem zS{ks:LI}(b:i<ks.length)(c:j<ks.length):decide (ib ks i<ib ks j)=dg (ks.getD i []) (ks.getD j []):=by
 cases h:dg (ks.getD i []) (ks.getD j [])with
 |true=>exact Rv (tT b h)
 |false=>
  refine RY λz=>?_;cases a:dg (ks.getD j []) (ks.getD i [])with
  |true=>have:=tT c a;omega
  |false=>
   have e:=nU h a;unfold ib at z;rw[e]at z;exact Sf _ z
theorem M4{ks:LI}(nd:ks.Nodup)(a:i<ks.length)(b:j<ks.length)(h:ib ks i=ib ks j):i=j:=by
 have e:ks.getD i []=ks.getD j []:=by
  refine nU ?_ ?_
  .cases z:dg (ks.getD i []) (ks.getD j [])with
   |false=>rfl
   |true=>have:=tT a z;omega
  .cases z:dg (ks.getD j []) (ks.getD i [])with
   |false=>rfl
   |true=>have:=tT b z;omega
 rw[QZ,QZ,Q2 a,Q2 b]at e;have c:ks[i]=ks[j]:=e;rcases UH i j with z|z|z
 .exact RJ c (T8.mp nd i j a b z)
 .exact z
 .exact RJ c.symm (T8.mp nd j i b a z)
abbrev Up(l:LI):Prop:=l.Pairwise λa b=>dg a b=Q4
theorem xQ:∀{l m:LI},Up l->Up m->(∀x,x∈l↔x∈m)->l=m
 |[],[],_,_,_=>rfl
 |[],b::m,_,_,h=>by have:=(h b).mpr Q7;cases this
 |a::l,[],_,_,h=>by have:=(h a).mp Q7;cases this
 |a::l,b::m,h1,h2,h=>by
  obtain⟨d,p2⟩:=U7.mp h1;obtain⟨q1,q2⟩:=U7.mp h2;have e:a=b:=by
   rcases Rq.mp ((h a).mp Q7)with z|z
   .exact z
   .rcases Rq.mp ((h b).mpr Q7)with w|w
    .exact w.symm
    .have:=qq (q1 a z) (d b w)
     rw[iH]at this;cases this
  subst e;congr 1;refine xQ p2 q2 λx=>⟨λc=>?_,λc=>?_⟩
  .rcases Rq.mp ((h x).mp (Q1 a c))with rfl|z
   .have:=d x c;rw[iH]at this;cases this
   .exact z
  .rcases Rq.mp ((h x).mpr (Q1 a c))with rfl|z
   .have:=q1 x c;rw[iH]at this;cases this
   .exact z
variable{prog:RT}{w:R8}{A:SB}{E:Ra->Rg->Prop}{s:Rg}
theorem xb{b:Bool}:∀{xs ys:List Int} {us vs:List Ra} (i:Nat),ItemsAre (W4 prog w) xs us->ItemsAre (W4 prog w) ys vs->∀n m:Nat,(decide (n+us.length<m+vs.length)=decide (xs.length<ys.length))->Q (dg xs ys) s->KatLex prog w A Q4 (decide (n+us.length<m+vs.length)) Q (us.zip vs) i s
 |[],ys,us,vs,i,hx,hy,n,m,e,q=>by
  cases hx;cases hy with
  |nil=>rw[Xw];exact kat_nil (by rw[e];exact q)
  |cons c d=>rw[Xw];exact kat_nil (by rw[e];exact q)
 |x::xs,ys,us,vs,i,hx,hy,n,m,e,q=>by
  cases hx with
  |@cons _ u _ us' c d=>
   cases hy with
   |nil=>rw[List.zip_nil_right];exact kat_nil (by rw[e];exact q)
   |@cons y v ys' vs' h3 h4=>
    obtain⟨g,rfl⟩:=Xm c;obtain⟨h,rfl⟩:=Xm h3;rw[Tk];refine kat_cons (wpAny_eqBool_int ?_);unfold dg at q;by_cases z:x=y
    .rw[Rb z]at q
     rw[show(x==y)=Q4 by rw[UW];exact z];refine kat_yes ?_;have f:∀k l:Nat,decide (k+(us'.length+1)<l+(vs'.length+1))=decide (k+1+us'.length<l+1+vs'.length):=λk l=>decide_eq_decide.mpr (by omega);rw[Rl,Rl,f];refine xb (b:=b) (i+1) d h4 (n+1) (m+1) ?_ q;rw[<-f,<-Rl (a:=U8 x g),<-Rl (a:=U8 y h),e,Rl,Rl];exact decide_eq_decide.mpr (by omega)
    .rw[Q8 z]at q
     rw[show(x==y)=Q9 by rw[YH];exact z];refine kat_no ?_;cases j:(Q4&&i==0)with
     |true=>exact oneLt_int q
     |false=>exact kat_one _ _ (lt_int (show PySem.W.BoolBack Q (.bool _) s from q))
theorem NF(i:(hW prog w).is s.heap xs x)(j:(hW prog w).is s.heap ys y)(h:Q (dg xs ys) s):Rt (RN prog w) A (keyLt' (tuples' Q4) (.ref x) (.ref y)) Q E s:=by
 obtain⟨m,o,p,d,k,e,a⟩:=i;obtain⟨o2,q,r,f,l,g,c⟩:=j;refine kat_lt d e f g ?_;have:=xb (A:=A) (b:=Q4) (Q:=Q) (s:=s) 0 a c 0 0 (by rw[Sn,Sn,a.length,c.length]) h;rw[Sn,Sn,R0,R0]at this;exact this
theorem wx:∀{ks:List (List Int×Q6)},(∀k∈ks,(hW prog w).is s.heap k.1 k.2/\1<=k.1.length)->∃fs:List Ra,KatTups s.heap (ks.map λk=>RI k.2) fs/\fs.length=ks.length/\∀v∈fs,∃n t,v=U8 n t
 |[],_=>⟨[],trivial,rfl,λv hv=>by cases hv⟩
 |k::ks,h=>by
  obtain⟨fs,c,d,f⟩:=wx λg i=>h g (Q1 k i);obtain⟨⟨o,its,n,j,l,hd,b⟩,p⟩:=h k Q7;have a:=b.length;have m:0<its.size:=by rw[<-R0,<-a];omega
  have e:=getElem?_pos its 0 m;refine⟨its[0]::fs,KatTups.cons j l hd e c,by rw[Rl,Rl,d],λv hv=>?_⟩;rcases Rq.mp hv with rfl|hv
  .exact items_int b _ (by rw[<-Vp];exact R1 _)
  .exact f v hv
theorem zI{ks:List (List Int×Q6)}{n:Nat}{P:Wt->Rg->Prop}(L:s.heap.get? a=on (UM "list" (ks.map λk=>RI k.2).toArray n))(hk:∀k∈ks,(hW prog w).is s.heap k.1 k.2/\1<=k.1.length)(nd:(ks.map (·.1)).Nodup)(h64:ks.length<64)
  (h:∀(h':SE) (l:List (List Int×Q6)) (n':Nat),l.Perm ks->Up (l.map (·.1))->h'.get? a=on (UM "list" (l.map λk=>RI k.2).toArray n')->(∀b o,b≠a->s.heap.get? b=on o->h'.get? b=on o)->P (.done (.ret .none)) {s with heap:=h'}):
  Rt (RN prog w) A (Builtin.«list.sort» ⟨[.ref a],[]⟩) P E s:=by
 have ha:a<s.heap.objs.size:=RM L;rw[list_sort_plain];refine My (listItems_at L rfl ?_);refine My (WT L rfl ?_ (by simp[TM];omega) (by simp));obtain⟨F,N⟩:∃F,(s.heap.update a (Ta λ_=>#[])).get? a=on (UM "list" #[] F):=⟨_,get?_update_seq L (λ_=>#[])⟩;refine My (seqEpoch_at N rfl ?_);refine My (Zi ?_ (by simp[TM];omega));refine My (wpAny_newList ?_ (Ss _));refine SX ?_;generalize q:(ks.map λk=>RI k.2)=vs at*;have u:vs.length=ks.length:=by rw[<-q,QX]
 have d:(((s.heap.update a (Ta λ_=>#[])).push (UM "tuple" vs.toArray 0)).push (UM "list" #[] 0)).get? a=on (UM "list" #[] F):=by
  rw[Z9 _ _ _ (by rw[size_push',Heap.size_update];exact Sg (Wp ha)),Z9 _ _ _ (by rw[Heap.size_update];exact Sg ha)];exact N
 have keep:∀b o,b≠a->s.heap.get? b=on o->(((s.heap.update a (Ta λ_=>#[])).push (UM "tuple" vs.toArray 0)).push (UM "list" #[] 0)).get? b=on o:=λb o X e=>by
  refine Q3 _ (Q3 _ ?_);rw[Ui _ _ _ _ X];exact e
 show Rt (RN prog w) A _ P E {s with heap:=((s.heap.update a (Ta λ_=>#[])).push (UM "tuple" vs.toArray 0)).push (UM "list" #[] 0)};generalize hh6:((s.heap.update a (Ta λ_=>#[])).push (UM "tuple" vs.toArray 0)).push (UM "list" #[] 0)=h6 at d keep
 dsimp only
 have O:∀(l:List (List Int×Q6)) (y:Array Ra),l.Perm ks->Up (l.map (·.1))->y=(l.map λk=>RI k.2).toArray->P (.done (.ret .none)) {s with heap:=h6.update a (Ta λ_=>y)}:=λl y p1 p2 e=>by
  refine h _ l _ p1 p2 (by rw[<-e];exact get?_update_seq d λ_=>y) λb o X Y=>?_;rw[Ui _ _ _ _ X];exact keep b o X Y
 by_cases I:vs.toArray.size<2
 .rw[Rb I,Rb I]
  refine My (Q0 ?_);rw[StateT.run_pure];refine My (Q0 ?_)
  dsimp only
  refine My (seqEpoch_at d rfl ?_);have Z:((arrOf (SortSt.mk' general' (vs.toArray.zip vs.toArray) #[] 7 QY)).map (·.2))=vs.toArray:=by
   show(vs.toArray.zip vs.toArray).map (·.2)=_;apply Array.toList_inj.mp;rw[Array.toList_map,Array.toList_zip];exact List.map_snd_zip (Rf _)
  rw[Z];refine My (WT d rfl ?_ (by simp) (by simp[TM];omega));simp only[UD,RC,Sz];refine Q0 (O ks _ (.refl _) ?_ (by rw[q]));have R:ks.length<2:=by rw[<-u];simpa using I
  match ks,R with
  |[],_=>exact WN
  |[k],_=>exact Uo _ _
  |_::_::_,R=>simp at R;omega
 .rw[Q8 I,Q8 I]
  have h2':2<=ks.length:=by rw[<-u];simp at I;omega
  have H:∀k∈ks,(hW prog w).is h6 k.1 k.2/\1<=k.1.length:=λk hk'=>by
   obtain⟨⟨o,its,m,h1,h3,h4,h5⟩,R⟩:=hk k hk';refine⟨⟨o,its,m,keep _ _ (λz=>?_) h1,h3,h4,h5⟩,R⟩;rw[z,L]at h1;cases h1;exact RJ (U4.inj h3) (by decide)
  obtain⟨fs,t1,t2,t3⟩:=wx (s:={s with heap:=h6}) H;rw[q]at t1;refine My (kat_kind (T:= .type "int") t1 (by omega) (λv hv=>?_) rfl ?_)
  .obtain⟨x,t,rfl⟩:=t3 v hv
   exact Looks.of_pure rfl
  show Rt _ _ (StateT.run sortRuns' (SortSt.mk' (tuples' Q4) (vs.toArray.zip vs.toArray) #[] 7 QY)>>=_) _ _ _;have J:(ks.map (·.1)).length=vs.length:=by rw[QX,u]
  have at_:∀i,i<vs.length->∃k∈ks,vs.getD i Sv= .ref k.2/\(ks.map (·.1)).getD i []=k.1/\ks[i]?=on k:=λi c=>by
   have f:i<ks.length:=by omega
   refine⟨ks[i],R1 f,?_,?_,Q2 f⟩
   .rw[<-q,QZ,Q5,Q2 f];rfl
   .rw[QZ,Q5,Q2 f];rfl
  refine My (Sh (kat_run (κ:=tuples' Q4) (ks:=vs) (vs:=vs) (Q:=λg s'=>s'={s with heap:=h6}/\failedOf g=QY/\∃p:Array Nat,Pm (ib (ks.map (·.1))) vs.length p/\So (ib (ks.map (·.1))) p vs.length/\arrOf g=p.map (kas_item (vs.toArray.zip vs.toArray)))
   (G:=λp s'=>s'={s with heap:=h6}/\Pm (ib (ks.map (·.1))) vs.length p/\So (ib (ks.map (·.1))) p vs.length) rfl (by omega) (by omega) (λp g s' a1 a2 a3 a4=>⟨a4.1,a3,p,a4.2.1,a4.2.2,a2⟩)
   (Rn.wp (lt:=r8 (ib (ks.map (·.1)))) (n:=vs.length) (λi j c B C hC=>?_) (λp hp=>⟨rfl,hp⟩) (K7 (by omega) λi j c B hr=>M4 nd (by rw[J];exact c) (by rw[J];exact B) hr))) (λr s' hr=>?_) λ_ _ e=>e)
  .obtain⟨k1,m1,F,f1,_⟩:=at_ i c
   obtain⟨k2,m2,e2,f2,_⟩:=at_ j B;unfold kas_ask;rw[F,e2];refine NF (H k1 m1).1 (H k2 m2).1 ?_;have:=zS (ks:=ks.map (·.1)) (i:=i) (j:=j) (by rw[J];exact c) (by rw[J];exact B);rw[f1,f2]at this;rw[<-this];exact hC
  .obtain⟨⟨⟩,g⟩:=r
   obtain⟨rfl,hf,p,P1,so,har⟩:=hr
   dsimp only
   have Z:(arrOf g).map (·.2)=(p.toList.map λi=>vs.getD i Sv).toArray:=kat_snds rfl har;have U:=P1.sz;rw[Z];refine My (seqEpoch_at d rfl ?_);refine My (WT d rfl ?_ (by simp) (by simp[TM];omega));rw[hf];simp only[UD,RC,Sz];have W:∀i∈p.toList,i<vs.length:=λi c=>Rz.mp (P1.perm.mem_iff.mp c);refine Q0 (O (p.toList.map λi=>ks.getD i ([],0)) _ ?_ ?_ ?_)
   .refine(P1.perm.map _).trans (Xj ?_)
    rw[u];refine Tq (by simp) λi q1 q2=>?_;rw[TF,Uu,QZ,Q2 q2];rfl
   .rw[Rc]
    unfold Up;rw[We];refine T8.mpr λi j c B hij=>?_;have f:i<vs.length:=by simpa[U]using c
    have hj':j<vs.length:=by simpa[U]using B
    have gd:∀x (hx:x<p.toList.length),p.getD x 0=p.toList[x]:=λx hx=>by
     have:x<p.size:=by simpa using hx
     simp[Ug,this]
    have z:=so i j hij hj';unfold ky at z;rw[gd i c,gd j B]at z;obtain⟨k1,m1,F,f1,g1⟩:=at_ p.toList[i] (W _ (R1 c));obtain⟨k2,m2,e2,f2,g2⟩:=at_ p.toList[j] (W _ (R1 B));have:=zS (ks:=ks.map (·.1)) (i:=p.toList[i]) (j:=p.toList[j]) (by rw[J];exact W _ (R1 c)) (by rw[J];exact W _ (R1 B));rw[Rv z,f1,f2]at this;simp only[VY];rw[QZ,QZ,g1,g2];exact this.symm
   .rw[Rc]
    congr 1;refine RE λi c=>?_;obtain⟨k1,m1,F,f1,g1⟩:=at_ i (W i c);rw[F];simp only[VY];rw[QZ,g1];rfl
theorem ED{α β:Type}{f:α->β}{vs g:List β}(p:vs.Perm g):∀{xs:List α},g=xs.map f->∃ks:List α,ks.Perm xs/\vs=ks.map f:=by
 induction p with
 |nil=>
  intro xs e;cases xs with
  |nil=>exact⟨[],.refl _,rfl⟩
  |cons _ _=>cases e
 |cons x _ ih=>
  intro xs e;cases xs with
  |nil=>cases e
  |cons a xs=>
   cases e;obtain⟨ks,c,d⟩:=ih rfl;exact⟨a::ks,c.cons a,by rw[d];rfl⟩
 |swap x y l=>
  intro xs e
  match xs,e with
  |[],e=>cases e
  |[_],e=>cases e
  |a::b::xs,e=>
   cases e;exact⟨b::a::xs,.swap _ _ _,rfl⟩
 |trans _ _ ih1 ih2=>
  intro xs e;obtain⟨ks,c,d⟩:=ih2 e;obtain⟨h,i,j⟩:=ih1 d;exact⟨h,i.trans c,j⟩
theorem x5{xs:List (List Int×Q6)}(H:A.handled=QY)(S:rO prog w s.heap a xs)(I:∀x∈xs,1<=x.1.length)(J:xs.length<64)
  (h:∀(l:Q6) (h':SE) (f v:Nat) (g:List (List Int×Q6)),g.Perm xs->Up (g.map (·.1))->h'.get? l=on (UM "list" (g.map λk=>RI k.2).toArray v)->s.heap.objs.size<=l->(∀b o,s.heap.get? b=on o->h'.get? b=on o)->s.toks<=f->Q (.ref l) {s with heap:=h',toks:=f}):
  Rt (RN prog w) A (XN (.builtin "sorted") [.ref a]) Q E s:=by
 obtain⟨o,es,ep,t,L,y,hd,i,B,N,T,O,j⟩:=S;have C:es.size=xs.length:=by rw[<-R0,i,QX]
 have R:t.fits es.size=Q4:=T.fits (by rw[QX,C]);refine Calls.call_function_entry kind_sorted plain_sorted entry_sorted (args_sorted1 _) ?_;unfold Builtin.«sorted»;refine My (m:=checkCount "sorted" 1 1 _) (Q0 ?_);refine My (wn H L y.1 hd T R O j (by omega) λp f vs keep q htk pv=>?_);rw[i,Rc]at pv;obtain⟨ks,r,rfl⟩:=ED pv rfl;have U:ks.length=xs.length:=r.length_eq;refine My (wpAny_newList ?_ (by rw[QX,TM];omega));have c:∀b d,s.heap.get? b=on d->(p.push (UM "list" (ks.map λk=>RI k.2).toArray 0)).get? b=on d:=λb d e=>Q3 _ (keep b d e);have u:(p.push (UM "list" (ks.map λk=>RI k.2).toArray 0)).get? p.objs.size=on (UM "list" (ks.map λk=>RI k.2).toArray 0):=Rw _ rfl;show Rt _ _ _ _ _ {s with heap:=p.push (UM "list" (ks.map λk=>RI k.2).toArray 0),toks:=f};refine My (SX (Sc slot_list_sort ⟨_,u,rfl⟩ entry_list_sort (zI u (λk F=>⟨?_,I k (r.mem_iff.mp F)⟩) ((r.map (·.1)).nodup_iff.mpr B) (by omega) λh' g v q1 q2 q3 q4=>⟨_,rfl,?_⟩) (args_list_sort _)))
 .obtain⟨W,its,m,X,Y,Z,z4⟩:=N k (r.mem_iff.mp F)
  exact⟨W,its,m,c _ _ X,Y,Z,z4⟩
 .refine Q0 ⟨_,rfl,h p.objs.size h' f v g (q1.trans r) q2 q3 q (λb d e=>q4 b d (λz=>?_) (c b d e)) htk⟩
  have:=RM e;exact RJ (z▸this) (Nat.not_lt.mpr q)
end
end L2.Hs
namespace L2.Hs
open PySem PySem.Spec PyProof.Rows
section
variable{prog:RT}{w:R8}
def rP(prog:RT)(w:R8)(a:Q6)(xs:List (List Int×Q6))(h:SE):Prop:=
 ∃o es ep t,h.get? a=on o/\o.ExactSet/\o.data= .set es ep t/\(es.toList=xs.map λx=>(hsh prog w x.1,RI x.2))/\(xs.map (·.1)).Nodup/\(Tb t (xs.map λx=>hsh prog w x.1))/\t.plain=Q4/\t.led=!(w.params.followText "set-order")
noncomputable def m8(prog:RT)(w:R8)(a:Q6)(xs:List (List Int×Q6)):HO:= .ext (rP prog w a xs)
theorem rP.to(S:rP prog w a xs h)(b:∀x∈xs,(hW prog w).is h x.1 x.2):rO prog w h a xs:=by
 obtain⟨o,es,ep,t,c,d,e,f,g,i⟩:=S;exact⟨o,es,ep,t,c,d,e,f,g,b,i⟩
theorem wH(S:rP prog w a xs h):cL prog w H h a (m8 prog w a xs):=by
 refine⟨S,?_,λb c z k=>?_⟩
 .obtain⟨o,_,_,_,e,_⟩:=S
  exact⟨o,e⟩
 .obtain⟨o,es,ep,t,e,r⟩:=z
  exact⟨o,es,ep,t,k _ e,r⟩
theorem FO{k:List Int}:∀{its:List Ra},au (k.map V.int) its->ItemsAre (W4 prog w) k its:=by
 induction k with
 |nil=>intro its h;cases h;exact .nil
 |cons i k ih=>
  intro its h;cases h with
  |cons a b=>
   obtain⟨t,rfl⟩:=a;exact .cons (by simp[W4,Y6]) (ih b)
variable{X:Cx}
theorem nZ{s:Rg}{k:List Int}(I:cy X ba σ H s)(h:il X.K H b (k.map V.int)):(hW X.prog X.w).is s.heap k b:=by
 obtain⟨its,a,⟨o,e,c,n,hd⟩,_⟩:=I.tuple h;exact⟨o,its.toArray,n,e,c,hd,FO a⟩
theorem tb0{b:Bool}:Tb (.fresh 0 0 b) []:=⟨.inl rfl,rfl,λi j a b h=>by simp[Z1]at*,λi j h=>by simp[Z1]at h,rfl,by show 0*5<7*3;decide,λi h j c=>by simp at c⟩
theorem rS:∀a:List (List Int×Q6),au (a.map λz=>V.ref z.2) (a.map λk=>RI k.2)
 |[]=> .nil
 |_::a=> .cons rfl (rS a)
theorem LN:Mks X (newSet (.type "set")) λD=>m8 X.prog X.w D []:=λa s c H E Q I h=>by
 unfold newSet setsByText;refine My (My (VN (Q0 ?_)))
 dsimp only
 simp only[newObj];refine My (wpAny_alloc (Q0 (h _ (I.laid (t':=s.toks) (λ_ _ q=>Q3 _ q) (Rf _) (wH ?_)) λb o e=>Q3 _ e)));exact⟨_,#[],0,_,Rw _ rfl,⟨rfl,rfl,rfl⟩,rfl,rfl,.nil,tb0,rfl,rfl⟩
def CI(P:RT)(w:R8)(K:RB)(D:Q6)(e:TE):TB:=λd H Q=>e d H λv c=>∃xs k b,c D=on (m8 P w D xs)/\v= .ref b/\il K c b (k.map V.int)/\(∀x∈xs,il K c x.2 (x.1.map V.int))/\xs.length<63/\
 ∀a,(k∈xs.map (·.1)->a=xs)->(k∉xs.map (·.1)->a.Perm ((k,b)::xs))->Q d (upd c D (m8 P w D a))
theorem uS{D:Q6}(p:X.A.units+1<Wu)(L:gens[d+1]?=QY)(N:PE X elt te)(j:X.xe=λ_ _=>False):PB X (.S elt) gens scope pos d D (CI X.prog X.w X.K D te):=by
 intro a s y H Q I h k Q' E' O;unfold hX;rw[L];show Rt _ _ ((do let v <-Sw elt X.env;UF elt.pos;let _ <-XN (.builtin "set.add") [.ref D,v])>>=λ_=>k) _ _ _
 have c:=N a s y H _ I h;rw[j]at c;refine My (My (Sh c (λu g l=>?_) λ_ _ f=>f.elim));obtain⟨v,H1,i,r,xs,R,b,B,rfl,C,J,hn,q⟩:=l;cases r;have S:rP X.prog X.w D xs g.heap:=(i.hok D _ B).1;have T:rO X.prog X.w g.heap D xs:=S.to λx h=>nZ i (J x h);obtain⟨o,es,ep,t,U,W,_⟩:=S;refine My (T6 (My (Sc F.slot_set_add ⟨o,U,W.1⟩ F.entry_set_add ?_ (F.args_set_add_2 _ _))));unfold Builtin.«set.add» Builtin.Frozenset.oneOther;simp only[List.isEmpty_nil,bind_assoc];unfold Builtin.Frozenset.addrOf setAdd;refine My (Q0 ?_)
 try dsimp only
 refine My (Q0 ?_)
 try dsimp only
 refine My (SX (My ((hW X.prog X.w).pyHash p (nZ i C) ?_)));refine Pj (s:={g with toks:=g.toks+(hW X.prog X.w).draws R}) p T (nZ (s:=g) i C) hn λh' m Y Z c1 c2=>?_;show Rt _ _ (ret Sv) _ _ _;refine Q0 ⟨_,rfl,Q0 (O _ y _ (i.write (by rw[B];trivial) (.inl rfl) (λb u n e=>(Y.2 b n).trans e) ?_ (wH ?_)) (q m c1 c2))⟩
 all_goals obtain⟨o,es,ep,t,c,l,h3,h4,h5,J,h6⟩:=Z
 .exact⟨o,c⟩
 .exact⟨o,es,ep,t,c,l,h3,h4,h5,h6⟩
def lZ(c:Q6->HO)(c_:List R3)(cw:List Nat)(d:TI)(e:Q6->It->TB):TE:=λa H Q=>d a H λJ b=>∀D,b D=QY->e D J (kF c_ cw a) (upd b D (c D)) λ_ f=>Q (.ref D) f
theorem Lw{d a b:Expr}{f:List Expr}{rest:List S7}{scope:Scope}{pos:Vy}{j c_:List R3}{cw:List Nat}{g:TG}{tt:TT}{o:Q6->TB}{p:TI}(r:X.calm=Q4)(S:dk X scope j c_ cw)(t:PI X a b p)
  (u:∀(cl:List (R3×Q6)) (C:Q6) (k:List Q6) (s:Rg) (H:Hp),PG (aP X j scope cl C k s H) a g/\eA (aP X j scope cl C k s H) f tt/\∀D,PB (aP X j scope cl C k s H) (.S d) (⟨a,b,f,0⟩::rest) scope pos 0 D (o D))
  (hs:∀x,Su b X.env x=T0 x:=by intro _;rfl):PE X (.SetComp d (⟨a,b,f,0⟩::rest) scope pos) (lZ (λD=>m8 X.prog X.w D []) c_ cw p λD J=>dG J g tt (o D)):=by
 intro i s y H Q I h;refine Ur (use:=QY) rfl hs (S.clo I.ok) S.kind S.loc (Sh (t i s y H _ I h) (λv Y B=>Sh B (λF Z L=>?_) λ_ _ x=>x) λ_ _ x=>x);obtain⟨it,k,tn,J,H2,e,N,T,l,f2,q⟩:=L;subst e;refine hV (c:= .S d) LN (RR:=λacc C=>Za (RN X.prog X.w) X.A X.xe QY _ acc C) r S u N T l f2 q λD C s' O m R ns U W=>?_;exact⟨m,ns,λh' n=>⟨.ref D,O,R.letgo U n,rfl,W⟩⟩
def wN(P:RT)(w:R8)(K:RB):List V->Hp->VK->Prop:=λxs H Q=>∃a ys,xs=[.ref a]/\H a=on (m8 P w a ys)/\(∀x∈ys,il K H x.2 (x.1.map V.int)/\1<=x.1.length)/\ys.length<64/\
 ∀(l:Q6) (b:List (List Int×Q6)),H l=QY->b.Perm ys->Up (b.map (·.1))->Q (.ref l) (upd H l (.lst (b.map λz=>V.ref z.2)))
theorem wo(e:X.calm=Q4):dJ X (.builtin "sorted") (wN X.prog X.w X.K):=by
 intro c s m H xs us Q I r h;obtain⟨a,ys,rfl,ha,d,hn,q⟩:=h;obtain⟨u,rfl,rfl⟩:=kK r;have S:rP X.prog X.w a ys s.heap:=(I.hok a _ ha).1;refine x5 (I.ok.hd e) (S.to λx h=>nZ I (d x h).1) (λx h=>(d x h).2) hn λl h' f g b p i j hs keep n=>?_;refine⟨.ref l,_,I.laid (t':=f) (o:= .lst (b.map λz=>V.ref z.2)) keep hs ⟨?_,b.map λk=>RI k.2,g,?_,j⟩,rfl,q l b (I.hok.fresh hs) p i⟩
 .rw[QX,p.length_eq,TM];omega
 .exact rS b
end
end L2.Hs
namespace L2.Pu
open PySem PySem.Spec PyProof.Rows L2.Hs
def hG(nv:Nat)(cw:List Nat)(it:FL)(tg:m_)(tt:Dn->M Bool)(b:FL)(a:List D->Option D):FD:=λδ β=>match it δ β with
 |none=>QY
 |some (.error C,β1)=>on (.error C,β1)
 |some (.ok ds,β1)=>match p4 tg tt b ds (lK nv cw δ) β1 with
  |some (.ok os,β2)=>(a os).map λd=>(.ok d,β2)
  |_=>QY
section
variable{K:RB}{E:St->XK}
theorem rW{R:AR}{p:Q6->HO}{c:List D->Option D}{c_:List R3}{cw:List Nat}{it:FL}{g:TG}{tg:m_}{tt:Dn->M Bool}{T:Q6->TB}{b:FL}(hg:dH K g tg)(sg:eX tg)(hb:∀D,eY K R D (T D) b)
  (r0:∀F H D,R.R F (upd H D (p D)) D []) (hp:∀os d,c os=on d->R.Z os) {U:St} {H:Hp} {Q W:VK} (h:tV K (hG c_.length cw it tg tt b c) E U H W)
  (k:∀F B f D os d,Fr F B f->¬F.A D->R.R F B D os->c os=on d->(∀v j,To F B j f->cp K F j d v->W v j)->Q (.ref D) B):
  lZ p c_ cw (iV K it E) (λD J=>dG J g (iv K tt E0) (T D)) U H Q:=by
 obtain⟨F,δ,β,fr,X,r,f,e,h⟩:=h;unfold hG at e;refine⟨F,δ,β,fr,X,?_⟩;split at e
 .cases e
 .rename_i C β1 q
  cases e;exact⟨.error C,_,q,h⟩
 .rename_i ds β1 q
  split at e
  .rename_i os β2 q2
   cases hd:c os with
   |none=>rw[hd]at e;cases e
   |some d=>
    rw[hd]at e;cases e;refine⟨.ok ds,β1,q,λJ I t hJ D m=>?_⟩;have i:¬F.A D:=t.fr.fresh m;have nb:∀b l,F.bg=on (b,l)->D≠b/\D≠l:=λb l z=>⟨λw=>i (w▸(fr.bgA b l z).1),λw=>i (w▸(fr.bgA b l z).2.1)⟩;have Y:=t.fr.upd (p D) m;have L:Fr ⟨λa=>F.A a\/a=D,F.bg⟩ (upd I D (p D)) β1:=by
     refine⟨λa ha z=>?_,λb l z=>let ⟨x,y,w⟩:=fr.bgA b l z;⟨.inl x,.inl y,w⟩,Y.fr.bag⟩
     rcases ha with ha|ha
     .exact Y.fr.occ a ha z
     .subst ha;rw[aq]at z;cases z
    have u:Tr F I ⟨λa=>F.A a\/a=D,F.bg⟩ (upd I D (p D)):=⟨λa ha hs z=>by
     rcases z with z|z
     .exact ha z
     .subst z;exact hs m,λa o ha z=>by rw[b_ (az z m)];exact z,rfl⟩
    refine rA (R:=R) (D:=D) (as:=[]) (os:=os) hg sg (hb D) L (.inr rfl) nb (vZ (X.tr ((t.tr fr).trans u))) (r0 _ _ _) (hJ.tr u) q2 (hp os d hd) λσ1 j N vk3 O=>?_;have tf:To F I j f:=by
     refine⟨λa o z n=>N.kp a o (by rw[b_ (az z m)];exact z) (az z m) n,λa ha z=>N.fr.occ a (Tg ha) z,fr.bgA,N.fr.bag⟩
    exact k F j f D os d tf.fr i (R.tr (F:=⟨λa=>F.A a\/a=D,F.bg⟩) O (λ_ z=>z) ⟨λa ha _ z=>ha (Tg z),λa o _ z=>z,rfl⟩) hd λv H3 t4 hv=>h v H3 ((t.trans tf).trans t4) hv
  .cases e
noncomputable abbrev j0(k:List Int):D:= .tup (k.map .int)
theorem rJ{k:List Int}(h:cp K F H (j0 k) v):∃b,v= .ref b/\il K H b (k.map V.int):=by
 obtain⟨a,xs,rfl,sq,dl⟩:=cp.sqT h;cases bb.ints k dl;exact⟨a,rfl,sq⟩
theorem gy(h:j0 k=j0 l):k=l:=by
 injection h with h
 exact V0 (λa b z=>by injection z)|>.mp h
theorem mD{α:Type} [BEq α] [LawfulBEq α]:∀{l m:List α},l.Nodup->(∀x∈l,x∈m)->l.length<=m.length
 |[],_,_,_=>Ss _
 |a::l,m,nd,h=>by
  obtain⟨c,d⟩:=Sb.mp nd;have:=mD (m:=m.erase a) d λx b=>(List.mem_erase_of_ne (λ(z:x=a)=>c (z▸b))).mpr (h x (Q1 a b));rw[List.length_erase_of_mem (h a Q7)]at this;have:=YU (h a Q7);rw[Rl];omega
noncomputable def RS(P:RT)(w:R8)(K:RB):AR where
 R:=λF H D as=>∃xs,H D=on (m8 P w D xs)/\(xs.map (·.1)).Nodup/\(∀x∈xs,cp K F H (j0 x.1) (.ref x.2)/\j0 x.1∈as)/\∀d∈as,∃k∈xs.map (·.1),d=j0 k
 Z:=λl=>∃ks:LI,ks.length<63/\∀d∈l,∃k∈ks,d=j0 k
 tr:=λh k t=>by
  obtain⟨xs,a,b,c,f⟩:=h;exact⟨xs,k _ a,b,λx e=>⟨cp.tr t _ _ (c x e).1,(c x e).2⟩,f⟩
 zp:=λh=>by
  obtain⟨ks,a,b⟩:=h;exact⟨ks,a,λd hd=>b d (Uf _ hd)⟩
theorem FG{P:RT}{w:R8}{D:Q6}:eY K (RS P w K) D (CI P w K D (tV K f E0)) (k_ f):=λF H δ β u R as os Q fr T A J U e W k=>by
 obtain⟨xs,X,nd,j,ha⟩:=U;obtain⟨d,β1,Y,Z⟩:=M.bind_inv e;cases Z;refine⟨F,δ,β,fr,J,E0.run Y λv B t L=>?_⟩;have C:=t.kp D _ X A;obtain⟨ks,z1,N⟩:=W;obtain⟨r,hk',rfl⟩:=N d (Sa _ Q7);obtain⟨b,rfl,sq⟩:=rJ L;have c:∀x∈xs,cp K F B (j0 x.1) (.ref x.2):=λx h=>cp.tr (t.tr fr) _ _ (j x h).1;have g:xs.length<63:=by
  have:=mD (m:=ks) nd λx I=>by
   obtain⟨y,hy,rfl⟩:=Rp.mp I;obtain⟨l,hl,e⟩:=N _ (Uf _ (j y hy).2);rw[gy e];exact hl
  rw[QX]at this;omega
 refine⟨xs,r,b,C,rfl,sq,λx h=>?_,g,λi c1 c2=>?_⟩
 .obtain⟨b',e,q⟩:=rJ (c x h)
  cases e;exact q
 have O:lQ F D B (upd B D (m8 P w D i)) u:=by
  refine⟨λa o h n _=>by rw[b_ n];exact h,λa h q=>?_,fr.bgA,λb l q=>?_⟩
  .by_cases z:a=D
   .subst z;rw[aq]at q;cases q
   .rw[b_ z]at q;exact t.fr.occ a h q
  .rw[b_ (A b l q).1.symm,b_ (A b l q).2.symm]
   exact t.fr.bag b l q
 have tt:=O.tr t.fr T;refine k R _ ((t.toD D).trans O) (J.tr ((t.tr fr).trans tt)) ⟨i,aq,?_⟩;by_cases hm:r∈xs.map (·.1)
 .cases c1 hm
  refine⟨nd,λx h=>⟨cp.tr tt _ _ (c x h),Uf _ (j x h).2⟩,λd hd=>?_⟩;rcases S4.mp hd with hd|hd
  .exact ha d hd
  .exact⟨r,hm,RP.mp hd⟩
 .have p:=c2 hm
  refine⟨(p.map (·.1)).nodup_iff.mpr (Sb.mpr ⟨hm,nd⟩),λx h=>?_,λd hd=>?_⟩
  .rcases Rq.mp (p.mem_iff.mp h)with rfl|h
   .exact⟨cp.tr tt _ _ L,Sa _ Q7⟩
   .exact⟨cp.tr tt _ _ (c x h),Uf _ (j x h).2⟩
  .rcases S4.mp hd with hd|hd
   .obtain⟨k2,h2,e⟩:=ha d hd
    exact⟨k2,(p.map (·.1)).mem_iff.mpr (Q1 _ h2),e⟩
   .exact⟨r,(p.map (·.1)).mem_iff.mpr Q7,RP.mp hd⟩
def W_(ks:LI)(os:List D):Prop:=Up ks/\ks.length<63/\(∀k∈ks,1<=k.length/\j0 k∈os)/\∀d∈os,∃k∈ks,d=j0 k
theorem W_.eq{os:List D}(a:W_ ks os)(b:W_ ls os):ks=ls:=xQ a.1 b.1 λx=>⟨λh=>by
 obtain⟨l,c,e⟩:=b.2.2.2 _ (a.2.2.1 x h).2;rw[gy e];exact c,λh=>by
 obtain⟨l,c,e⟩:=a.2.2.2 _ (b.2.2.1 x h).2;rw[gy e];exact c⟩
open Classical in
def kN(os:List D):Option D:=if h:∃ks,W_ ks os then on (.lst (h.choose.map j0))else QY
theorem DQ{ks:LI}{os:List D}(h:W_ ks os):kN os=on (.lst (ks.map j0)):=by
 have q:∃ks,W_ ks os:=⟨ks,h⟩;unfold kN;rw[dif_pos q,q.choose_spec.eq h]
theorem sd{os:List D}(h:kN os=on d):∃ks,W_ ks os/\d= .lst (ks.map j0):=by
 unfold kN at h;split at h
 .rename_i q
  cases h;exact⟨_,q.choose_spec,rfl⟩
 .cases h
theorem sQ:∀{a:List (List Int×Q6)},(∀z∈a,cp K F H (j0 z.1) (.ref z.2))->bb K F H ((a.map (·.1)).map j0) (a.map λz=>V.ref z.2)
 |[],_=>bb.nil
 |z::a,h=>bb.cons (h z Q7) (sQ λx b=>h x (Q1 z b))
end
section
variable{X:Cx}{E:St->XK}{elt cx iter:Expr}{ifs:List Expr}{rest:List S7}{scope:Scope}{pos p pos':Vy}{Nc c_:List R3}{cw:List Nat}{g:TG}{tb:Q6->TB}
theorem DE(i:Gl X "sorted")(hm:X.mg "sorted"=QY)(o:X.calm=Q4)(S:dk X scope Nc c_ cw)(r:PI X cx iter (iV X.K it E))
  (t:∀(cl:List (R3×Q6)) (C:Q6) (j:List Q6) (s:Rg) (H:Hp),PG (aP X Nc scope cl C j s H) cx g/\eA (aP X Nc scope cl C j s H) ifs (iv X.K tt E0)/\∀D,PB (aP X Nc scope cl C j s H) (.S elt) (⟨cx,iter,ifs,0⟩::rest) scope pos 0 D (tb D))
  (u:dH X.K g tg) (A:eX tg) (B:∀D,eY X.K (RS X.prog X.w X.K) D (tb D) b) (hs:∀x,Su iter X.env x=T0 x:=by intro _;rfl):
  PE X (.Call (.Name "sorted" p) [.SetComp elt (⟨cx,iter,ifs,0⟩::rest) scope pos] [] pos') (tV X.K (hG c_.length cw it tg tt b kN) E):=
 (kT (wo o) i hm (by kernel_rfl) (eZ (Lw o S r t hs) i8)).imp λZ H Q h=>by
  refine rW (Q:=λv I=>wN X.prog X.w X.K [v] I Q) u A B (λF H D=>⟨[],aq,.nil,λx a=>RJ a (by simp),λd hd=>RJ hd (by simp)⟩) (λos d e=>?_) h λF H' J D os d fr L N e q=>?_
  .obtain⟨ks,s,_⟩:=sd e
   exact⟨ks,s.2.1,s.2.2.2⟩
  .obtain⟨ks,s,rfl⟩:=sd e
   obtain⟨xs,O,nd,a,ha⟩:=N;have k:∀x∈xs,x.1∈ks:=λx h=>by
    obtain⟨l,f,e⟩:=s.2.2.2 _ (a x h).2;rw[gy e];exact f
   have hn:xs.length<64:=by
    have:=mD (m:=ks) nd λy c=>by
     obtain⟨x,h,rfl⟩:=Rp.mp c;exact k x h
    rw[QX]at this;have:=s.2.1;omega
   refine⟨D,xs,rfl,O,λx h=>?_,hn,λl R f n T=>?_⟩
   .obtain⟨b',e,q⟩:=rJ (a x h).1
    cases e;exact⟨q,(s.2.2.1 _ (k x h)).1⟩
   .have U:ks=R.map (·.1):=xQ s.1 T λy=>by
     refine⟨λc=>?_,λc=>?_⟩
     .obtain⟨k2,W,e⟩:=ha _ (s.2.2.1 y c).2
      rw[gy e];exact(n.map (·.1)).mem_iff.mpr W
     .obtain⟨x,h,rfl⟩:=Rp.mp ((n.map (·.1)).mem_iff.mp c)
      exact k x h
    rw[U]at q;exact q _ _ (fr.upd _ f) (cp.newL fr f (sQ λz Y=>(a z (n.mem_iff.mp Y)).1))
end
end L2.Pu
namespace L2.Hs
open PySem PySem.Spec PyProof.Rows
section
variable{prog:RT}{w:R8}{A:SB}{E:Ra->Rg->Prop}{s:Rg}
def F0(prog:RT)(w:R8)(h:SE)(k:f_)(a:Q6):Prop:=∃o n t b,h.get? a=on o/\o.cls= .type "tuple"/\o.data= .seq #[.int k.1 t,.ref b] n/\(hW prog w).is h k.2 b
theorem F0.ty(x:F0 prog w s.heap k a):s.TypeIs (.ref a) "tuple":=let ⟨o,_,_,_,ho,hc,_⟩:=x;⟨o,ho,hc⟩
theorem F0.inj(f:F0 prog w h x a)(g:F0 prog w h y a):x=y:=by
 obtain⟨o,n,t,b,i,_,hd,j⟩:=f;obtain⟨k,p,t',q,d,_,c,e⟩:=g;obtain rfl:o=k:=RO (i.symm.trans d);rw[hd]at c;simp only[Data.seq.injEq,Array.mk.injEq,UN,U8.injEq,RI.injEq]at c;obtain⟨⟨⟨l,_⟩,m,_⟩,_⟩:=c;subst m;exact Vg l ((hW prog w).inj j e)
theorem NV(k:List Int):hsh prog w k=hI k:=by unfold hsh hI;show tupleKeyHash _ _=_;unfold tupleKeyHash;rfl
theorem NW{k:f_}(g:A.units+1<Wu)(f:F0 prog w s.heap k a)(h:Q (hB Q4 k) {s with toks:=s.toks+(k.2.length+3)}):Rt (RN prog w) A (pyHash (.ref a)) Q E s:=by
 have c:=f.ty;obtain⟨o,n,t,b,i,_,hd,j⟩:=f;unfold pyHash
 first|unfold pyHashByItsType|skip
 refine My (wpAny_cRoomFor_or (.inr (by omega)) ?_);refine My (Uh c F.slot_tuple_hash.lookup ?_);show Rt _ _ (if(on (Value.builtin "tuple.__hash__")==on Sv)=Q4 then _ else _) Q E s;rw[Q8 (by rw[beq_builtin_none];exact Ri)];refine My (Uh c F.slot_tuple_hash.lookup ?_);show Rt _ _ (callSpecialIfBoundUnlessNone? (.ref a) "__hash__" _>>=_) Q E s;refine My (wpAny_callSpecialIfBoundUnlessNone?_slot c F.slot_tuple_hash (Sc F.slot_tuple_hash c F.entry_tuple_hash ?_ (F.args_tuple_hash_1 _)));show Rt _ _ (Builtin.Tuple.tupleItemsOf (.ref a)>>=_) _ _ s;refine My (XS i hd ?_);refine My ?_;rw[<-U2];simp only[UB,UJ];refine My (My (wpAny_pyHash_int ?_));refine Q0 (My (My ((hW prog w).pyHash g j ?_)));refine Q0 (Q0 ?_);have h':Q (hB Q4 k) {s with toks:=s.toks+1+(k.2.length+1)+1}:=by
  have e:s.toks+1+(k.2.length+1)+1=s.toks+(k.2.length+3):=by omega
  rw[e];exact h
 refine wpAny_ret_mkInt ?_;generalize l:Vq _=z;have m:hB Q4 k=reduceHash z:=by rw[<-l,show(hW prog w).hash k.2=hI k.2 from NV k.2];rfl
 rw[m]at h';show Rt _ _ (if(decide (-(2:Int)^63<=z)&&decide (z<2^63))=Q4 then _ else _) Q E _;unfold reduceHash at h';by_cases d:(decide (-(2:Int)^63<=z)&&decide (z<2^63))=Q4
 .rw[Rb d]
  rw[Rb d]at h';exact Q0 h'
 .rw[Q8 d]
  rw[Q8 d]at h';exact My (UZ (Q0 h'))
theorem eq_p(q:A.units+1<Wu)(d:F0 prog w s.heap x a)(f:F0 prog w s.heap y b)(h:Q (decide (x=y)) s):Rt (RN prog w) A (eqBool (.ref a) (.ref b)) Q E s:=by
 unfold eqBool
 try with_reducible refine SX ?_
 show Rt _ _ (if(RI a==RI b)=Q4 then _ else _) Q E s;by_cases c:(RI a==RI b)=Q4
 .rw[Rb c]
  have e:a=b:=by have:=eq_of_beq c;injection this
  subst e;obtain rfl:=d.inj f;exact My (UZ (Q0 (by simpa using h)))
 .rw[Q8 c]
  refine My (wpAny_richCompare_same_room (op:= .Eq) d.ty f.ty F.slot_tuple_eq
   (Sc F.slot_tuple_eq d.ty F.entry_tuple_eq ?_ (F.args_tuple_eq_2 _ _)) (by omega))
  have j:=f.ty;obtain⟨r,t,u,v,k,_,l,m⟩:=d;obtain⟨B,C,H,I,n,_,o,p⟩:=f;show Rt _ _ (XO (.ref b) (.type "tuple")>>=_) _ _ s;refine My (T7 j Xg ?_);simp only[TZ,RC,Sz];refine My (XS k l ?_);refine My (XS n o ?_);refine My ?_;simp only[Tk,Xw,UB,UJ];refine My (My ((W4 prog w).eqBool (a:=x.1) (b:=y.1) (by simp[W4,Y6]) (by simp[W4,Y6]) ?_));by_cases g:x.1=y.1
  .rw[Rv g]
   refine Q0 (My (My ((hW prog w).eqBool q m p ?_)));by_cases i:x.2=y.2
   .rw[Rv i]
    rw[Rv (Vg g i)]at h;exact Q0 (Q0 (Q0 ⟨_,rfl,(λe=>nomatch e),SL h⟩))
   .rw[RY i]
    rw[RY (λe=>i (R9 _ e))]at h;exact My (Q0 (Q0 (Q0 (Q0 ⟨_,rfl,(λe=>nomatch e),SL h⟩))))
  .rw[RY g]
   rw[RY (λe=>g (R9 _ e))]at h;exact My (Q0 (Q0 (Q0 (Q0 ⟨_,rfl,(λe=>nomatch e),SL h⟩))))
theorem Lm(f:(hW prog w).is s.heap k a)(h:Q Q4 s):Rt (RN prog w) A (Z4 (m+1) (.ref a)) Q E s:=by
 have g:=YD f;obtain⟨o,c,n,i,_,hd,j⟩:=f;unfold Z4;refine My (Uh g F.slot_tuple_eq.lookup ?_);show Rt _ _ (XO (.ref a) (.type "tuple")>>=_) _ _ s;refine My (T7 g Xg ?_);simp only[TZ,RC,Sz];refine My (Tp i hd ?_);refine My ?_;show Rt _ _ (forIn c _ _) _ _ s;rw[<-U2];refine WW _ (λrest r s'=>r.1=QY/\s'=s/\∀v∈rest,carriedByValue v=Q4) _ ?_ ?_ _ _ ⟨rfl,rfl,j.byValue⟩
 .rintro v rest r s' ⟨d,rfl,b⟩
  rw[eqIsQuiet_byValue _ (b v Q7)];refine My (Q0 ?_);simp only[TZ,RC,Sz];exact Q0 ⟨rfl,rfl,λu e=>b u (Q1 _ e)⟩
 .rintro⟨r1,l⟩ s' ⟨d,rfl,_⟩
  simp only at d;subst d;exact Q0 h
theorem Ln(c:F0 prog w s.heap k a)(h:Q Q4 s):Rt (RN prog w) A (Z4 8 (.ref a)) Q E s:=by
 have d:=c.ty;obtain⟨o,n,t,b,e,_,hd,f⟩:=c;unfold Z4;refine My (Uh d F.slot_tuple_eq.lookup ?_);show Rt _ _ (XO (.ref a) (.type "tuple")>>=_) _ _ s;refine My (T7 d Xg ?_);simp only[TZ,RC,Sz];refine My (Tp e hd ?_);refine My ?_;show Rt _ _ (forIn #[U8 k.1 t,RI b] _ _) _ _ s;rw[<-U2];simp only[UB,UJ];rw[eqIsQuiet_byValue _ (v:= .int k.1 t) rfl];exact My (My (Q0 (Q0 (My (My (Lm (m:=6) f (Q0 (Q0 (Q0 h)))))))))
def PKd(prog:RT)(w:R8):HeapKind prog w f_ where
 is:=F0 prog w
 hash:=hB Q4
 draws:=λk=>k.2.length+3
 room:=λA=>A.units+1<Wu
 inj:=λd e=>d.inj e
 keeps:=λx i hd hs=>by
  obtain⟨j,n,t,b,c,l,a,m⟩:=x;refine⟨j,n,t,b,(hs.2 _ ?_).trans c,l,a,(hW prog w).keeps m i hd hs⟩;rintro rfl;obtain rfl:=RO (c.symm.trans i);rw[hd]at a;exact nomatch a
 pyHash:=λf g h=>NW f g h
 eqBool:=λf d e h=>eq_p f d e h
 quiet:=λg h=>Ln g h
def FKd(prog:RT)(w:R8):HeapKind prog w f_ where
 is:=λh k a=>k.1=0/\(hW prog w).is h k.2 a
 hash:=hB Q9
 draws:=λk=>k.2.length+1
 room:=λA=>A.units+1<Wu
 inj:=λc d=>Vg (c.1.trans d.1.symm) ((hW prog w).inj c.2 d.2)
 keeps:=λx i hd hs=>⟨x.1,(hW prog w).keeps x.2 i hd hs⟩
 pyHash:=λf g h=>(hW prog w).pyHash (Nat.lt_of_succ_lt f) g.2 h
 eqBool:=λ{A E s x y a b Q} f c d h=>(hW prog w).eqBool (Nat.lt_of_succ_lt f) c.2 d.2 (by
  have e:decide (x.2=y.2)=decide (x=y):=by
   by_cases q:x.2=y.2
   .rw[Rv q,Rv (Vg (c.1.trans d.1.symm) q)]
   .rw[RY q,RY (λz=>q (R9 _ z))]
  rw[e];exact h)
 quiet:=λg h=>(hW prog w).quiet g.2 h
def KB(prog:RT)(w:R8):Bool->HeapKind prog w f_
 |true=>PKd prog w
 |false=>FKd prog w
theorem xg{b:Bool}:(KB prog w b).hash=hB b:=by cases b<;>rfl
theorem nX{b:Bool}{A:SB}(h:A.units+1<Wu):(KB prog w b).room A:=by cases b<;>exact h
def zv(K:RB)(H:Hp):Bool->f_->Q6->Prop
 |true,k,c=>∃e,il K H c [.int k.1,.ref e]/\il K H e (k.2.map V.int)
 |false,k,c=>k.1=0/\il K H c (k.2.map V.int)
abbrev XY(x:f_×Q6×V)(y:f_×Q6×Ra):Prop:=x.1=y.1/\x.2.1=y.2.1/\aT x.2.2 y.2.2
theorem qS:∀{xs:List (f_×Q6×V)} {ys:List (f_×Q6×Ra)},XM XY xs ys->xs.map (·.1)=ys.map (·.1)
 |_,_,.nil=>rfl
 |_,_,.cons h t=>by rw[Rk,Rk,h.1,qS t]
theorem zg:∀{xs:List (f_×Q6×V)} {ys:List (f_×Q6×Ra)},XM XY xs ys->∀y∈ys,∃x∈xs,XY x y
 |_,_,.nil,y,h=>by cases h
 |_,_,.cons (a:=a) h t,y,hy=>by
  rcases Rq.mp hy with rfl|hy
  .exact⟨a,Q7,h⟩
  .obtain⟨x,b,e⟩:=zg t y hy
   exact⟨x,Q1 _ b,e⟩
noncomputable def sA(xs:List (f_×Q6×V))(k:f_):Option V:=(xs.find? λx=>decide (x.1=k)).map (·.2.2)
theorem nc:∀{xs:List (f_×Q6×V)} {ys:List (f_×Q6×Ra)},XM XY xs ys->ij (sA xs k) ((YA ys k).map (·.2))
 |_,_,.nil=>by simp[sA,YA,ij]
 |_,_,.cons (a:=a) (b:=b) h t=>by
  have ih:=nc (k:=k) t;unfold sA YA at ih⊢;rw[UA,UA,<-h.1];by_cases q:a.1=k
  .rw[Rv q];exact h.2.2
  .rw[RY q];exact ih
theorem wq(h:XY x y):∀{xs:List (f_×Q6×V)} {ys:List (f_×Q6×Ra)},XM XY xs ys->XM XY (xs++[x]) (ys++[y])
 |_,_,.nil=> .cons h .nil
 |_,_,.cons h' t=> .cons h' (wq h t)
variable{X:Cx}{ba:List (Q6×RA)}{σ:St}{H:Hp}
theorem qt{b:Bool}(I:cy X ba σ H s)(h:zv X.K H b k c):(KB X.prog X.w b).is s.heap k c:=by
 cases b with
 |true=>
  obtain⟨e,a,d⟩:=h;obtain⟨its,f,⟨o,g,i,n,hd⟩,_⟩:=I.tuple a;obtain⟨j,l,rfl,⟨t,rfl⟩,rfl⟩:=tK f;exact⟨o,n,t,e,g,i,hd,nZ I d⟩
 |false=>exact⟨h.1,nZ I h.2⟩
theorem V_{ba:List (Q6×RA)}{σ:St}{H:Hp}{s:Rg}(I:cy X ba σ H s):XQ<s.heap.objs.size:=VV (by decide) (show TL<s.heap.objs.size from(I.mod.glob.keeps I.bk).lt)
theorem mW{b:Bool}(I:cy X ba σ H s)(d:H a=on (dW a b ep xs))(e:∀x∈xs,zv X.K H b x.1 x.2.1):∃ys,s.heap.DictOfH (KB X.prog X.w b) a ys/\XM XY xs ys/\ys.length<=RF/\(a==XQ)=Q9:=by
 obtain⟨o,es,ys,f,g,h,i,j,k,l,c⟩:zd a b ep xs s.heap:=(I.hok a _ d).1;refine⟨ys,⟨o,es,ep,f,g,h,?_,λy m=>?_,j⟩,c,l,k⟩
 .rw[i];unfold entryOfKey;rw[xg]
 .obtain⟨x,n,p,q,_⟩:=zg c y m
  rw[<-p,<-q];exact qt I (e x n)
def Nb(K:RB):R2:=λx y H Q=>∃a b ep xs k c v,x= .ref a/\y= .ref c/\H a=on (dW a b ep xs)/\(∀x∈xs,zv K H b x.1 x.2.1)/\zv K H b k c/\sA xs k=on v/\Q v H
theorem BJ(l:X.A.units+2<Wu):E_ X (Nb X.K):=by
 intro g i ba s σ H x y v u Q I m n h hs;obtain⟨a,b,ep,xs,k,c,o,rfl,rfl,t,B,C,J,q⟩:=h;cases m;cases n;obtain⟨ys,d,p,_,_⟩:=mW I t B;have f:=nc (k:=k) p;rw[J]at f;cases e:YA ys k with
 |none=>rw[e]at f;exact f.elim
 |some r=>
  rw[e]at f;exact W5 (x:=r.2) d.typeIs PySem.F.slot_dict_getitem.lookup (wpAny_getItem_heap (Q:=λj s'=>j=r.2/\EP X ba σ Q j s') (nX l) (qt I C) d e ⟨rfl,o,H,I.tok _,f,q⟩) hs
theorem u6{b:Bool}:Mks X newDict λD=>dW D b 0 []:=λba s σ H E Q I h=>SK (h _ (I.laid (t':=s.toks) (λ_ _ q=>Q3 _ q) (Rf _) (xA ⟨_,#[],[],Rw _ rfl,⟨rfl,rfl,rfl⟩,rfl,rfl,.nil,beq_eq_false_iff_ne.mpr (Ne.symm (Sg (V_ I))),Ss _,.nil⟩)) λb o e=>Q3 _ e)
def CJ(K:RB)(b:Bool)(D:Q6)(e f:TE):TB:=λσ H Q=>e σ H λx g=>f σ g λy a=>∃ep xs k c,x= .ref c/\a D=on (dW D b ep xs)/\(∀x∈xs,zv K a b x.1 x.2.1)/\zv K a b k c/\k∉xs.map (·.1)/\xs.length<RF/\∀d,Q σ (upd a D (dW D b d (xs++[(k,c,y)])))
theorem kU{D:Q6}{b:Bool}(L:X.A.units+1<Wu)(N:gens[d+1]?=QY)(O:PE X ke tk)(R:PE X ve tv)(a:X.xe=λ_ _=>False):PB X (.D ke ve) gens scope pos d D (CJ X.K b D tk tv):=by
 intro ba s σ H Q I h k Q' E' T;unfold hX;rw[N];show Rt _ _ (emC (.D ke ve) (.ref D) X.env>>=λ_=>k) _ _ _;unfold emC;have t:=O ba s σ H _ I h;rw[a]at t;refine My (My (Sh t (λu U W=>?_) λ_ _ f=>f.elim));obtain⟨v,Y,Z,r,q1⟩:=W;have B:=R ba U σ Y _ Z q1;rw[a]at B;refine My (SX (Sh B (λu2 s2 h4=>?_) λ_ _ f=>f.elim));obtain⟨v2,H2,i,r2,ep0,xs,j,c,rfl,C,hx,hc,hn,hl,q⟩:=h4;cases r;obtain⟨ys,dd,p,hz,l⟩:=mW i C hx;have F:=qS p;have e0:YA ys j=QY:=by
  cases e:YA ys j with
  |none=>rfl
  |some r=>
   exfalso
   unfold YA at e;cases m:ys.find? (λx=>decide (x.1=j))with
   |none=>rw[m]at e;cases e
   |some y=>
    have:=List.find?_some m;exact hn (by rw[F];exact Rp.mpr ⟨y,List.mem_of_find?_eq_some m,Sk this⟩)
 refine My (T6 (SX (wpAny_dictSet_heap (nX L) (qt i hc) dd (λh' d' sb=>?_) hz)));rw[storedH_new e0]at d';obtain⟨o,es,ep,J,g2,g3,g4,g5,g6⟩:=d';have g:ys.length=xs.length:=by rw[<-QX (f:=(·.1)),<-F,QX]
 refine T _ σ _ (i.write (by rw[C];trivial) (.inl rfl) (λb u n e=>(sb.2 b n).trans e) ⟨o,J⟩ (xA ⟨o,es,_,J,g2,g3,?_,g6,l,?_,wq ⟨rfl,rfl,r2⟩ p⟩)) (q ep)
 .rw[g4];unfold entryOfKey;rw[xg]
 .rw[Ro,g,Sd];omega
theorem EH{b:Bool}{k l a d:Expr}{f:List Expr}{rest:List S7}{scope:Scope}{pos:Vy}{i c_:List R3}{cw:List Nat}{g:TG}{tt:TT}{p:Q6->TB}{r:TI}(t:X.calm=Q4)(S:dk X scope i c_ cw)(u:PI X a d r)
  (y:∀(cl:List (R3×Q6)) (C:Q6) (j:List Q6) (s:Rg) (H:Hp),PG (aP X i scope cl C j s H) a g/\eA (aP X i scope cl C j s H) f tt/\∀D,PB (aP X i scope cl C j s H) (.D k l) (⟨a,d,f,0⟩::rest) scope pos 0 D (p D))
  (hs:∀x,Su d X.env x=T0 x:=by intro _;rfl):PE X (.DictComp k l (⟨a,d,f,0⟩::rest) scope pos) (lZ (λD=>dW D b 0 []) c_ cw r λD J=>dG J g tt (p D)):=by
 intro ba s σ H Q I h;refine Ur (use:=QY) rfl hs (S.clo I.ok) S.kind S.loc (Sh (u ba s σ H _ I h) (λv Y B=>Sh B (λF Z L=>?_) λ_ _ x=>x) λ_ _ x=>x);obtain⟨it,j,tn,J,H2,e,N,T,n,f2,q⟩:=L;subst e;refine hV (c:= .D k l) u6 (RR:=λacc C=>Za (RN X.prog X.w) X.A X.xe QY _ acc C) t S y N T n f2 q λD C s' O m R ns U W=>?_;exact⟨m,ns,λh' o=>⟨.ref D,O,R.letgo U o,rfl,W⟩⟩
end
end L2.Hs
namespace L2.Pu
open PySem PySem.Spec PyProof.Rows L2.Hs
def dK:Bool->f_->D
 |true,k=> .tup [.int k.1,j0 k.2]
 |false,k=>j0 k.2
def y_(b:Bool)(k:f_):Prop:=b=Q9->k.1=0
theorem N5{b:Bool}(a:y_ b k)(c:y_ b l)(h:dK b k=dK b l):k=l:=by
 cases b with
 |true=>
  simp only[dK,D.tup.injEq,UN,D.int.injEq,and_true]at h;exact Vg h.1 (gy (R9 D.tup h.2))
 |false=>exact Vg ((a rfl).trans (c rfl).symm) (gy h)
section
variable{K:RB}{F:Fx}{H:Hp}{E:St->XK}
theorem vP(h:cp K F H (.tup ds) v):∃a xs,v= .ref a/\TQ K F H a xs/\bb K F H ds xs:=by
 unfold cp at h;exact h
theorem pI(h:TQ K F H a xs)(hd:bb K F H ds xs):cp K F H (.tup ds) (.ref a):=by
 unfold cp;exact⟨a,xs,rfl,h,hd⟩
theorem TQ.sq(h:TQ K F H c xs):il K H c xs:=h.imp (·.2) id
theorem ik.s{b:Bool}(h:ik K F H b k c):zv K H b k c:=by
 cases b with
 |true=>
  obtain⟨e,a,d⟩:=h;exact⟨e,a.sq,d.sq⟩
 |false=>exact⟨h.1,h.2.sq⟩
theorem ik.z{b:Bool}(h:ik K F H b k c):y_ b k:=λe=>by subst e;exact h.1
theorem tY{b:Bool}(f:y_ b k)(h:cp K F H (dK b k) v):∃c,v= .ref c/\ik K F H b k c:=by
 cases b with
 |true=>
  obtain⟨a,xs,rfl,q,dl⟩:=vP h;obtain⟨g,i,rfl,d1,d2⟩:=bb.two dl;cases d1.int;obtain⟨e,ys,rfl,q2,d⟩:=vP d2;cases bb.ints k.2 d;exact⟨a,rfl,e,q,q2⟩
 |false=>
  obtain⟨a,xs,rfl,q,dl⟩:=vP h;cases bb.ints k.2 dl;exact⟨a,rfl,f rfl,q⟩
theorem Qc{b:Bool}(h:ik K F H b k c):cp K F H (dK b k) (.ref c):=by
 cases b with
 |true=>
  obtain⟨e,a,d⟩:=h;exact pI a (bb.cons rfl (bb.cons (pI d (bb.ofInts k.2)) bb.nil))
 |false=>exact pI h.2 (bb.ofInts k.2)
abbrev x_(b:Bool)(p:f_×D):D:= .tup [dK b p.1,p.2]
def Dk(b:Bool)(kvs:List (f_×D))(os:List D):Prop:=os=kvs.map (x_ b)/\(kvs.map (·.1)).Nodup/\kvs.length<=RF/\∀p∈kvs,y_ b p.1
theorem LC{b:Bool}{p q:f_×D}(a:y_ b p.1)(c:y_ b q.1)(h:x_ b p=x_ b q):p=q:=by
 simp only[x_,D.tup.injEq,UN,and_true]at h;exact Vg (N5 a c h.1) h.2
theorem kW{b:Bool}:∀{l m:List (f_×D)},(∀p∈l,y_ b p.1)->(∀p∈m,y_ b p.1)->l.map (x_ b)=m.map (x_ b)->l=m
 |[],[],_,_,_=>rfl
 |[],_::_,_,_,h=>by cases h
 |_::_,[],_,_,h=>by cases h
 |p::l,q::m,hl,hm,h=>by
  rw[Rk,Rk,UN]at h;rw[LC (hl p Q7) (hm q Q7) h.1,kW (λx a=>hl x (Q1 _ a)) (λx a=>hm x (Q1 _ a)) h.2]
theorem Dk.eq{b:Bool}{os:List D}(x:Dk b l os)(y:Dk b m os):l=m:=kW x.2.2.2 y.2.2.2 (x.1.symm.trans y.1)
open Classical in
def lC(b:Bool)(os:List D):Option D:=if h:∃kvs,Dk b kvs os then on (.dct b (h.choose.map (·.1)) (h.choose.map (·.2)))else QY
theorem xB{b:Bool}{kvs:List (f_×D)}{os:List D}(h:Dk b kvs os):lC b os=on (.dct b (kvs.map (·.1)) (kvs.map (·.2))):=by
 have q:∃kvs,Dk b kvs os:=⟨kvs,h⟩;unfold lC;rw[dif_pos q,q.choose_spec.eq h]
theorem vS{b:Bool}{os:List D}(h:lC b os=on d):∃kvs,Dk b kvs os/\d= .dct b (kvs.map (·.1)) (kvs.map (·.2)):=by
 unfold lC at h;split at h
 .rename_i q
  cases h;exact⟨_,q.choose_spec,rfl⟩
 .cases h
noncomputable def RD(K:RB)(b:Bool):AR where
 R:=λF H D as=>∃ep,∃a:List ((f_×Pu.D)×Q6×V),as=a.map (λz=>x_ b z.1)/\H D=on (dW D b ep (a.map λz=>(z.1.1,z.2)))/\∀z∈a,ik K F H b z.1.1 z.2.1/\cp K F H z.1.2 z.2.2
 Z:=λl=>∃kvs more,Dk b kvs (l++more)
 tr:=λh k t=>by
  obtain⟨ep,a,e,f,c⟩:=h;exact⟨ep,a,e,k _ f,λz d=>⟨(c z d).1.tr t,cp.tr t _ _ (c z d).2⟩⟩
 zp:=λh=>by
  obtain⟨kvs,more,h⟩:=h;exact⟨kvs,_,by rw[<-Sm];exact h⟩
def GG(f g:FD):FL:=λδ=>M.bind (f δ) λk=>M.bind (g δ) λv=>M.ret [.tup [k,v]]
theorem o5{b:Bool}{D:Q6}:eY K (RD K b) D (CJ K b D (tV K f E0) (tV K g E0)) (GG f g):=λF H δ β I σ as os Q fr hA B J hR e hz k=>by
 obtain⟨ep,d,rfl,hD,C⟩:=hR;obtain⟨U,β1,e1,e2⟩:=M.bind_inv e;obtain⟨W,β2,e3,e4⟩:=M.bind_inv e2;cases e4;obtain⟨kvs,more,L,X,z3,Y⟩:=hz;have N:∀p∈d.map (·.1),y_ b p.1:=λp r=>by
  obtain⟨z,h,rfl⟩:=Rp.mp r;exact(C z h).1.z
 have l1:d.length<kvs.length:=by
  have:=R9 XJ L;simp at this;omega
 have ez:(d.map (·.1)).map (x_ b)=(kvs.take d.length).map (x_ b):=by
  rw[Xd,<-L,Sm,List.take_append_of_le_length (by simp),TY (by simp),Rc];rfl
 have ek:=kW N (λp r=>Y p (Zq r)) ez;have O:x_ b kvs[d.length]= .tup [U,W]:=by
  have Z:(kvs.map (x_ b))[d.length]?=on (.tup [U,W]):=by
   rw[<-L,Sm,Tv (by simp)];simp
  rw[Q5,Q2 l1]at Z;exact RO Z
 have u:=Y _ (R1 l1);generalize r:kvs[d.length]=p at O u;obtain⟨j,vv⟩:=p;simp only[x_,Pu.D.tup.injEq,UN,and_true]at O;obtain⟨rfl,rfl⟩:=O;have y:j∉d.map (·.1.1):=λhm=>by
  have h2:kvs.take d.length++(j,vv)::kvs.drop (d.length+1)=kvs:=by
   rw[<-r,<-R7 l1,T4]
  rw[<-h2,<-ek,RU,Rk,Xv]at X;refine X.2.2 j ?_ j Q7 rfl;rw[Rc];exact hm
 refine⟨F,δ,β,fr,J,E0.run e1 λv H1 t hv=>⟨F,δ,β1,t.fr,J.tr (t.tr fr),E0.run e3 λv2 H2 m R=>?_⟩⟩;have T:=cp.tr (m.tr t.fr) _ _ hv;obtain⟨c,rfl,kc⟩:=tY u T;have i:=(t.tr fr).trans (m.tr t.fr);refine⟨ep,_,j,c,rfl,m.kp D _ (t.kp D _ hD B) B,λx h=>?_,kc.s,?_,?_,λA=>?_⟩
 .obtain⟨z,h',rfl⟩:=Rp.mp h
  exact((C z h').1.tr i).s
 .rw[Rc];exact y
 .rw[QX];omega
 have tD:lQ F D H2 (upd H2 D (dW D b A ((d.map λz=>(z.1.1,z.2))++[(j,c,v2)]))) I:=by
  refine⟨λa o h n _=>by rw[b_ n];exact h,λa h q=>?_,fr.bgA,λb l q=>?_⟩
  .by_cases z:a=D
   .subst z;rw[aq]at q;cases q
   .rw[b_ z]at q;exact m.fr.occ a h q
  .rw[b_ (B b l q).1.symm,b_ (B b l q).2.symm]
   exact m.fr.bag b l q
 have tt:=tD.tr m.fr hA;refine k σ _ (((t.trans m).toD D).trans tD) (J.tr (i.trans tt)) ⟨A,d++[((j,vv),c,v2)],by rw[RU];rfl,by rw[RU];exact aq,λz h=>?_⟩;rcases S4.mp h with h|h
 .exact⟨(C z h).1.tr (i.trans tt),cp.tr (i.trans tt) _ _ (C z h).2⟩
 .cases RP.mp h
  exact⟨kc.tr tt,cp.tr tt _ _ R⟩
theorem vQ{F:Fx}{H:Hp}{α:Type}{f:α->D}{g:α->V}:∀{a:List α},(∀z∈a,cp K F H (f z) (g z))->bb K F H (a.map f) (a.map g)
 |[],_=>bb.nil
 |z::a,h=>bb.cons (h z Q7) (vQ λx b=>h x (Q1 z b))
end
theorem vO{K:RB}{E:St->XK}{kb:Bool}{c_:List R3}{cw:List Nat}{g:TG}{f:Q6->TB}{it:FL}{tg:m_}{tt:Dn->M Bool}{b:FL}(j:dH K g tg)(k:eX tg)(l:∀D,eY K (RD K kb) D (f D) b){i:St}{H:Hp}{Q:VK}(h:tV K (hG c_.length cw it tg tt b (lC kb)) E i H Q):
  lZ (λD=>dW D kb 0 []) c_ cw (iV K it E) (λD J=>dG J g (iv K tt E0) (f D)) i H Q:=by
 refine rW j k l (λF H D=>⟨0,[],rfl,aq,λx a=>RJ a (by simp)⟩) (λos d e=>?_) h λF v m D os d fr c n e q=>?_
 .obtain⟨kvs,s,_⟩:=vS e
  exact⟨kvs,[],by rw[RX];exact s⟩
 .obtain⟨kvs,s,rfl⟩:=vS e
  obtain⟨ep,o,rfl,r,a⟩:=n;have t:kvs=o.map (·.1):=kW s.2.2.2 (λp u=>by
   obtain⟨z,h,rfl⟩:=Rp.mp u;exact(a z h).1.z) (by rw[<-s.1,Rc];rfl)
  refine q _ _ (To.refl fr) ?_;unfold cp;subst t;refine⟨D,ep,_,rfl,⟨c,r⟩,by simp,λx h=>?_,?_⟩
  .obtain⟨z,h',rfl⟩:=Rp.mp h
   exact(a z h').1
  .rw[Rc,Rc]
   exact vQ λz h=>(a z h).2
section
variable{X:Cx}{E:St->XK}{ke ve cx iter:Expr}{ifs:List Expr}{rest:List S7}{scope:Scope}{pos:Vy}{Nc c_:List R3}{cw:List Nat}{g:TG}{tb:Q6->TB}
theorem KY{kb:Bool}(c:X.calm=Q4)(S:dk X scope Nc c_ cw)(d:PI X cx iter (iV X.K it E))
  (e:∀(cl:List (R3×Q6)) (C:Q6) (a:List Q6) (s:Rg) (H:Hp),PG (aP X Nc scope cl C a s H) cx g/\eA (aP X Nc scope cl C a s H) ifs (iv X.K tt E0)/\∀D,PB (aP X Nc scope cl C a s H) (.D ke ve) (⟨cx,iter,ifs,0⟩::rest) scope pos 0 D (tb D))
  (f:dH X.K g tg) (i:eX tg) (j:∀D,eY X.K (RD X.K kb) D (tb D) b) (hs:∀x,Su iter X.env x=T0 x:=by intro _;rfl):
  PE X (.DictComp ke ve (⟨cx,iter,ifs,0⟩::rest) scope pos) (tV X.K (hG c_.length cw it tg tt b (lC kb)) E):=
 (EH (b:=kb) c S d e hs).imp λk H Q h=>vO f i j h
noncomputable def hZ:List D->Option (List Int)
 |[]=>on []
 | .int i::r=>(hZ r).map (i::·)
 |_=>QY
def ii:Bool->D->Option f_
 |false,.tup ds=>(hZ ds).map λl=>(0,l)
 |true,.tup [.int i,.tup ds]=>(hZ ds).map λl=>(i,l)
 |_,_=>QY
theorem qV:∀(l:List Int),hZ (l.map .int)=on l
 |[]=>rfl
 |i::l=>by show(hZ (l.map .int)).map _=_;rw[qV l];rfl
theorem lp:∀{ds:List D} {l:List Int},hZ ds=on l->ds=l.map .int
 |[],l,h=>by cases h;rfl
 | .int i::r,l,h=>by
  have h':(hZ r).map (i::·)=on l:=h;cases q:hZ r with
  |none=>rw[q]at h';cases h'
  |some m=>rw[q]at h';cases h';rw[lp q];rfl
 | .non::_,_,h=>by cases h
 | .bl _::_,_,h=>by cases h
 | .str _::_,_,h=>by cases h
 | .ty _::_,_,h=>by cases h
 | .txt::_,_,h=>by cases h
 | .lst _::_,_,h=>by cases h
 | .tup _::_,_,h=>by cases h
 | .scr _::_,_,h=>by cases h
 | .obj _ _ _::_,_,h=>by cases h
 | .bag::_,_,h=>by cases h
 | .adr _::_,_,h=>by cases h
 | .dct _ _ _::_,_,h=>by cases h
theorem rC{b:Bool}(h:y_ b k):ii b (dK b k)=on k:=by
 cases b with
 |true=>show(hZ _).map _=_;rw[qV];rfl
 |false=>show(hZ _).map _=_;rw[qV];exact R9 on (Vg (h rfl).symm rfl)
theorem o7{b:Bool}(h:ii b d=on k):y_ b k/\d=dK b k:=by
 unfold ii at h;split at h
 .rename_i ds
  cases q:hZ ds with
  |none=>rw[q]at h;cases h
  |some l=>rw[q]at h;cases h;exact⟨λ_=>rfl,by rw[lp q];rfl⟩
 .rename_i i ds
  cases q:hZ ds with
  |none=>rw[q]at h;cases h
  |some l=>rw[q]at h;cases h;exact⟨λz=>(by cases z),by rw[lp q];rfl⟩
 .cases h
noncomputable def lw(ks:List f_)(vs:List D)(k:f_):Option D:=((ks.zip vs).find? λp=>decide (p.1=k)).map (·.2)
variable{K:RB}{F:Fx}{H:Hp}
def RelD(K:RB)(F:Fx)(H:Hp):Option D->Option V->Prop
 |none,v=>v=QY
 |some d,v=>∃u,v=on u/\cp K F H d u
theorem qp:∀{xs:List (f_×Q6×V)} {vs:List D},bb K F H vs (xs.map (·.2.2))->RelD K F H (lw (xs.map (·.1)) vs k) (sA xs k)
 |[],vs,_=>by unfold lw sA;rfl
 |x::xs,vs,h=>by
  cases vs with
  |nil=>cases h
  |cons d vs=>
   obtain⟨u,r,e,a,b⟩:=h;rw[Rk,UN]at e;obtain⟨rfl,rfl⟩:=e;have ih:=qp (k:=k) b;unfold lw sA at ih⊢;rw[Rk,Tk,UA,UA];by_cases q:x.1=k
   .rw[Rv q];exact⟨_,rfl,a⟩
   .rw[RY q];exact ih
def GB:D->D->Option D
 | .dct b ks vs,y=>(ii b y).bind (lw ks vs)
 |_,_=>QY
theorem Qs:bf K (Nb K) GB:=λF H β Q d1 d2 d v y fr h i e k=>by
 unfold GB at e;split at e
 .rename_i b ks vs
  cases q:ii b d2 with
  |none=>rw[q]at e;cases e
  |some f=>
   rw[q]at e;have j:lw ks vs f=on d:=e;obtain⟨l,rfl⟩:=o7 q;obtain⟨c,rfl,m⟩:=tY l i;unfold cp at h;obtain⟨a,ep,xs,rfl,n,rfl,o,dl⟩:=h;have:=qp (k:=f) dl;rw[j]at this;obtain⟨u,p,r⟩:=this;exact⟨a,b,ep,xs,f,c,u,rfl,rfl,n.2,λx t=>(o x t).s,m.s,p,k u H (To.refl fr) r⟩
 .cases e
def P5(K:RB):V->List V->Hp->VK->Prop:=λx ys H Q=>∃a b ep xs k c z,x= .ref a/\ys=[.ref c,z]/\H a=on (dW a b ep xs)/\(∀x∈xs,zv K H b x.1 x.2.1)/\zv K H b k c/\Q ((sA xs k).getD z) H
variable{o e:Expr}{es:List Expr}{apos cpos:Vy}
theorem LM(n:X.A.units+2<Wu):MtR X "dict.get" (P5 X.K):=by
 intro l s N H x xs v us Q I r t h;obtain⟨a,b,ep,ys,k,c,z,rfl,rfl,u,B,C,q⟩:=h;cases r;obtain⟨O,J,rfl,r1,L⟩:=tK t;cases r1;obtain⟨j,d,p,_,hs⟩:=mW I u B;have f:=nc (k:=k) p;refine call_meetsIn Yy d.typeIs PySem.F.entry_dict_get (PySem.F.args_dict_get_3 _ _ _) (meetsH_dict_get_default (KB X.prog X.w b) a c hs J) ⟨nX n,k,j,qt I C,d,_,H,I.tok _,?_,q⟩;cases m:sA ys k with
 |none=>
  rw[m]at f;cases i:(YA j k).map (·.2)with
  |none=>exact L
  |some w=>rw[i]at f;exact f.elim
 |some y=>
  rw[m]at f;cases i:(YA j k).map (·.2)with
  |none=>rw[i]at f;exact f.elim
  |some w=>rw[i]at f;exact f
def FZ(f:FD)(g:FL):FD:=λδ=>M.bind (f δ) λd=>match d with
 | .dct b ks vs=>M.bind (g δ) λas=>M.ofO (match as with
  |[k,z]=>(ii b k).map λk=>(lw ks vs k).getD z
  |_=>QY)
 |_=>M.fail
theorem PN{g:FL}(hu:X.A.units+2<Wu)(ho:PE X o (tV X.K f E))(ha:PA X (e::es) (i0 X.K g E))
  (n:Ve o "get" X.env (Sw o X.env)=Sw o X.env:=by rfl)
  (B:((Tx cpos (Rm (e::es) X.env)).all (λx=>!x.1)&&(Uj cpos (Th [] X.env)).all (λx=>x.1.isSome)
   &&decide ((e::es).length+([]:List WH).length+(if([]:List WH).isEmpty then 0 else 1)<30))=Q4:=by rfl)
  (p:(apos.endLine==cpos.line)=Q4:=by rfl) (hs:Rm (e::es) X.env=(Q9,Sw e X.env)::Rm es X.env:=by rfl) (m:(Tx cpos (Rm es X.env)).any (·.1)=Q9:=by rfl):
  PE X (.Call (.Attribute o "get" apos) (e::es) [] cpos) (tV X.K (FZ f g) E):=by
 intro j s J H Q I h;obtain⟨F,δ,β,fr,vk,h⟩:=h;refine wpAny_Call_method_late n B p rfl (ee (ho j s J H _ I ⟨F,δ,β,fr,vk,(run.bind (R:=cp X.K F) h)⟩) λv s1 h1=>?_);obtain⟨x,H1,I1,r1,d,β1,t,hd,q1⟩:=h1;have fail:∀{N:M D},N=M.fail->run (cp X.K F) F E J N H1 Q β1->False:=λ{N} e r=>by
  obtain⟨r,β',e',_⟩:=r;rw[e]at e';cases e'
 cases d<;>first|exact(fail rfl q1).elim|skip
 rename_i b ks vs;have C:=hd;unfold cp at C;obtain⟨a,ep,xs,rfl,O,rfl,hk,dl⟩:=C;cases r1;obtain⟨ys,dd,_,_,_⟩:=mW I1 O.2 λx T=>(hk x T).s;refine⟨"dict","dict.get",Yl,Yy,PySem.F.type_dict_get,dd.typeIs,λb e=>?_,?_⟩
 .cases e
  obtain⟨ob,_,_,g1,g2,_⟩:=dd;exact⟨ob,g1,g2.2.1⟩
 have hA:=ha cpos j s1 J H1 _ I1 ⟨F,δ,β1,t.fr,vk.tr (t.tr fr),run.bind (R:=bb X.K F) q1⟩;rw[hs]at hA⊢;refine WD (by show(Q9||(Tx cpos (Rm es X.env)).any (·.1))=Q9;rw[m]<;>rfl) (YW (ee hA λus s2 h2=>?_))
 obtain⟨ws,L,I2,r2,as,β2,t2,U,q2⟩:=h2;obtain⟨z,y,kf⟩:=run.ofO q2;have tt:=t2.tr t.fr;split at y
 .rename_i k zz
  cases W:ii b k with
  |none=>rw[W]at y;cases y
  |some i=>
   rw[W]at y;cases y;obtain⟨hz,rfl⟩:=o7 W;obtain⟨w1,Y,rfl,Z,hw2⟩:=bb.two U;obtain⟨c,rfl,kc⟩:=tY hz Z;have dl2:=bb.tr tt _ _ dl;have hk2:∀x∈xs,zv X.K L b x.1 x.2.1:=λx T=>((hk x T).tr tt).s;refine LM hu j s2 J L (.ref a) [.ref c,Y] (.ref a) us Q I2 rfl r2 ⟨a,b,ep,xs,i,c,Y,rfl,rfl,tt.kp a _ O.1 O.2,hk2,kc.s,?_⟩;refine kf _ L (To.refl t2.fr) ?_;show cp X.K F L ((lw (xs.map (·.1)) vs i).getD zz) ((sA xs i).getD Y);have l:=qp (k:=i) dl2;cases q:lw (xs.map (·.1)) vs i with
   |none=>
    rw[q]at l;have l':sA xs i=QY:=l;rw[l'];exact hw2
   |some d=>
    rw[q]at l;obtain⟨u,l',hu'⟩:=l;rw[l'];exact hu'
 .cases y
end
end L2.Pu
namespace L2.Hs
open PySem PySem.Spec PyProof.Rows
section
variable{prog:RT}{w:R8}{A:SB}{E:Ra->Rg->Prop}{s:Rg}{d it v:Q6}{od:RA}{es:Array U3}{ep i:Nat}{ok ov:Ra}
theorem y7(a:s.TypeIs (.ref d) "dict")(hd:(d==XQ)=Q9)(h:Q (.ref s.heap.objs.size) {s with heap:=s.heap.push {cls:= .type "dict_items",data:= .fields #[.ref d]}}):Rt (RN prog w) A (XN (.builtin "dict.items") [.ref d]) Q E s:=by
 refine Sc F.slot_dict_items a F.entry_dict_items ?_ (F.args_dict_items_1 _);unfold Builtin.«dict.items»;refine My ?_;unfold Builtin.Dict.noArgs;refine My (wpAny_notOrdered_dict a ?_);show Rt _ _ (T0 d) _ _ s;refine Q0 ?_;show Rt _ _ (XH d>>=_) _ _ s;unfold XH;rw[Q8 (by rw[hd];exact Ri)];exact My (Q0 (My (SK (Q0 ⟨_,rfl,h⟩))))
theorem yE(a:s.heap.IsItemsView v d)(e:s.heap.get? d=on od)(hd:od.data= .dict es ep)
  (h:Q (.ref s.heap.objs.size) {s with heap:=s.heap.push {cls:= .type "dict_itemiterator",data:= .fields #[.none,.bool Q9,.ref d,.int 0 0,.int es.size 0,.int ep 0,.none,.none]}}):Rt (RN prog w) A (Xn (.ref v)) Q E s:=by
 obtain⟨o,b,f,c⟩:=id a;refine WL a.typeIs Zw (Sc Zw a.typeIs F.entry_dict_items_iter ?_ (F.args_dict_items_iter_1 _));unfold Builtin.«dict_items.__iter__»;refine My (Q0 (My ?_));unfold Builtin.Dict_items.dictOf;refine My (SS b c (x:= .ref d) rfl (Q0 (My ?_)));unfold Builtin.Dict_items.newIterator;refine My (Ye e hd (My (YK e hd ?_)));simp only[show U1 "dict_itemiterator"=Q4 from by decide,SA];refine SK (Q0 ⟨_,rfl,"dict_itemiterator",_,⟨_,Rw _ rfl,rfl⟩,Te.lookup,?_⟩)
  (by simp only[sizeOk,V3,Rx,Ro,Rl,XV,TM];omega)
 simpa[Vv,V3]using h
theorem yC(a:Wr s.heap it d i es.size ep ok ov)(h:Q (.ref it) s):Rt (RN prog w) A (Xn (.ref it)) Q E s:=by
 have c:s.TypeIs (.ref it) "dict_itemiterator":=⟨_,a,rfl⟩;refine WL c Yj (Sc Yj c (b:=Builtin.«dict_keyiterator.__iter__») (Zb (id':="dict_keyiterator.__iter__") (by kernel_rfl) rfl (by decide +kernel) (by kernel_rfl)) ?_ (F.args_dict_itemiterator_iter_1 _));show Rt _ _ (ret (.ref it)) _ _ s;exact Q0 ⟨_,rfl,"dict_itemiterator",_,c,Te.lookup,h⟩
theorem yD{e:U3}(m:Wr s.heap it d i es.size ep ok ov)(ho:s.heap.get? d=on od)(hd:od.data= .dict es ep)(Y:es[i]?=on e)
  (hQ:∀h',IsItemIterOut h' it d (i+1) es.size ep e.key e.val s.heap.objs.size->h'.get? s.heap.objs.size=on {cls:= .type "tuple",data:= .seq #[e.key,e.val]}->h'.objs.size=s.heap.objs.size+1->
   (∀b o,b≠it->s.heap.get? b=on o->h'.get? b=on o)->Q (on (.ref s.heap.objs.size)) {s with heap:=h'}):Rt (RN prog w) A (Vu (.ref it)) Q E s:=by
 obtain⟨n,g,T,U,os⟩:=s;have u:Shared.TypeIs ⟨n,g,T,U,os⟩ (.ref it) "dict_itemiterator":=⟨_,m,rfl⟩;have W:i<es.size:=by
  rcases VU i es.size with h|h
  .exact h
  .simp[Ut h]at Y
 obtain rfl:es[i]=e:=by rw[V2 W]at Y;exact RO Y
 unfold Vu;refine My (VT (wpAny_callSpecial?_slot (name:=TU "__next__") u Te
  (Sc Te u X2 ?_ (XT _))))
 refine My (Q0 (My (My ?_)))
 first|refine My (Uz u (Q0 ?_))|refine My (U9 u (Q0 ?_))
 refine My (Xo m rfl ?_);simp only[show U1 "dict_itemiterator"=Q4 from by decide,SA];show Rt _ _ (if(RI d==Sv)=Q4 then _ else _) _ _ _;rw[Q8 (show ¬((RI d==Sv)=Q4)from Ri)];refine My (Q0 (My (Ye ho hd ?_)));rw[Q8 (by simp)];refine My (Q0 (My (YK ho hd ?_)));rw[Q8 (by simp)];refine Q0 ?_;simp only[show ¬((i:Int)<0)from by omega,Sz,SQ,V2 W];refine My ?_
 first|refine My (Uz u (Q0 ?_))|refine My (U9 u (Q0 ?_))
 refine My (W6 u ?_);show Rt _ _ (Zf (.ref it) 3 (Vv ((i:Int)+1))>>=_) _ _ ⟨n,g,T,U,os⟩;refine My (SU m (by simp) λa c f=>?_)
 replace f:RQ it n a:=f
 replace c:Wr a it d (i+1) es.size ep ok ov:=by
  have e:((i+1:Nat):Int)=(i:Int)+1:=by omega
  unfold Wr;rw[e];simpa[Vv]using c
 have l:Shared.TypeIs ⟨a,g,T,U,os⟩ (.ref it) "dict_itemiterator":=⟨_,c,rfl⟩;refine My (SX (My (W6 l (My (W6 l ?_)))));show Rt _ _ (Wj (.ref it) 6 es[i].key es[i].val) _ _ ⟨a,g,T,U,os⟩;unfold Wj;refine My (Zi ?_);have j:Wr (a.push {cls:= .type "tuple",data:= .seq #[es[i].key,es[i].val]}) it d (i+1) es.size ep ok ov:=Q3 _ c;have k:a.objs.size=n.objs.size:=f.1;have Z:it≠n.objs.size:=Sg (RM m);have y:(a.push {cls:= .type "tuple",data:= .seq #[es[i].key,es[i].val]}).get? n.objs.size=on {cls:= .type "tuple",data:= .seq #[es[i].key,es[i].val]}:=by rw[<-k];exact Rw _ rfl
 have B:(a.push {cls:= .type "tuple",data:= .seq #[es[i].key,es[i].val]}).objs.size=n.objs.size+1:=by rw[S3,k]
 have C:∀b o,b≠it->n.get? b=on o->(a.push {cls:= .type "tuple",data:= .seq #[es[i].key,es[i].val]}).get? b=on o:=λb o X e=>Q3 _ (f.extBut b o X e);generalize a.push {cls:= .type "tuple",data:= .seq #[es[i].key,es[i].val]}=h₂ at*;show Rt _ _ (V4 (.ref it)>>=_) _ _ ⟨h₂,g,T,U,os⟩;rw[k];refine My ?_;unfold V4;refine My (SS j rfl (x:= .none) rfl (Q0 ?_));simp only[SA];refine My (SS j rfl (x:=ok) rfl (My (SS j rfl (x:=ov) rfl ?_)));refine My (SU j (by simp) λp F H=>?_);refine My (SU F (by simp) λq I J=>?_);refine My (SU I (by simp) λr L N=>?_);refine My (SU L (by simp) λt O R=>?_);have sb:=((show RQ it h₂ p from H).trans (show RQ it p q from J)).trans ((show RQ it q r from N).trans (show RQ it r t from R));exact My (YB (Q0 (Q0 ⟨_,rfl,Q0 (hQ t O (sb.extBut _ _ Z.symm y) (by rw[sb.1,B]) λb o X e=>sb.extBut b o X (C b o X e))⟩)))
theorem BK(g:A.handled=QY)(c:Wr s.heap it d i es.size ep ok ov)(f:s.heap.get? d=on od)(hd:od.data= .dict es ep)(h:es.size<=i)
  (j:∀h',XI it s.heap h'->Q QY {s with heap:=h'}):Rt (RN prog w) A (Vu (.ref it)) Q E s:=by
 have e:s.TypeIs (.ref it) "dict_itemiterator":=⟨_,c,rfl⟩;unfold Vu;refine My (VT (wpAny_callSpecial?_slot (name:=TU "__next__") e Te
  (Sc Te e X2 ?_ (XT _))))
 refine My (Q0 (My (My ?_)))
 first|refine My (Uz e (Q0 ?_))|refine My (U9 e (Q0 ?_))
 refine My (Xo c rfl ?_);simp only[show U1 "dict_itemiterator"=Q4 from by decide,SA];show Rt _ _ (if(RI d==Sv)=Q4 then _ else _) _ _ s;rw[Q8 (show ¬((RI d==Sv)=Q4)from Ri)];refine My (Q0 (My (Ye f hd ?_)));rw[Q8 (by simp)];refine My (Q0 (My (YK f hd ?_)));rw[Q8 (by simp)];refine Q0 ?_;simp only[show ¬((i:Int)<0)from by omega,Sz,SQ,Ut h];refine My ?_
 first|refine My (Uz e (Q0 ?_))|refine My (U9 e (Q0 ?_))
 show Rt _ _ (Zf (.ref it) 2 .none>>=_) _ _ s;refine My (Vw c rfl (by simp) ?_);show Rt _ _ (newExc (.type "StopIteration") []>>=_) _ _ _;refine My ?_;simp only[newExc,newTuple];refine My (SK ?_ (by size_fits));refine My (m:=Vt _ _) (UY (a:=Sv) (by first|rfl|(simp only[Vt];rfl)) ?_)
 refine SK ?_ (by size_fits);simp only[raiseNew];refine My (ZM ?_);rw[show A.in1.handled=QY from g];refine My (Q0 (wpAny_throw ?_));refine My (T7 (T:="StopIteration") (b:=Q4) ⟨_,Rw _ rfl,rfl⟩ Zd ?_);exact Q0 (j _ (((SZ ..).extBut.push _).push _))
end
end L2.Hs
namespace L2.Pu
open PySem PySem.Spec PyProof.Rows L2.Hs
noncomputable def Iti(a:Q6)(ep n:Nat):It:=
 ⟨λi H=>∃b xs,H a=on (dW a b ep xs)/\xs.length=n/\i<n,
  λi H v c=>∃p x,H p=QY/\v= .ref p/\c=upd H p (.tup [.ref x.1,x.2])/\∀b xs,H a=on (dW a b ep xs)->(xs[i]?).map (·.2)=on x,
  λi H=>∃b xs,H a=on (dW a b ep xs)/\xs.length=n/\i=n⟩
theorem JB:∀{xs:List (f_×Q6×V)} {ys:List (f_×Q6×Ra)} {i:Nat} {y:f_×Q6×Ra},XM XY xs ys->ys[i]?=on y->∃x,xs[i]?=on x/\XY x y
 |_,_,0,_,.cons h t,e=>by cases e;exact⟨_,rfl,h⟩
 |_,_,i+1,_,.cons h t,e=>JB (i:=i) t e
 |_,_,0,_,.nil,e=>by cases e
 |_,_,_+1,_,.nil,e=>by cases e
section
variable{X:Cx}{ba:List (Q6×RA)}{σ:St}{H:Hp}{s:Rg}{a:Q6}{b:Bool}{ep i:Nat}{xs:List (f_×Q6×V)}
theorem qI(I:cy X ba σ H s)(h:H a=on (dW a b ep xs)):∃(o:RA) (es:Array U3),s.heap.get? a=on o/\o.data= .dict es ep/\es.size=xs.length/\o.ExactDict/\(a==XQ)=Q9/\∀(i:Nat) (e:U3),es[i]?=on e->∃x,xs[i]?=on x/\e.key= .ref x.2.1/\aT x.2.2 e.val:=by
 obtain⟨o,es,ys,j,k,l,d,u,m,v,g⟩:zd a b ep xs s.heap:=(I.hok a _ h).1;have n:ys.length=xs.length:=by rw[<-QX (f:=(·.1)),<-qS g,QX]
 refine⟨o,es,j,l,by rw[<-R0,d,QX,n],k,m,λi e c=>?_⟩;rw[<-UC,d,Q5]at c;cases q:ys[i]? with
 |none=>rw[q]at c;cases c
 |some y=>
  rw[q]at c;cases c;obtain⟨x,p,_,r,t⟩:=JB g q;exact⟨x,p,by rw[r],t⟩
theorem xT{P:RT}{w:R8}{K:RB}{x1}(a it:Q6)(n ep:Nat):
  ms P w K (.Tuple elts x1 pos) (Iti a ep n) [it] it (λi h=>∃ok d,Wr h it a i n ep ok d) where
 mem:=by simp
 obj:=λi h st b c=>by
  obtain⟨ok,d,e⟩:=st;cases RP.mp c;exact⟨_,e,λv q=>by cases q⟩
 keep:=λi h h' st k=>by
  obtain⟨ok,d,e⟩:=st;exact⟨ok,d,k it (by simp) _ e⟩
 item:=by
  intro X m p r J i ba s σ H E I f st t;subst m p r;obtain⟨ok,d,e⟩:=st;obtain⟨b,xs,A,W,L⟩:=t;obtain⟨o,es,g,j,Y,h4,h5,Z⟩:=qI I A;have hn:n=es.size:=by omega
  subst hn;have B:es[i]?=on es[i]:=V2 L;refine yD e g j B λh' io gt sz kp=>⟨_,rfl,wpAny_letOwnedTupleGo_items (s:={s with heap:=h'}) io λC ei N=>?_⟩;obtain⟨x,ex,O,Q⟩:=Z i _ B;have R:s.heap.objs.size≠it:=Uy (RM e);have I2:cy X ba σ (upd H s.heap.objs.size (.tup [.ref x.2.1,x.2.2])) {s with heap:=C,toks:=s.toks}:=
   cy.turnNew I f (λb u c q=>N.extBut b u (λz=>c (by rw[z];simp)) (kp b u (λz=>c (by rw[z];simp)) q)) (Rf _) ⟨by show 2<=RF;decide,[es[i].key,es[i].val],.cons O (.cons Q .nil),_,N.extBut _ _ R gt,rfl,_,rfl⟩
  refine⟨.ref s.heap.objs.size,_,I2,rfl,⟨s.heap.objs.size,x.2,I.hok.fresh (Rf _),rfl,rfl,λb' xs' F=>?_⟩,⟨_,_,ei⟩,λb c=>?_⟩
  .obtain⟨o',es',T,U,_,_,_,g6⟩:=qI I F
   rw[g]at T;cases T;rw[j]at U;cases U;obtain⟨y,ey,l,fv⟩:=g6 i _ B;rw[ey];rw[O]at l
   injection l with l
   exact R9 on (Vg l.symm (aT.inj fv Q))
  .cases RP.mp c
   rw[b_ R.symm];exact(f _ c).1
 done:=by
  intro X m p r J i ba s σ H E I f st t;subst m p r;obtain⟨ok,d,e⟩:=st;obtain⟨b,xs,A,W,L⟩:=t;obtain⟨o,es,g,j,Y,_⟩:=qI I A;have hn:n=es.size:=by omega
  subst hn;refine BK (I.ok.hd J) e g j (by omega) λh' kp=>⟨rfl,cy.turnL (t':=s.toks) I f λb o c q=>kp b o (λz=>c (by rw[z];simp)) q⟩
 self:=λ_ _ _ _ _ st h=>by
  obtain⟨ok,d,e⟩:=st;exact yC (es:=(Rr n (⟨0,.none,.none⟩:U3)).toArray) (by rw[Rx,Td];exact e) h
variable{E:St->XK}{K:RB}{o:Expr}{apos cpos tpos:Vy}{elts:List Expr}{x1:Nat}
def iItm(to:TE):TI:=λσ H R=>to σ H λx c=>∃a b ep xs,x= .ref a/\c a=on (dW a b ep xs)/\R (Iti a ep xs.length) c
theorem EC(p:PE X o to)(c:Ve o "items" X.env (Sw o X.env)=Sw o X.env:=by rfl)(d:(apos.endLine==cpos.line)=Q4:=by rfl):PI X (.Tuple elts x1 tpos) (.Call (.Attribute o "items" apos) [] [] cpos) (iItm to):=by
 intro ba s σ H R I h;refine wpAny_Call_method0_late c d (ee (p ba s σ H _ I h) λv f g=>?_);obtain⟨x,m,n,r1,a,b,ep,xs,rfl,r,q⟩:=g;cases r1;obtain⟨j,es,g,t,u,k,y,_⟩:=qI n r;refine⟨"dict","dict.items",Yl,PySem.F.slot_dict_items,PySem.F.type_dict_items,⟨j,g,k.1⟩,λb e=>?_,?_⟩
 .cases e;exact⟨j,g,k.2.1⟩
 refine WD rfl (PySem.evalArgs_none (y7 ⟨j,g,k.1⟩ y ?_));have l:cy X ba σ m {f with heap:=f.heap.push {cls:= .type "dict_items",data:= .fields #[.ref a]},toks:=f.toks}:=n.kept λb o e=>Q3 _ e;refine yE (s:={f with heap:=f.heap.push {cls:= .type "dict_items",data:= .fields #[.ref a]}}) ⟨_,Rw _ rfl,rfl,rfl⟩ (Q3 _ g) t ?_;rw[u];exact⟨_,[_],_,_,m,rfl,l.kept (t':=f.toks) λb o e=>Q3 _ e,xT a _ _ ep,⟨_,_,Rw _ rfl⟩,λb A=>by
  cases RP.mp A;exact l.fpOk (Rf _) (l.hok.fresh (Rf _)),q⟩
def itmD:D->Option (List D)
 | .dct b ks vs=>on (VP (λk v=> .tup [dK b k,v]) ks vs)
 |_=>QY
theorem BL{F:Fx}{H:Hp}{b:Bool}{a:Q6}{ep:Nat}{xs:List (f_×Q6×V)}(B:¬F.A a)(C:H a=on (dW a b ep xs))(g:ks=xs.map (·.1))(I:∀x∈xs,ik K F H b x.1 x.2.1)(dl:bb K F H vs (xs.map (·.2.2))):x0 K (Iti a ep xs.length) F H (VP (λk v=> .tup [dK b k,v]) ks vs):=λR h β2 t fr i=>by
 have J:vs.length=xs.length:=by rw[dl.length,QX]
 have L:ks.length=xs.length:=by rw[g,QX]
 have c:=t.kp a _ B C;refine⟨λd hd=>?_,λe=>⟨b,xs,c,rfl,by rw[e,VG,L,J,Xz]⟩⟩;have e:i<xs.length:=by
  have:=(Rj.mp hd).1;rw[VG]at this;omega
 refine⟨⟨b,xs,c,rfl,e⟩,λy T N=>?_⟩;obtain⟨p,x,j,rfl,rfl,O⟩:=N;have l:=O b xs c;rw[Q2 e]at l;have f:xs[i].2=x:=RO l;subst f;have m:bK h (upd h p (.tup [.ref xs[i].2.1,xs[i].2.2])):=bK.upd j;obtain⟨v,n⟩:∃v,vs[i]?=on v:=⟨_,Q2 (by omega)⟩;have Q:ks[i]?=on xs[i].1:=by rw[g,Q5,Q2 e];rfl
 rw[YX,Q,n]at hd;cases hd;have d2:=bb.tr t _ _ dl;obtain⟨u,q,du⟩:=d2.get n;rw[Q5,Q2 e]at q;cases q;have r:=(fr.same m).tr fr;exact⟨m,pI (.inl ⟨fr.fresh j,.inl aq⟩) (bb.cons (cp.tr r _ _ (Qc ((I _ (R1 e)).tr t))) (bb.cons (cp.tr r _ _ du) bb.nil))⟩
def nItm(f:FD):FL:=λδ=>M.bind (f δ) λd=>M.ofO (itmD d)
theorem Ma(m:PE X o (tV X.K f E))(c:Ve o "items" X.env (Sw o X.env)=Sw o X.env:=by rfl)(g:(apos.endLine==cpos.line)=Q4:=by rfl):PI X (.Tuple elts x1 tpos) (.Call (.Attribute o "items" apos) [] [] cpos) (iV X.K (nItm f) E):=
 (EC m c g).imp λσ H R j=>ll j λF δ β fr n h=>⟨F,δ,β,fr,n,(run.bind (R:=cp X.K F) h).mono λv p j=>by
  obtain⟨d,β1,t,hd,r1⟩:=j;obtain⟨ds,e,k⟩:=run.ofO r1;cases d<;>first|(cases e;done)|skip
  cases e;unfold cp at hd;obtain⟨a,ep,xs,rfl,l,q,r,dl⟩:=hd;exact⟨a,_,ep,xs,rfl,l.2,k _ p (To.refl t.fr) (BL l.1 l.2 q r dl)⟩⟩
end
end L2.Pu
namespace L2.Hs
open PySem PySem.Spec PyProof.Rows
theorem w9:mroOf (.type "reversed")=T0 [.type "reversed",.type "object"]:=by rw[mroOf_type];kernel_rfl
theorem EZ:typeLookup (.type "reversed") "__new__"=T0 (on (.builtin "reversed.__new__")):=by rw[YJ,Xf];kernel_rfl
theorem EV:Bind.madeBy (.type "reversed")=T0 (on "reversed.__new__"):=madeBy_type w9 EZ (by decide +kernel)
theorem K5:isSubtype (.type "reversed") (.type "reversed")=T0 Q4:=by rw[Wv];kernel_rfl
theorem DO:isSubtype (.type "range_iterator") (.type "reversed")=T0 Q9:=by rw[Wv];kernel_rfl
theorem Mi:entryFor table "reversed.__new__"=on Builtin.«reversed.__new__»:=entryFor_of_tree (by kernel_rfl)
section
variable{prog:RT}{w:R8}{A:SB}{E:Ra->Rg->Prop}{s:Rg}
theorem GE(a:IsRange s.heap r 0 n 1 t u v)(j:0<=n)(g:n<2^62)
  (h:Q (.ref s.heap.objs.size) {s with heap:=s.heap.push {cls:= .type "range_iterator",data:= .fields #[Vv (n-1),Vv n,Vv (-1)]}}):Rt (RN prog w) A (XN (.type "reversed") [.ref r]) Q E s:=by
 refine Zh (codeAny_of_tree ?_);show Rt _ _ (callAny (.type "reversed") _) _ _ _;refine Q0 ⟨Code.quiet_builtin _ (by decide +kernel),YI F.entry_type_call ?_⟩;rw[Around.under_plain (weight_type_call_type "reversed" [.ref r] []) (units_type_call_type "reversed" [.ref r] [])];have g:(U4 "reversed"==U4 "type")=Q9:=by decide +kernel
 have k:((ZS "reversed").bind (·.mro.findSome? λt=>(ZS t).bind λb=>if b.noNew then on Q4 else if b.attrs.any (·.1=="__new__")then on Q9 else QY)).getD Q9=Q9:=by decide +kernel
 have e:=w9;have c:=EV;have i:checkTypeCall "reversed" ⟨[.ref r],[]⟩=T0 ():=by kernel_rfl
 repeat (any_goals (first|assumption|wp_step))
 refine codeAny_call_builtin (by decide +kernel) Mi (UY (show checkBuiltinCall "reversed.__new__" ⟨[.type "reversed",.ref r],[]⟩=T0 () by kernel_rfl) ?_);have f:s.TypeIs (.ref r) "range":=⟨_,a,rfl⟩;unfold Builtin.«reversed.__new__»
 repeat (any_goals (first|assumption|wp_step))
 refine UY K5 (Q0 ?_);refine My (m:=Wd _ _ _) ?_;refine UY (show Wd "reversed" (U4 "reversed") ⟨[.type "reversed",.ref r],[]⟩=T0 ()from rfl) ?_;refine My (m:=checkCount "reversed" 1 1 _) (Q0 ?_);show Rt _ _ (specialOf (.ref r) (TU "__reversed__")>>=_) _ _ s;refine My (Uh f F.slot_range_reversed.lookup ?_);show Rt _ _ (bindSpecial (.builtin "range.__reversed__") (.ref r)>>=_) _ _ s;refine My (UY (F.slot_range_reversed.bind _) ?_);show Rt _ _ (rule "reversed.__new__.own-method">>=_) _ _ s;refine My (UZ (My (wpAny_runValue (codeAny_call_builtin F.slot_range_reversed.plain F.entry_range_reversed (F.slot_range_reversed.check _ _ _ _ _ _ _ _ f (F.args_range_reversed_1 _) ?_)))));unfold Builtin.«range.__reversed__»;refine My (m:=selfOnly "range.__reversed__" _) (Q0 (My ?_));unfold Builtin.Range.rangeFields;refine My (SS a rfl (x:= .int 0 t) rfl (My (m:=asInt? _) (Q0 ?_)));refine My (SS a rfl (x:= .int n u) rfl (My (m:=asInt? _) (Q0 ?_)));refine My (SS a rfl (x:= .int 1 v) rfl (My (m:=asInt? _) (Q0 (Q0 ?_))));have hn:Xs 0 n 1=n:=by rw[rangeSize_one];split<;>omega
 simp only[hn];have d:(SG 0&&SG n&&SG 1&&SG (-1)&&SG (0-1)&&SG n)=Q4:=by
  have:SG n=Q4:=by unfold SG;simp;omega
  rw[this];decide
 simp only[d,SA,TZ,RC,Sz];rw[show(0:Int)+(n-1)*1=n-1 by omega];refine My (SK (Q0 (Q0 ?_)));exact My (T7 (T:="range_iterator") (b:=Q9) ⟨_,Rw _ rfl,rfl⟩ DO (My (UZ (Q0 h))))
end
end L2.Hs
namespace L2.Pu
open PySem PySem.Spec PyProof.Rows L2.Hs
noncomputable def Itd(n:Nat):It:=⟨λi _=>i<n,λi H v a=>v= .int ((n:Int)-1-i)/\a=H,λi _=>n<=i⟩
theorem wa{P:RT}{w:R8}{K:RB}(it:Q6)(n:Nat):ms P w K tg (Itd n) [it] it (λi h=>Yv h it ((n:Int)-1+(i:Nat)*-1) ((n:Int)-(i:Nat)) (-1)) where
 mem:=by simp
 obj:=λi h st b c=>by
  cases RP.mp c;exact⟨_,st,λv z=>by
   have C:Data.fields _=Data.cell v:=z;cases C⟩
 keep:=λi h h' st k=>k it (by simp) _ st
 item:=by
  intro X g j l m i a s A H E I f st p;subst g j l;obtain⟨q,f1,f2,r,u,y⟩:=f it (by simp);refine(Walks.range (prog:=X.prog) (w:=X.w) (I.ok.hd m) it ((n:Int)-1) (-1) n).item i s _ _ p st λv h' B F d J=>?_;obtain⟨t,rfl⟩:=F;have L:cy X a A H {s with heap:=h',toks:=B}:=I.turned (λb o c e=>J b o (by simpa using c) e) q f1 r u y;exact⟨_,rfl,t7 (s:={s with heap:=h',toks:=B}) (n:="range_iterator") d rfl rfl (by decide) ⟨.int ((n:Int)-1-i),H,L,⟨t,by rw[show(n:Int)-1+(i:Int)*-1=(n:Int)-1-i by omega]⟩,⟨rfl,rfl⟩,d,λb c=>(f b c).1⟩⟩
 done:=by
  intro X g j l m i a s A H E I f st p;subst g j l;obtain⟨q,f1,f2,r,u,y⟩:=f it (by simp);exact wpAny_pyNext_range_end (I.ok.hd m) st (by have:n<=i:=p;omega) λh' N=>⟨rfl,I.turned (t':=s.toks) (λb o c e=>N b o c e) q f1 r u y⟩
 self:=λ_ _ _ _ _ st h=>W7 st h
section
variable{X:Cx}{E:St->XK}{K:RB}{tg:Expr}
def QD(a:TA):TI:=λb H R=>a b H λvs c=>∃j:Int,vs=[.int j]/\0<=j/\j<2^62/\R (Itd j.toNat) c
theorem AB{p pos p2 f:Vy}(g:Gl X "reversed")(i:X.mg "reversed"=QY)(r:Gl X "range")(hm:X.mg "range"=QY)(ha:PA X [a] ta)(hs:Rm [a] X.env=[(Q9,Sw a X.env)]:=by rfl)
  (k:Rm [.Call (.Name "range" p) [a] [] pos] X.env=[(Q9,Sw (.Call (.Name "range" p) [a] [] pos) X.env)]:=by rfl):PI X tg (.Call (.Name "reversed" p2) [.Call (.Name "range" p) [a] [] pos] [] f) (QD ta):=by
 intro c s m H R I h;refine Call_ (gZ I g i PyProof.Rows.Boot.«reversed» (SR ?_ k rfl));refine Zu (Call_ (gZ I r hm boot_range (SR (ee (ha pos c s m H _ I h) λus d v=>?_) hs rfl)));obtain⟨vs,n,y,r1,j,rfl,q1,q2,q⟩:=v;obtain⟨u,rfl,t,rfl⟩:=kK r1;refine call_range_1 (ZO (GE (IsRange.new ..) q1 q2 (W7 (x:=j-1) (left:=j) (step:=-1) (Rw _ rfl) ?_)));have l:cy X c m n {d with heap:=d.heap.push {cls:= .type "range",data:= .fields #[.int 0 d.toks,.int j t,.int 1 (d.toks+1)]},toks:=d.toks+1+1}:=y.kept λb o e=>Q3 _ e;refine⟨_,[_],_,_,n,rfl,l.kept (t':=d.toks+1+1) λb o e=>Q3 _ e,wa _ j.toNat,?_,λb A=>?_,q⟩
 .show Yv _ _ (((j.toNat:Nat):Int)-1+((0:Nat):Int)*-1) (((j.toNat:Nat):Int)-((0:Nat):Int)) (-1)
  rw[show((j.toNat:Nat):Int)-1+((0:Nat):Int)*-1=j-1 by omega,show((j.toNat:Nat):Int)-((0:Nat):Int)=j by omega];exact Rw _ rfl
 .cases RP.mp A
  exact l.fpOk (Rf _) (l.hok.fresh (Rf _))
noncomputable def iw(n:Nat):List D:=(Re n).map λ(i:Nat)=> .int ((n:Int)-1-i)
theorem yF:x0 K (Itd n) F H (iw n):=λe f β2 t fr i=>by
 refine⟨λd hd=>?_,λa=>?_⟩
 .unfold iw at hd
  have a:i<n:=by
   have:=(Rj.mp hd).1;simpa using this
  rw[Q5,Se a]at hd;cases hd;exact⟨a,λx g ⟨b,c⟩=>by subst b c;exact⟨bK.refl _,rfl⟩⟩
 .show n<=i
  rw[a];simp[iw]
def tQ:List D->Option (List D)
 |[.int j]=>if(decide (0<=j)&&decide (j<2^62))=Q4 then on (iw j.toNat)else QY
 |_=>QY
theorem FS{p pos p2 b:Vy}(c:Gl X "reversed")(d:X.mg "reversed"=QY)(m:Gl X "range")(hm:X.mg "range"=QY)(ha:PA X [a] (i0 X.K g E))(hs:Rm [a] X.env=[(Q9,Sw a X.env)]:=by rfl)
  (f:Rm [.Call (.Name "range" p) [a] [] pos] X.env=[(Q9,Sw (.Call (.Name "range" p) [a] [] pos) X.env)]:=by rfl):PI X tg (.Call (.Name "reversed" p2) [.Call (.Name "range" p) [a] [] pos] [] b) (iV X.K (cU tQ g) E):=
 (AB c d m hm ha hs f).imp λr H R i=>ll i λF δ β fr n h=>⟨F,δ,β,fr,n,(run.bind (R:=bb X.K F) h).mono λvs o i=>by
  obtain⟨ds,β1,t,hd,r1⟩:=i;obtain⟨l,e,k⟩:=run.ofO r1;unfold tQ at e;split at e
  .split at e
   .rename_i j
    cases e;simp only[RZ,R5]at j;obtain⟨v,rfl,q⟩:=bb.one hd;cases q.int;exact⟨_,rfl,j.1,j.2,k _ o (To.refl t.fr) yF⟩
   .cases e
  .cases e⟩
variable{e m:Expr}{te tm:TE}{pos p2:Vy}
theorem EB(a:List Ra):Z7 a.toArray QY QY (on (-1))=a.reverse.toArray:=by
 have b:UX QY QY (on (-1)) a.toArray.size=((a.length:Int)-1,-1,-1):=by simp[UX]
 unfold Z7;rw[b];refine R9 _ ?_;have c:sliceRange ((a.length:Int)-1) (-1) (-1)=(Re a.length).map λk=>a.length-1-k:=by
  unfold sliceRange;have d:(if(-1:Int)>0 then(if(a.length:Int)-1< -1 then(-1-((a.length:Int)-1)+-1-1)/ -1 else 0)else(if(a.length:Int)-1>-1 then((a.length:Int)-1- -1- -1-1)/(- -1)else 0)).toNat=a.length:=by
   rw[Q8 (by decide)];split
   .rw[show(- -1:Int)=1 by decide,Int.ediv_one];omega
   .omega
  simp only[d];exact RE λk _=>by omega
 show(sliceRange ((a.length:Int)-1) (-1) (-1)).filterMap _=_;rw[c,List.filterMap_map];rcases a with _|⟨x,r⟩
 .rfl
 generalize j:x::r=a;rw[vE (g:=λk=>a.getD (a.length-1-k) x) λk f=>by
  have:k<a.length:=Rz.mp f;simp only[VY,WU];rw[QZ,Q2 (by omega)];rfl]
 refine Tq (by simp) λi h l=>?_;have n:i<a.length:=by simpa using h
 rw[TF,Uu,Zo,QZ,Q2 (by omega)];rfl
def tRev(K:RB)(te tm:TE):TE:=λc H Q=>te c H λx d=>tm c d λy b=>∃a xs,x= .ref a/\y= .int (-1)/\e_ K b a xs/\∀p,b p=QY->Q (.ref p) (upd b p (.lst xs.reverse))
theorem Nm(l:PE X e te)(hm:PE X m tm):PE X (.Subscript e (.Slice QY QY (on m) p2) pos) (tRev X.K te tm):=by
 intro c s f H Q I h;refine Subscript_ (ee (l c s f H _ I h) λv n o=>?_);obtain⟨x,p,r,r1,q1⟩:=o;refine wpAny_Slice ?_;rw[ZH];refine Q0 (Q0 ?_);rw[evalPart_some];refine ee (hm c n f p _ r q1) λu d B=>?_;obtain⟨y,C,g,F,a,xs,rfl,rfl,sq,q⟩:=B;cases r1;obtain⟨t,rfl⟩:=F;obtain⟨its,i,pl,j⟩:=g.list sq;have k:cy X c f C {d with heap:=d.heap.push {cls:= .type "slice",data:= .fields #[.none,.none,.int (-1) t]}}:=g.kept (t':=d.toks) λb J q=>Q3 _ q;show Rt (RN X.prog X.w) X.A (ZK e (.Slice QY QY (on m) p2) (.ref a) (.ref d.heap.objs.size)) (EP X c f Q) X.xe {d with heap:=d.heap.push {cls:= .type "slice",data:= .fields #[.none,.none,.int (-1) t]}};refine tail_any (ops:=[.ref a,.ref d.heap.objs.size]) (pl.isList.push _).typeIs slot_list_getitem.lookup (ZL (pl.isList.push _) (XU ..) .none .none (.int (-1) t) (by simp) ?_ (by rw[Rx,<-i.length];exact j)) (by with_unfolding_all rfl)
 rw[EB];exact⟨.ref _,_,k.lnew (t':=d.toks) (its:=its.reverse) (ys:=xs.reverse) i.reverse (by rw[Zy];exact j),rfl,q _ (k.hok.fresh (Rf _))⟩
noncomputable def M8:D->D->Option D
 | .lst ds,.int (-1)=>on (.lst ds.reverse)
 |_,_=>QY
theorem bb.reverse:∀{ds:List D} {xs:List V},bb K F H ds xs->bb K F H ds.reverse xs.reverse
 |[],xs,h=>by have q:xs=[]:=h;subst q;exact bb.nil
 |d::ds,xs,h=>by
  obtain⟨x,r,rfl,a,b⟩:=h;rw[Wf,Wf];exact bb.append (bb.reverse b) (bb.cons a bb.nil)
theorem PL(o:PE X e (tV X.K f E))(hm:PE X m (tV X.K g E)):PE X (.Subscript e (.Slice QY QY (on m) p2) pos) (tV X.K (f2 M8 f g) E):=
 (Nm o hm).imp λr H Q b=>ll b λF δ β fr l h=>⟨F,δ,β,fr,l,(run.bind (R:=cp X.K F) h).mono λv u b=>oa b λd β1 t hd r1=>⟨F,δ,β1,t.fr,l.tr (t.tr fr),(run.bind (R:=cp X.K F) r1).mono λy A b=>oa b λd2 β2 i j q=>by
  obtain⟨z,c,k⟩:=run.ofO q;unfold M8 at c;split at c
  .cases c
   obtain⟨a,xs,rfl,sq,dl⟩:=cp.sqL (cp.tr (i.tr t.fr) _ _ hd);cases j.int;exact⟨a,xs,rfl,rfl,sq,λp n=>k _ _ (i.fr.upd _ n) (cp.newL i.fr n (bb.reverse dl))⟩
  .cases c⟩⟩
end
end L2.Pu
namespace L2.Pu
open PySem
theorem hu2{A:SB}(a:ef k A):A.units+2<Wu:=Tl (ZT (by decide:2<=64) _) a.units
open PySem.Spec PyProof.Rows L2.Hs
section
variable{X:Cx}{E:St->XK}{ke ve cx iter:Expr}{ifs:List Expr}{rest:List S7}{scope:Scope}{pos:Vy}{Nc c_:List R3}{cw:List Nat}{g:TG}{tb:Q6->TB}
theorem Lo{kb:Bool}{b d:Vy}(y:X.N.Nodup)(k:X.N[i]?=on x)(B:y4 X.env.scope x)(F:X.calm=Q4)(S:dk X scope Nc c_ cw)(L:PI X cx iter wi)
  (O:∀(cl:List (R3×Q6)) (C:Q6) (j:List Q6) (s:Rg) (H:Hp),PG (aP X Nc scope cl C j s H) cx g/\eA (aP X Nc scope cl C j s H) ifs tt/\∀D,PB (aP X Nc scope cl C j s H) (.D ke ve) (⟨cx,iter,ifs,0⟩::rest) scope pos 0 D (tb D))
  (l:VM (.DictComp ke ve (⟨cx,iter,ifs,0⟩::rest) scope pos) (on (.Name x b)) d.line X.env=T0 Q4:=by rfl)
  (hs:∀x,Su iter X.env x=T0 x:=by intro _;rfl) (R:X.fn x=Q4\/X.env.scope.names.lookup x=on .local:=by first|exact .inl rfl|exact .inr rfl|assumption):
  PS X (.Assign [.Name x b] (.DictComp ke ve (⟨cx,iter,ifs,0⟩::rest) scope pos) d) (h9 (lZ (λD=>dW D kb 0 []) c_ cw wi λD J=>dG J g tt (tb D)) (fi i)):=by
 intro f s U H D I h;rw[exec_Assign_Name_used _ _ _ _ l];refine My (T6 (My ?_));show Rt _ X.A (do let _ <-comprehension (.DictComp ke ve (⟨cx,iter,ifs,0⟩::rest) scope pos) scope X.env _ newDict Q9 (Sw iter X.env) (on (V9 (.Name x b) X.env))) _ _ s
 refine My (Sh (Ur (use:=on (V9 (.Name x b) X.env)) (Q:=λ_ s'=>SP X f D .next s') rfl hs (S.clo I.ok) S.kind S.loc
  (Sh (L f s U H _ I h) (λv s1 W=>Sh W (λY Z n=>?_) λ_ _ e=>e) λ_ _ e=>e)) (λ_ s' hq=>Q0 (Q0 hq)) λ_ _ e=>e)
 obtain⟨it,j,tn,J,H2,e,o,T,p,f2,q⟩:=n;subst e;refine hV (c:= .D ke ve) u6 (RR:=λacc C=>Za (RN X.prog X.w) X.A X.xe (on (V9 (.Name x b) X.env)) _ acc C) F S O o T p f2 q λA C s' H' m I' ns r q'=>?_;show Rt _ X.A (V9 (.Name x b) X.env (.ref A)) _ _ s';refine Yd (l3 I' y k B (v:= .ref A) rfl (λZ o n=>?_) R);obtain⟨a,sb,ha⟩:=n;have t:C≠a:=by
  rcases ha with rfl|ha
  .exact r.2.1
  .exact λz=>r.2.2.2.1 x a ha z.symm
 exact⟨m,ns.sameBut sb t,λh' u=>⟨_,H',o.letgo r u,q'⟩⟩
theorem zP{kb:Bool}{a c:Vy}(j:X.N.Nodup)(d:X.N[i]?=on x)(k:y4 X.env.scope x)(l:X.calm=Q4)(S:dk X scope Nc c_ cw)(m:PI X cx iter (iV X.K it E))
  (n:∀(cl:List (R3×Q6)) (C:Q6) (f:List Q6) (s:Rg) (H:Hp),PG (aP X Nc scope cl C f s H) cx g/\eA (aP X Nc scope cl C f s H) ifs (iv X.K tt E0)/\∀D,PB (aP X Nc scope cl C f s H) (.D ke ve) (⟨cx,iter,ifs,0⟩::rest) scope pos 0 D (tb D))
  (o:dH X.K g tg) (p:eX tg) (q:∀D,eY X.K (RD X.K kb) D (tb D) b)
  (e:VM (.DictComp ke ve (⟨cx,iter,ifs,0⟩::rest) scope pos) (on (.Name x a)) c.line X.env=T0 Q4:=by rfl)
  (hs:∀x,Su iter X.env x=T0 x:=by intro _;rfl) (r:X.fn x=Q4\/X.env.scope.names.lookup x=on .local:=by first|exact .inl rfl|exact .inr rfl|assumption):
  PS X (.Assign [.Name x a] (.DictComp ke ve (⟨cx,iter,ifs,0⟩::rest) scope pos) c) (tG X.K X.H₀ (mS i (hG c_.length cw it tg tt b (lC kb))) E):=
 aJ ((Lo (kb:=kb) j d k l S m n e hs r).imp λD t H h=>vO o p q h)
end
end L2.Pu
namespace L2.Hs
open PySem PySem.Spec PyProof.Rows
section
variable{X:Cx}
def Na(K:RB):R2:=λx y H Q=>∃a b ep xs k c,x= .ref c/\y= .ref a/\H a=on (dW a b ep xs)/\(∀x∈xs,zv K H b x.1 x.2.1)/\zv K H b k c/\Q (.bl (sA xs k).isNone) H
theorem w4(i:X.A.units+2<Wu):fx X (SH .NotIn) (Na X.K):=by
 intro c s t H x y v u Q I j l h;obtain⟨d,b,ep,xs,k,a,rfl,rfl,m,n,o,q⟩:=h;cases j;cases l;obtain⟨ys,hm,p,_,hd⟩:=mW I m n;have f:=nc (k:=k) p;show Rt _ _ (do return X6 (!(<-contains (.ref d) (.ref a)))) _ _ s
 refine My ?_;unfold contains
 try with_reducible refine SX ?_
 refine My (Uh hm.typeIs slot_dict_contains.lookup ?_);show Rt _ _ (if(on (Value.builtin "dict.__contains__")==on Sv)=Q4 then _ else _) _ _ s;rw[Q8 (by rw[beq_builtin_none];exact Ri)];refine My (wpAny_callSpecialUnlessNone?_slot (name:=TU "__contains__") hm.typeIs slot_dict_contains
  (Sc slot_dict_contains hm.typeIs entry_dict_contains ?_ (args_dict_contains _ _)))
 show Rt _ _ (dictGet d (.ref a)>>=_) _ _ s;refine My (wpAny_dictGet_heap (nX i) (qt I o) hm ?_);cases g:YA ys k with
 |some r=>
  rw[g]at f;cases e:sA xs k with
  |none=>rw[e]at f;exact f.elim
  |some z=>
   rw[e]at q;show Rt _ _ (ret (.bool Q4)) _ _ _;exact Q0 ⟨_,rfl,SL (Q0 ⟨.bl _,H,I.tok _,rfl,q⟩)⟩
 |none=>
  rw[g]at f;cases e:sA xs k with
  |some z=>rw[e]at f;exact f.elim
  |none=>
   rw[e]at q;show Rt _ _ (Builtin.Dict.pendingKey? d (.ref a)>>=_) _ _ _;exact My (wpAny_pendingKey_other hd (Q0 ⟨_,rfl,SL (Q0 ⟨.bl _,H,I.tok _,rfl,q⟩)⟩))
end
end L2.Hs
namespace L2.Pu
open PySem PySem.Spec PyProof.Rows L2.Hs
section
variable{K:RB}
def EO:D->D->Option D
 |y,.dct b ks vs=>(ii b y).map λk=> .bl (lw ks vs k).isNone
 |_,_=>QY
theorem Qm:bf K (Na K) EO:=λF H β Q d1 d2 d o p fr h g e k=>by
 unfold EO at e;split at e
 .rename_i b ks vs
  cases q:ii b d1 with
  |none=>rw[q]at e;cases e
  |some f=>
   rw[q]at e;cases e;obtain⟨i,rfl⟩:=o7 q;obtain⟨c,rfl,j⟩:=tY i h;unfold cp at g;obtain⟨a,ep,xs,rfl,l,rfl,m,dl⟩:=g;refine⟨a,b,ep,xs,f,c,rfl,rfl,l.2,λx n=>(m x n).s,j.s,?_⟩;have:=qp (k:=f) dl
   dsimp only at k
   cases q2:lw (xs.map (·.1)) vs f with
   |none=>
    rw[q2]at this k;have t:sA xs f=QY:=this;rw[t];exact k _ H (To.refl fr) rfl
   |some z=>
    rw[q2]at this k;obtain⟨u,t,_⟩:=this;rw[t];exact k _ H (To.refl fr) rfl
 .cases e
end
end L2.Pu
namespace L2.Pu
open PySem PySem.Spec PyProof.Rows
section
variable{X:Cx}{E:St->XK}{K:RB}{st:Sy}{H₀:Hp}{B:Ow}{bg:Option (Q6×Q6)}{H H':Hp}{δ:Ds}{β β':Bg}{σ:St}
end
end L2.Pu
namespace L2.Pu
open PySem PySem.Spec PyProof.Rows PySem.SeqAt
open PySem.AutoSeq1 (wpAny_loadPart')
open PySem.MeetsSeq PySem.MeetsSeq2 PySem.MeetsSeq3
end L2.Pu
namespace L2.Pu
open PySem L2.Hs
def k9(k:List Int):LI->LI
 |[]=>[k]
 |x::l=>if dg k x=Q4 then k::x::l else if k=x then x::l else x::k9 k l
theorem lx:∀{l:LI},y∈k9 k l↔y=k\/y∈l
 |[]=>by simp[k9]
 |x::l=>by
  unfold k9;split
  .simp
  .split
   .rename_i h
    subst h;simp
   .rw[Rq,lx,Rq]
    exact or_left_comm
theorem xh:∀{l:LI},Up l->Up (k9 k l)
 |[],_=>by unfold k9;exact Uo _ _
 |x::l,h=>by
  obtain⟨a,b⟩:=U7.mp h;unfold k9;split
  .rename_i q
   refine U7.mpr ⟨λy hy=>?_,h⟩;rcases Rq.mp hy with rfl|hy
   .exact q
   .exact qq q (a y hy)
  .split
   .exact h
   .rename_i q1 q2
    refine U7.mpr ⟨λy hy=>?_,xh b⟩;rcases lx.mp hy with rfl|hy
    .cases q:dg x y with
     |true=>rfl
     |false=>exact RJ (nU (by simpa using q1) q) q2
    .exact a y hy
def l4(ks:LI):LI:=ks.foldr k9 []
theorem nz:∀ks,Up (l4 ks)
 |[]=> .nil
 |k::ks=>xh (nz ks)
theorem eL:∀{ks:LI},y∈l4 ks↔y∈ks
 |[]=>by simp[l4]
 |k::ks=>by
  show y∈k9 k (l4 ks)↔_;rw[lx,eL,Rq]
theorem JI{l:LI}(h:Up l):l.Nodup:=h.imp λ{a b} q e=>by
 subst e;rw[iH]at q;cases q
theorem MQ{ks:LI}(b:∀k∈ks,1<=k.length){m:LI}(hm:m.length<63)(c:∀k∈ks,k∈m):kN (ks.map j0)=on (.lst ((l4 ks).map j0)):=by
 refine DQ ⟨nz ks,Tl (mD (JI (nz ks)) λx e=>c x (eL.mp e)) hm,λk a=>⟨b k (eL.mp a),Rp.mpr ⟨k,eL.mp a,rfl⟩⟩,λd hd=>?_⟩;obtain⟨k,a,rfl⟩:=Rp.mp hd;exact⟨k,eL.mpr a,rfl⟩
end L2.Pu
namespace L2.Nt
noncomputable def sm{α:Type}(l:List α)(f:α->Nat):Nat:=(l.map f).sum
section
variable{α β:Type}
theorem pP{f:α->Nat}:sm [] f=0:=rfl
theorem aZ{a:α}{l:List α}{f:α->Nat}:sm (a::l) f=f a+sm l f:=by unfold sm;rw[Rk,Rh]
theorem l7{l m:List α}{f:α->Nat}:sm (l++m) f=sm l f+sm m f:=by unfold sm;rw[RU,XX]
theorem bM:∀{l:List α},(∀a∈l,f a=g a)->sm l f=sm l g
 |[],_=>rfl
 |a::l,h=>by rw[aZ,aZ,h a Q7,bM λb c=>h b (Q1 a c)]
theorem l5{g:β->α}{f:α->Nat}{l:List β}:sm (l.map g) f=sm l λb=>f (g b):=by unfold sm;rw[Rc];rfl
theorem j3{g:β->List α}{f:α->Nat}:∀{l:List β},sm (l.flatMap g) f=sm l λb=>sm (g b) f
 |[]=>rfl
 |b::l=>by rw[R6,l7,aZ,j3]
theorem wF:∀{l:List α},(sm l λ_=>0)=0
 |[]=>rfl
 |a::l=>by rw[aZ,wF]
theorem sm_add:∀{l:List α},(sm l λa=>f a+g a)=sm l f+sm l g
 |[]=>rfl
 |a::l=>by rw[aZ,aZ,aZ,sm_add];omega
theorem f8:∀{l:List α},(sm l λa=>c*f a)=c*sm l f
 |[]=>rfl
 |a::l=>by rw[aZ,aZ,f8,ZA]
theorem JQ:∀{n:Nat},m<=n->sm (Re (m+1)) f=sm (Re (n+1)) λa=>if a<=m then f a else 0
 |0,h=>by
  obtain rfl:m=0:=by omega
  exact bM λa ha=>by
   have:=Rz.mp ha;rw[Rb (by omega)]
 |n+1,h=>by
  rcases VU m (n+1)with q|q
  .rw[Uc (n:=n+1),l7,<-JQ (by omega:m<=n),aZ,pP,Q8 (by omega)]
   omega
  .obtain rfl:m=n+1:=by omega
   exact bM λa ha=>by
    have:=Rz.mp ha;rw[Rb (by omega)]
noncomputable def bc:List Nat->Nat->List (List Nat)
 |[],0=>[[]]
 |[],_+1=>[]
 |x::r,c=>(Re (UL x c+1)).flatMap λa=>(bc r (c-a)).map (a::·)
noncomputable def less(r v:List Nat):List Nat:=VP (·-·) r v
theorem zm:sm (bc (x::r) c) f=sm (Re (UL x c+1)) λa=>sm (bc r (c-a)) λv=>f (a::v):=by
 show sm ((Re (UL x c+1)).flatMap λa=>(bc r (c-a)).map (a::·)) f=_;rw[j3];exact bM λa _=>l5
end
end L2.Nt
namespace L2.Nt
open L2.Pu
noncomputable def ch:Nat->Nat->Nat
 |_,0=>1
 |0,_+1=>0
 |n+1,k+1=>ch n k+ch n (k+1)
theorem qL:∀{n k:Nat},n<k->ch n k=0
 |0,k+1,_=>by simp[ch]
 |n+1,k+1,h=>by
  show ch n k+ch n (k+1)=0;rw[qL (by omega),qL (by omega)]
theorem rN(n:Nat):ch n 0=1:=by cases n<;>rfl
theorem xD:∀n,ch n n=1
 |0=>rfl
 |n+1=>by
  show ch n n+ch n (n+1)=1;rw[xD n,qL (by omega)]
theorem yU(n:Nat):dc (n+1)=(n+1)*dc n:=SD (dc n) (n+1)
theorem mZ:∀n a b:Nat,a+b=n->ch (a+b) a*(dc a*dc b)=dc (a+b)
 |n,0,b,_=>by rw[rN];simp[dc]
 |n,a+1,0,_=>by rw[Ux,xD];simp[dc]
 |0,a+1,b+1,h=>by omega
 |n+1,a+1,b+1,h=>by
  have c:=mZ n a (b+1) (by omega);have d:=mZ n (a+1) b (by omega);have e:a+1+(b+1)=(a+b+1)+1:=by omega
  have f:a+(b+1)=a+b+1:=by omega
  have g:a+1+b=a+b+1:=by omega
  rw[f]at c;rw[g]at d;rw[e];show(ch (a+b+1) a+ch (a+b+1) (a+1))*(dc (a+1)*dc (b+1))=dc (a+b+1+1);rw[yU (a+b+1),Zz];have i:ch (a+b+1) a*(dc (a+1)*dc (b+1))=(a+1)*dc (a+b+1):=by
   rw[<-c,yU a];simp only[Sx,TW,SD]
  have j:ch (a+b+1) (a+1)*(dc (a+1)*dc (b+1))=(b+1)*dc (a+b+1):=by
   rw[<-d,yU b];simp only[Sx,TW,SD]
  rw[i,j,<-Zz,show a+1+(b+1)=a+b+1+1 by omega]
theorem nA:sm (Re (n+1)) f=f 0+sm (Re n) λa=>f (a+1):=by
 rw[YV,aZ,l5]
theorem DD:∀(x y c:Nat),(sm (Re (c+1)) λa=>ch x a*ch y (c-a))=ch (x+y) c
 |0,y,c=>by
  rw[nA,rN,ZB,Y1,Sn];have:(sm (Re c) λa=>ch 0 (a+1)*ch y (c-(a+1)))=0:=(bM λa _=>by rw[qL (by omega),Y3]).trans wF;rw[this];rfl
 |x+1,y,0=>by rw[nA];simp[rN,pP]
 |x+1,y,c+1=>by
  have b:=DD x y (c+1);have d:=DD x y c;rw[nA]at b;rw[nA];have e:(sm (Re (c+1)) λa=>ch (x+1) (a+1)*ch y (c+1-(a+1)))=(sm (Re (c+1)) λa=>ch x a*ch y (c-a))+sm (Re (c+1)) λa=>ch x (a+1)*ch y (c+1-(a+1)):=by
   rw[<-sm_add];refine bM λa _=>?_;show(ch x a+ch x (a+1))*_=_;rw[Zz,Nat.add_sub_add_right]
  rw[e,d];have f:x+1+y=x+y+1:=by omega
  rw[f];show _=ch (x+y) c+ch (x+y) (c+1);rw[<-b,rN,rN];omega
theorem vdm(x y c:Nat):(sm (Re (UL x c+1)) λa=>ch x a*ch y (c-a))=ch (x+y) c:=by
 rw[JQ (Nat.min_le_right x c),<-DD];refine bM λa ha=>?_;have:=Rz.mp ha;by_cases q:a<=x
 .rw[Rb (by omega)]
 .rw[Q8 (by omega),qL (by omega),Y3]
def pc:List Nat->List Nat->Nat
 |x::r,a::v=>ch x a*pc r v
 |_,_=>1
theorem AE:∀(r:List Nat) (c:Nat),sm (bc r c) (pc r)=ch r.sum c
 |[],0=>rfl
 |[],c+1=>rfl
 |x::r,c=>by
  rw[zm,Rh,<-vdm];exact bM λa _=>by rw[<-AE r (c-a),<-f8];rfl
theorem ck:∀{r:List Nat} {c:Nat} {v:List Nat},v∈bc r c->v.sum=c/\(less r v).sum+c=r.sum/\v.length=r.length/\pr (r.map dc)=pc r v*(pr (v.map dc)*pr ((less r v).map dc))
 |[],0,v,h=>by cases RP.mp h;exact⟨rfl,rfl,rfl,rfl⟩
 |[],c+1,v,h=>by cases h
 |x::r,c,v,h=>by
  have h':v∈(Re (UL x c+1)).flatMap λa=>(bc r (c-a)).map (a::·):=h;obtain⟨a,ha,d⟩:=SV.mp h';obtain⟨u,e,rfl⟩:=Rp.mp d;have f:=Rz.mp ha;obtain⟨g,i,j,k⟩:=ck e;refine⟨by rw[Rh,g];omega,?_,by rw[Rl,j,Rl],?_⟩
  .show((x-a)::less r u).sum+c=_
   rw[Rh,Rh,<-i];omega
  .show dc x*pr (r.map dc)=(ch x a*pc r u)*((dc a*pr (u.map dc))*(dc (x-a)*pr ((less r u).map dc)))
   have b:=mZ x a (x-a) (by omega);rw[show a+(x-a)=x by omega]at b;rw[k,<-b];simp only[Sx,TW,SD]
def mu:List Nat->Nat
 |[]=>1
 |x::r=>ch (x+r.sum) x*mu r
theorem fF:∀r:List Nat,mu r*pr (r.map dc)=dc r.sum
 |[]=>rfl
 |x::r=>by
  show(ch (x+r.sum) x*mu r)*(dc x*pr (r.map dc))=dc (x::r).sum;rw[Rh,<-mZ _ x r.sum rfl,<-fF r];simp only[Sx,TW,SD]
theorem nK(r:List Nat):0<pr (r.map dc):=z6 λx a=>by
 obtain⟨n,_,rfl⟩:=Rp.mp a;exact kD n
theorem ND(r:List Nat):dc r.sum/pr (r.map dc)=mu r:=by rw[<-fF,Nat.mul_div_cancel _ (nK r)]
def wk:List Nat->List Nat->Nat
 |_,[]=>1
 |r,c::cs=>sm (bc r c) λv=>mu v*wk (less r v) cs
theorem JA:∀{r:List Nat},r.sum=0->mu r=1
 |[],_=>rfl
 |x::r,h=>by
  rw[Rh]at h;obtain rfl:x=0:=by omega
  show ch _ 0*mu r=1;rw[rN,JA (by omega)]
theorem gm:∀(cs r:List Nat),r.sum=cs.sum->wk r cs=mu r
 |[],r,h=>(JA h).symm
 |c::cs,r,h=>by
  rw[Rh]at h;refine V6 (nK r) ?_;rw[fF];show sm (bc r c) (λv=>mu v*wk (less r v) cs)*_=_;rw[SD,<-f8];have e:(sm (bc r c) λv=>pr (r.map dc)*(mu v*wk (less r v) cs))=sm (bc r c) λv=>(dc c*dc (r.sum-c))*pc r v:=by
   refine bM λv a=>?_;obtain⟨b,f,g,d⟩:=ck a;rw[gm cs (less r v) (by omega),d];have m1:=fF v;have m2:=fF (less r v);rw[b]at m1;rw[show(less r v).sum=r.sum-c by omega]at m2;rw[<-m1,<-m2];simp only[Sx,TW,SD]
  rw[e,f8,AE,SD];have:=mZ r.sum c (r.sum-c) (by omega);rw[show c+(r.sum-c)=r.sum by omega]at this;exact this
def g8:List Nat->List Nat->Prop
 |[],[]=>True
 |a::v,x::r=>a<=x/\g8 v r
 |_,_=>False
theorem g8.refl:∀r,g8 r r
 |[]=>trivial
 |_::r=>⟨Rf _,g8.refl r⟩
theorem g8.tr:∀{u v r:List Nat},g8 u v->g8 v r->g8 u r
 |[],[],[],_,_=>trivial
 |_::_,_::_,_::_,h,q=>⟨Ru h.1 q.1,h.2.tr q.2⟩
 |[],_::_,_,h,_=>h.elim
 |_::_,[],_,h,_=>h.elim
 |[],[],_::_,_,q=>q.elim
 |_::_,_::_,[],_,q=>q.elim
theorem g8.len:∀{v r:List Nat},g8 v r->v.length=r.length
 |[],[],_=>rfl
 |_::_,_::_,h=>R9 (·+1) h.2.len
 |[],_::_,h=>h.elim
 |_::_,[],h=>h.elim
theorem g8.less:∀{v r:List Nat},g8 v r->g8 (less r v) r
 |[],[],_=>trivial
 |a::v,x::r,h=>⟨Nat.sub_le x a,h.2.less⟩
 |[],_::_,h=>h.elim
 |_::_,[],h=>h.elim
theorem g8.pr:∀{v r:List Nat},g8 v r->L2.Pu.pr (v.map (·+1))<=L2.Pu.pr (r.map (·+1))
 |[],[],_=>Rf _
 |_::_,_::_,h=>Nat.mul_le_mul (Nat.succ_le_succ h.1) h.2.pr
 |[],_::_,h=>h.elim
 |_::_,[],h=>h.elim
theorem g8.sum:∀{v r:List Nat},g8 v r->v.sum<=r.sum
 |[],[],_=>Rf _
 |_::_,_::_,h=>by rw[Rh,Rh];exact W2 h.1 h.2.sum
 |[],_::_,h=>h.elim
 |_::_,[],h=>h.elim
theorem bq:∀{r:List Nat} {c:Nat} {v:List Nat},v∈bc r c->g8 v r
 |[],0,v,h=>by cases RP.mp h;exact trivial
 |[],c+1,v,h=>by cases h
 |x::r,c,v,h=>by
  have h':v∈(Re (UL x c+1)).flatMap λa=>(bc r (c-a)).map (a::·):=h;obtain⟨a,ha,b⟩:=SV.mp h';obtain⟨u,d,rfl⟩:=Rp.mp b;have e:=Rz.mp ha;exact⟨by omega,bq d⟩
theorem fW:∀{r v:List Nat},g8 v r->v∈bc r v.sum
 |[],[],_=>RP.mpr rfl
 |x::r,a::v,h=>by
  refine SV.mpr ⟨a,Rz.mpr (by rw[Rh];have:=h.1;omega),Rp.mpr ⟨v,?_,rfl⟩⟩;rw[Rh,Vd];exact fW h.2
 |[],_::_,h=>h.elim
 |_::_,[],h=>h.elim
theorem iK{α a:Type}{f:α->List a}{n:Nat}:∀{l:List α},(∀x∈l,(f x).length<=n)->(l.flatMap f).length<=l.length*n
 |[],_=>by simp
 |x::l,h=>by
  rw[R6,Ro,Rl,Y2,WP];exact W2 (iK λy b=>h y (Q1 _ b)) (h x Q7)
theorem iO:∀(r:List Nat) (c:Nat),(bc r c).length<=pr (r.dropLast.map (·+1))
 |[],0=>Rf _
 |[],_+1=>Ss _
 |[x],c=>by
  have h:bc [x] c=(Re (UL x c+1)).flatMap λa=>(bc [] (c-a)).map (a::·):=rfl;rw[h,Uc,S9,Ro];have e:((Re (UL x c)).flatMap λa=>(bc [] (c-a)).map (a::·))=[]:=by
   refine Um.mpr λa ha=>?_;have:=Rz.mp ha;obtain⟨n,hn⟩:∃n,c-a=n+1:=⟨c-a-1,by omega⟩;rw[hn];rfl
  rw[e];cases q:c-UL x c<;>simp[bc,q,pr]
 |x::y::r,c=>by
  have h:=iK (l:=Re (UL x c+1)) (f:=λa=>(bc (y::r) (c-a)).map (a::·)) (n:=pr ((y::r).dropLast.map (·+1))) λa _=>by rw[QX];exact iO (y::r) (c-a)
  rw[Ry]at h;refine Ru h ?_;show _<=(x+1)*pr ((y::r).dropLast.map (·+1));exact VA _ (by omega)
theorem DC{r:List Nat}(h:r.sum<m):bc r m=[]:=List.eq_nil_iff_forall_not_mem.mpr λv a=>by
 have:=ck a;omega
theorem lA{α β a:Type}{f:α->List β}{g:β->List a}(l:List α):(l.flatMap f).flatMap g=l.flatMap λx=>(f x).flatMap g:=List.flatMap_assoc
theorem tU(r:List Nat)(k:Nat):pr ((r.take k).map (·+1))<=pr (r.map (·+1)):=by
 conv=>rhs;rw[<-T4 k r,RU,uP]
 exact WE _ (z6 λx a=>by
  obtain⟨n,_,rfl⟩:=Rp.mp a;omega)
theorem tW(l:List Nat):(nI l).map Int.toNat=l:=by
 rw[Rc];exact(RE λx _=>rfl).trans (Zp l)
theorem je(h:nI l=nI m):l=m:=by rw[<-tW l,h,tW]
theorem AO{α a:Type}{f:α->a}{l:List α}(h:(l.map f).Nodup):l.Nodup:=(We.mp h).imp λq e=>q (R9 f e)
theorem qh{α c:Type}{f:α->c}(inj:∀a b,f a=f b->a=b){l:List α}(h:l.Nodup):(l.map f).Nodup:=We.mpr (h.imp λq e=>q (inj _ _ e))
theorem dF{cs:List Nat}(h:k<cs.length):cs.drop k=cs.getD k 0::cs.drop (k+1):=by
 rw[R7 h,QZ,Q2 h];rfl
noncomputable def H_:List (Nat×Nat)->List Nat->Bool
 |p::ps,a::v=>decide (p.1<=a)&&decide (a<=p.2)&&H_ ps v
 |_,_=>Q4
def vB(ps:List (Nat×Nat))(r:List Nat)(c:Nat):List (List Nat):=(bc r c).filter (H_ ps)
theorem Mw(h:v∈vB ps r c):v∈bc r c:=(SI.mp h).1
theorem qU{p:Nat×Nat}:vB (p::ps) (x::r) c=(Re (UL x c+1)).flatMap λa=>if p.1<=a/\a<=p.2 then(vB ps r (c-a)).map (a::·)else[]:=by
 show((Re (UL x c+1)).flatMap λa=>(bc r (c-a)).map (a::·)).filter (H_ (p::ps))=_;rw[W8];refine R9 (YS · _) (funext λa=>?_);rw[WO];by_cases q:p.1<=a/\a<=p.2
 .rw[Rb q]
  refine R9 (Sj (a::·)) (List.filter_congr λv _=>?_);show(decide (p.1<=a)&&decide (a<=p.2)&&H_ ps v)=H_ ps v;rw[Rv q.1,Rv q.2];rfl
 .rw[Q8 q,WI.mpr,Ue]
  intro v _ h;have h:(decide (p.1<=a)&&decide (a<=p.2)&&H_ ps v)=Q4:=h;simp only[RZ,R5]at h;exact q h.1
noncomputable def lj:List (Nat×Nat)->List Nat->List Nat
 |p::ps,x::r=>UL x p.2::lj ps r
 |_,_=>[]
noncomputable def lg(ps:List (Nat×Nat)):List Nat:=ps.map (·.1)
theorem JH:∀{ps:List (Nat×Nat)} {r:List Nat} {c:Nat} {v:List Nat},ps.length=r.length->v∈vB ps r c->(lg ps).sum<=c/\c<=(lj ps r).sum
 |[],[],c,v,_,h=>by
  have:=ck (Mw h);simp at this;simp[lg,lj];omega
 |p::ps,x::r,c,v,e,h=>by
  rw[qU]at h;obtain⟨a,ha,h⟩:=SV.mp h;by_cases q:p.1<=a/\a<=p.2
  .rw[Rb q]at h
   obtain⟨u,b,rfl⟩:=Rp.mp h;have i:=JH (by simpa using e) b;have:=Rz.mp ha;simp only[lg,lj,Rk,Rh]at i⊢;omega
  .rw[Q8 q]at h;cases h
noncomputable def nxB(x:Nat)(p:Nat×Nat)(few a:Nat)(b:List Nat×Nat):List (List Nat×Nat):=(Re (UL (UL x p.2+few) b.2+1-few-max p.1 (b.2-a))).map λi=>(b.1++[max p.1 (b.2-a)+i],b.2-(max p.1 (b.2-a)+i))
def l_(ps:List (Nat×Nat))(r:List Nat)(c:Nat):Nat->List (List Nat×Nat)
 |0=>[([],c)]
 |k+1=>(l_ ps r c k).flatMap (nxB (r.getD k 0) (ps.getD k (0,0)) ((lg ps).drop (k+1)).sum ((lj ps r).drop (k+1)).sum)
theorem mT{b:Type}{f:Nat->List b}{lo n N:Nat}(h:∀a<N,f a≠[]->lo<=a/\a<n)(hn:n<=N):(Re N).flatMap f=(Re (n-lo)).flatMap λi=>f (lo+i):=by
 have e:∀{a},a<N->¬(lo<=a/\a<n)->f a=[]:=λ{a} ha q=>UG λz=>q (h a ha z);obtain⟨d,rfl⟩:∃d,N=n+d:=⟨N-n,by omega⟩;have z:(Re d).flatMap (λa=>f (n+a))=[]:=Um.mpr λa ha=>e (by have:=Rz.mp ha;omega) (by omega);rw[List.range_add,S9,Vn,z,RX];rcases Nat.le_total lo n with q|q
 .obtain⟨m,rfl⟩:∃m,n=lo+m:=⟨n-lo,by omega⟩
  rw[List.range_add,S9,Um.mpr λa ha=>e (by have:=Rz.mp ha;omega) (by have:=Rz.mp ha;omega),Ub,Vn,Vd]
 .rw[show n-lo=0 by omega,Um.mpr λa ha=>e (by have:=Rz.mp ha;omega) (by have:=Rz.mp ha;omega)];rfl
theorem uq:∀{ps:List (Nat×Nat)} {r:List Nat} (k:Nat),lj (ps.drop k) (r.drop k)=(lj ps r).drop k
 |_,_,0=>rfl
 |[],r,k+1=>by simp[lj]
 |p::ps,[],k+1=>by cases h:(ps.drop k)<;>simp[lj,h]
 |p::ps,x::r,k+1=>uq k
theorem cg{α:Type}{l:List α}{k:Nat}{d:α}(h:k<l.length):l.getD k d=l[k]:=by rw[QZ,Q2 h];rfl
theorem cV{α a:Type}{f g:α->List a}:∀{l:List α},(∀x∈l,f x=g x)->l.flatMap f=l.flatMap g
 |[],_=>rfl
 |x::l,h=>by rw[R6,R6,h x Q7,cV λy b=>h y (Q1 _ b)]
theorem wE{ps:List (Nat×Nat)}{r:List Nat}(e:ps.length=r.length)(c:Nat):∀k,k<=r.length->((l_ ps r c k).flatMap λb=>(vB (ps.drop k) (r.drop k) b.2).map (b.1++·))=vB ps r c
 |0,_=>by simp[l_]
 |k+1,h=>by
  rw[<-wE e c k (by omega)];show((l_ ps r c k).flatMap _).flatMap _=_;rw[lA];refine R9 (YS · (l_ ps r c k)) (funext λb=>?_);have g:k<r.length:=by omega
  have j:k<ps.length:=by omega
  rw[R7 g,R7 j,cg g,cg j,qU,Tt];rw[mT (f:=λa=>(if ps[k].1<=a/\a<=ps[k].2 then(vB (ps.drop (k+1)) (r.drop (k+1)) (b.2-a)).map (a::·)else[]).map (b.1++·)) (N:=UL r[k] b.2+1) (lo:=max ps[k].1 (b.2-((lj ps r).drop (k+1)).sum)) (n:=UL (UL r[k] b.2+1) (UL (UL r[k] ps[k].2+((lg ps).drop (k+1)).sum) b.2+1-((lg ps).drop (k+1)).sum)) (λa o ha=>?_) (Nat.min_le_left _ _)]
  .unfold nxB
   rw[Vn,show UL (UL r[k] b.2+1) (UL (UL r[k] ps[k].2+((lg ps).drop (k+1)).sum) b.2+1-((lg ps).drop (k+1)).sum)=UL (UL r[k] ps[k].2+((lg ps).drop (k+1)).sum) b.2+1-((lg ps).drop (k+1)).sum by omega];refine cV λi l=>?_;have:=Rz.mp l;rw[Rb (by omega),Rc];exact RE λv _=>by simp
  .by_cases q:ps[k].1<=a/\a<=ps[k].2
   .rw[Rb q]at ha
    obtain⟨w,d⟩:=List.exists_mem_of_ne_nil _ ha;obtain⟨w,d,_⟩:=Rp.mp d;obtain⟨v,m,_⟩:=Rp.mp d;have:=JH (by simp[e]) m;rw[uq]at this;unfold lg at this⊢;rw[Vr]at this;omega
   .rw[Q8 q]at ha;exact RJ rfl ha
theorem Mv(c:Nat):vB [] [] c=if(c:Int)=0 then[[]]else[]:=by
 cases c with
 |zero=>rfl
 |succ n=>rw[Q8 (by omega)];rfl
theorem K6{ps:List (Nat×Nat)}{r:List Nat}(a:ps.length=r.length)(c:Nat):((l_ ps r c r.length).filter λb=>decide ((b.2:Int)=0)).map (·.1)=vB ps r c:=by
 rw[<-wE a c r.length (Rf _),T1,<-a,T1,a];generalize l_ ps r c r.length=l
 induction l with
 |nil=>rfl
 |cons b l ih=>
  rw[R6,Ul,<-ih,Mv];by_cases q:(b.2:Int)=0
  .rw[Rb q,Rb (Rv q)];simp
  .rw[Q8 q,Q8 (by simp;omega)];rfl
theorem wD{r:List Nat}(c:Nat):∀k,k<=r.length->(l_ ps r c k).length<=pr ((r.take k).map (·+1))
 |0,_=>Rf _
 |k+1,h=>by
  have e:r[k]?=on r[k]:=Q2 (by omega);rw[nM e];refine Ru (iK (n:=r[k]+1) λb _=>?_) (VA _ (wD c k (by omega)));unfold nxB;rw[QX,Ry,cg (show k<r.length by omega)];omega
theorem zH(ps:List (Nat×Nat))(r:List Nat)(c:Nat):∀k,∀b∈l_ ps r c k,b.2<=c/\b.1.length=k
 |0,b,h=>by cases RP.mp h;exact⟨Rf _,rfl⟩
 |k+1,b,h=>by
  obtain⟨d,hd,a⟩:=SV.mp (show b∈(l_ ps r c k).flatMap _ from h);obtain⟨i,_,rfl⟩:=Rp.mp a;obtain⟨q1,q2⟩:=zH ps r c k d hd;exact⟨by show d.2-_<=c;omega,by rw[Ro,q2];rfl⟩
theorem zr:∀{ps:List (Nat×Nat)} {r:List Nat},(lj ps r).sum<=r.sum
 |[],r=>Ss _
 |_::_,[]=>Rf _
 |p::ps,x::r=>by
  have:=zr (ps:=ps) (r:=r);simp only[lj,Rh];omega
theorem uU:∀{r v:List Nat} {c:Nat},r.sum<=c->g8 v r->H_ (r.map λ_=>(0,c)) v=Q4
 |[],[],_,_,_=>rfl
 |x::r,a::v,c,h,q=>by
  rw[Rh]at h;show(decide (0<=a)&&decide (a<=c)&&H_ (r.map λ_=>(0,c)) v)=Q4;rw[uU (by omega) q.2,Rv (Ss a),Rv (by have:=q.1;omega)];rfl
 |[],_::_,_,_,h=>h.elim
 |_::_,[],_,_,h=>h.elim
abbrev Wy:=Nat->List Nat->List (List Nat)
def B9(cs:List Nat)(W:Wy):Prop:=∀k r,(W k r).Sublist (bc r (cs.getD k 0))
def S_(W:Wy)(L:List (List Nat))(k:Nat):LI:=L.flatMap λr=>(W k r).map λv=>nI (less r v)
def nwL(W:Wy)(L:List (List Nat))(k:Nat):List (List Nat):=(l4 (S_ W L k)).map λk=>k.map Int.toNat
section
variable{W:Wy}{cs rs:List Nat}
theorem kx:y∈S_ W L k↔∃r∈L,∃v∈W k r,y=nI (less r v):=by
 unfold S_;constructor
 .intro h
  obtain⟨r,a,h⟩:=SV.mp h;obtain⟨v,b,rfl⟩:=Rp.mp h;exact⟨r,a,v,b,rfl⟩
 .rintro⟨r,a,v,b,rfl⟩
  exact SV.mpr ⟨r,a,Rp.mpr ⟨v,b,rfl⟩⟩
theorem yn(L:List (List Nat))(k:Nat):(nwL W L k).map nI=l4 (S_ W L k):=by
 unfold nwL;rw[Rc];refine(RE λy a=>?_).trans (Zp _);obtain⟨r,_,v,_,rfl⟩:=kx.mp (eL.mp a);show nI ((nI _).map Int.toNat)=_;rw[tW];rfl
theorem nR:u∈nwL W L k↔∃r∈L,∃v∈W k r,u=less r v:=by
 constructor
 .intro h
  have:nI u∈l4 (S_ W L k):=by rw[<-yn];exact Rp.mpr ⟨u,h,rfl⟩
  obtain⟨r,a,v,b,e⟩:=kx.mp (eL.mp this);exact⟨r,a,v,b,je e⟩
 .rintro⟨r,a,v,b,rfl⟩
  exact Rp.mpr ⟨nI (less r v),eL.mpr (kx.mpr ⟨r,a,v,b,rfl⟩),tW _⟩
def hU(W:Wy)(rs:List Nat):Nat->List (List Nat)
 |0=>[rs]
 |k+1=>nwL W (hU W rs k) k
theorem u9:∀k,(hU W rs k).Nodup
 |0=>Uo _ _
 |k+1=>AO (f:=nI) (by show(Sj nI (nwL _ _ _)).Nodup;rw[yn];exact JI (nz _))
theorem jg(b:B9 cs W)(hs:rs.sum=cs.sum):∀k,k<=cs.length->∀r∈hU W rs k,g8 r rs/\r.sum=(cs.drop k).sum
 |0,_,r,h=>by cases RP.mp h;exact⟨g8.refl _,hs⟩
 |k+1,hk,u,h=>by
  obtain⟨r,c,v,a,rfl⟩:=nR.mp (show u∈nwL W (hU W rs k) k from h);have a:=(b k r).subset a;obtain⟨q1,q2⟩:=jg b hs k (by omega) r c;have q3:=(ck a).2.1;rw[q2,dF (by omega),Rh]at q3;exact⟨(bq a).less.tr q1,by omega⟩
theorem LQ(a:B9 cs W)(hs:rs.sum=cs.sum)(b:k<=cs.length):(hU W rs k).length<=pr (rs.dropLast.map (·+1)):=
 Ru (mD (u9 k) (m:=bc rs (cs.drop k).sum) λr c=>by
  obtain⟨d,e⟩:=jg a hs k b r c;rw[<-e];exact fW d) (iO _ _)
theorem LJ(a:B9 cs W)(hs:rs.sum=cs.sum)(e:1<=rs.length)(f:pr (rs.dropLast.map (·+1))<63)(g:k<cs.length):kN ((S_ W (hU W rs k) k).map j0)=on (.lst ((hU W rs (k+1)).map λr=>j0 (nI r))):=by
 refine(MQ (m:=(bc rs (cs.drop (k+1)).sum).map nI) ?_ (by rw[QX];exact Tl (iO _ _) f) ?_).trans ?_
 .intro x b
  obtain⟨r,c,v,d,rfl⟩:=kx.mp b;rw[QX,((bq ((a k r).subset d)).less.tr (jg a hs k (by omega) r c).1).len];exact e
 .intro x b
  obtain⟨r,c,v,d,rfl⟩:=kx.mp b;obtain⟨q1,q2⟩:=jg a hs (k+1) g (less r v) (nR.mpr ⟨r,c,v,d,rfl⟩);exact Rp.mpr ⟨less r v,by rw[<-q2];exact fW q1,rfl⟩
 .rw[<-yn,Rc];rfl
def kyW(W:Wy)(rs:List Nat)(n:Nat):List (Int×List Int):=(Re n).flatMap λk=>(hU W rs k).map λr=>((k:Int),nI r)
theorem BE:∀n,(kyW W rs n).Nodup
 |0=>List.nodup_nil
 |n+1=>by
  unfold kyW;rw[Uc,S9,R6,Vo,RX];refine Xv.mpr ⟨BE n,qh (λr s e=>je (VQ.mp e).2) (u9 n),λx a y b e=>?_⟩;subst e;obtain⟨k,c,h⟩:=SV.mp a;obtain⟨r,_,rfl⟩:=Rp.mp h;obtain⟨s,_,e⟩:=Rp.mp b;have:=(VQ.mp e).1;have d:=Rz.mp c;simp only at this;omega
def lk(W:Wy):Nat->Nat->List Nat->Nat
 |0,_,_=>1
 |j+1,k,r=>sm (W k r) λv=>lk W j (k+1) (less r v)
def ro(W:Wy):Nat->Nat->List Nat->Nat
 |0,_,_=>1
 |j+1,k,r=>sm (W k r) λv=>mu v*ro W j (k+1) (less r v)
theorem jZ{α:Type}{f g:α->Nat}{l m:List α}(h:l.Sublist m)(q:∀a∈m,f a<=g a):sm l f<=sm m g:=by
 induction h with
 |slnil=>exact Rf _
 |cons a _ ih=>rw[aZ];exact Ru (ih λx b=>q x (Q1 _ b)) (Nat.le_add_left _ _)
 |cons_cons a _ ih=>rw[aZ,aZ];exact W2 (q a Q7) (ih λx b=>q x (Q1 _ b))
theorem vN(a:B9 cs W):∀(j k:Nat) (r:List Nat),k+j=cs.length->ro W j k r<=wk r (cs.drop k)
 |0,k,r,h=>by rw[show k=cs.length by omega,T1];exact Rf _
 |j+1,k,r,h=>by
  rw[dF (by omega)];exact jZ (a k r) λv _=>Xe _ (vN a j (k+1) (less r v) (by omega))
noncomputable def D1:List (Nat×Nat)->List Nat->List (List Nat)
 |p::ps,x::r=>(Re (UL p.2 x+1-p.1)).flatMap λi=>(D1 ps r).map ((p.1+i)::·)
 |_,_=>[[]]
theorem CK:∀{ps:List (Nat×Nat)} {r:List Nat} {c:Nat},ps.length=r.length->(D1 ps r).filter (λv=>decide (v.sum=c))=vB ps r c
 |[],[],c,_=>by cases c<;>rfl
 |p::ps,x::r,c,h=>by
  have h':ps.length=r.length:=by simpa using h
  rw[qU,mT (lo:=p.1) (n:=UL (UL x c+1) (UL p.2 x+1)) (N:=UL x c+1) (λa d ha=>?_) (Nat.min_le_left _ _)]
  .show((Re (UL p.2 x+1-p.1)).flatMap λi=>(D1 ps r).map ((p.1+i)::·)).filter _=_
   rw[W8];have e:∀i,List.filter (λv=>decide (v.sum=c)) ((D1 ps r).map ((p.1+i)::·))=if p.1+i<=c then(vB ps r (c-(p.1+i))).map ((p.1+i)::·)else[]:=λi=>by
    rw[WO];by_cases q:p.1+i<=c
    .rw[Rb q,<-CK h']
     refine R9 (Sj _) (List.filter_congr λv _=>?_);show decide (((p.1+i)::v).sum=c)=_;rw[Rh];exact decide_eq_decide.mpr (by omega)
    .rw[Q8 q,WI.mpr,Ue]
     intro v _ z;have z:decide (((p.1+i)::v).sum=c)=Q4:=z;rw[Rh,R5]at z;omega
   rw[cV λi _=>e i];rw[mT (f:=λi=>if p.1+i<=c then(vB ps r (c-(p.1+i))).map ((p.1+i)::·)else[]) (lo:=0) (n:=UL (UL x c+1) (UL p.2 x+1)-p.1) (N:=UL p.2 x+1-p.1) (λa ha q=>⟨Ss _,?_⟩) (by omega),Y1]
   .refine cV λi b=>?_
    have:=Rz.mp b;rw[Sn,Rb (by omega),Rb (by omega)]
   .by_cases z:p.1+a<=c
    .omega
    .rw[Q8 z]at q;exact RJ rfl q
  .by_cases q:p.1<=a/\a<=p.2
   .omega
   .rw[Q8 q]at ha;exact RJ rfl ha
noncomputable def ly(ps:List (Nat×Nat))(r:List Nat):Nat->List (List Nat)
 |0=>[[]]
 |k+1=>(ly ps r k).flatMap λu=>(Re (UL (ps.getD k (0,0)).2 (r.getD k 0)+1-(ps.getD k (0,0)).1)).map λi=>u++[(ps.getD k (0,0)).1+i]
theorem xl{ps:List (Nat×Nat)}{r:List Nat}(c:ps.length=r.length):∀k,k<=r.length->((ly ps r k).flatMap λu=>(D1 (ps.drop k) (r.drop k)).map (u++·))=D1 ps r
 |0,_=>by simp[ly]
 |k+1,h=>by
  rw[<-xl c k (by omega)];show((ly ps r k).flatMap _).flatMap _=_;rw[lA];refine cV λu _=>?_;have a:k<r.length:=by omega
  have b:k<ps.length:=by omega
  rw[R7 a,R7 b,cg a,cg b];show _=((Re (UL ps[k].2 r[k]+1-ps[k].1)).flatMap λi=>(D1 (ps.drop (k+1)) (r.drop (k+1))).map ((ps[k].1+i)::·)).map (u++·);rw[Tt,Vn];refine cV λi _=>?_;rw[Rc];exact RE λv _=>by simp
theorem xk{ps:List (Nat×Nat)}{r:List Nat}(a:ps.length=r.length):ly ps r r.length=D1 ps r:=by
 rw[<-xl a r.length (Rf _),T1,<-a,T1];show _=(ly ps r ps.length).flatMap λu=>[u++[]];generalize ly ps r ps.length=l
 induction l with
 |nil=>rfl
 |cons x l ih=>rw[R6,<-ih,RX];rfl
theorem xj{r:List Nat}:∀k,k<=r.length->(ly ps r k).length<=pr ((r.take k).map (·+1))
 |0,_=>Rf _
 |k+1,h=>by
  have e:r[k]?=on r[k]:=Q2 (by omega);rw[nM e];refine Ru (iK (n:=r[k]+1) λb _=>?_) (VA _ (xj k (by omega)));rw[QX,Ry,cg (show k<r.length by omega)];omega
theorem BR:∀k,∀u∈ly ps r k,u.length=k
 |0,b,h=>by cases RP.mp h;rfl
 |k+1,b,h=>by
  obtain⟨d,hd,a⟩:=SV.mp (show b∈(ly ps r k).flatMap _ from h);obtain⟨i,_,rfl⟩:=Rp.mp a;rw[Ro,BR k d hd];rfl
def lst(W:Wy)(rs:List Nat):Nat->List (List (List Nat)×List Nat)
 |0=>[([],rs)]
 |k+1=>(lst W rs k).flatMap λq=>(W k q.2).map λv=>(q.1++[v],less q.2 v)
theorem zJ{α:Type}:∀l:List α,(sm l λ_=>1)=l.length
 |[]=>rfl
 |x::l=>by rw[aZ,zJ l,Rl,WP]
theorem u4(r:List Nat):0<mu r:=Nat.pos_of_ne_zero λz=>by
 have:=fF r;rw[z,Y3]at this;have:=kD r.sum;omega
theorem va(b:B9 cs W)(hs:rs.sum=cs.sum):∀k,k<=cs.length->∀q∈lst W rs k,g8 q.2 rs/\q.2.sum=(cs.drop k).sum/\q.1.length=k
 |0,_,q,h=>by cases RP.mp h;exact⟨g8.refl _,hs,rfl⟩
 |k+1,hk,u,h=>by
  obtain⟨q,c,d⟩:=SV.mp (show u∈(lst W rs k).flatMap _ from h);obtain⟨v,a,rfl⟩:=Rp.mp d;have a:=(b k q.2).subset a;obtain⟨q1,q2,q3⟩:=va b hs k (by omega) q c;have q4:=(ck a).2.1;rw[q2,dF (by omega),Rh]at q4;exact⟨(bq a).less.tr q1,by show(less q.2 v).sum=_;omega,by rw[Ro,q3];rfl⟩
theorem AV(a:B9 cs W):∀k,k<=cs.length->(sm (lst W rs k) λq=>wk q.2 (cs.drop k))<=wk rs cs
 |0,_=>Rf _
 |k+1,h=>by
  refine Ru ?_ (AV a k (by omega));show sm ((lst W rs k).flatMap _) _<=_;rw[j3];refine jZ (Vz _) λq _=>?_;rw[l5,dF (k:=k) (by omega)];exact jZ (a k q.2) λv _=>Nat.le_mul_of_pos_left _ (u4 v)
theorem LR(a:B9 cs W)(hs:rs.sum=cs.sum)(b:k<=cs.length):(lst W rs k).length<=mu rs:=by
 rw[<-gm cs rs hs,<-zJ];refine Ru (jZ (Vz _) λq c=>?_) (AV a k b);rw[gm _ _ (va a hs k b q c).2.1];exact u4 _
def R_(W:Wy)(j k:Nat)(r:List Nat):List (List Nat):=(W k r).filter λv=>decide ((0:Int)<((lk W j (k+1) (less r v):Nat):Int))
def ri(f:List Nat->Nat):List (List Nat)->Nat->List Nat×Nat
 |[],n=>([],n)
 |v::l,n=>if n<f v then(v,n)else ri f l (n-f v)
theorem vI:∀{l:List (List Nat)} {n:Nat},n<sm l f->(ri f l n).1∈l/\(ri f l n).2<f (ri f l n).1
 |[],n,h=>by cases h
 |v::l,n,h=>by
  unfold ri;rw[aZ]at h;by_cases q:n<f v
  .rw[Rb q];exact⟨Q7,q⟩
  .rw[Q8 q]
   obtain⟨a,b⟩:=vI (f:=f) (l:=l) (n:=n-f v) (by omega);exact⟨Q1 _ a,b⟩
def C_(W:Wy):Nat->Nat->List Nat->Nat->List (List Nat)
 |0,_,_,_=>[]
 |j+1,k,r,n=>(ri (λv=>lk W j (k+1) (less r v)) (R_ W j k r) n).1::C_ W j (k+1) (less r (ri (λv=>lk W j (k+1) (less r v)) (R_ W j k r) n).1) (ri (λv=>lk W j (k+1) (less r v)) (R_ W j k r) n).2
def Wk(W:Wy):Nat->List Nat->List (List Nat)->Prop
 |_,_,[]=>True
 |k,r,v::vs=>v∈W k r/\Wk W (k+1) (less r v) vs
theorem ux{α:Type}{f:α->Nat}:∀{l:List α},sm (l.filter λv=>decide ((0:Int)<((f v:Nat):Int))) f=sm l f
 |[]=>rfl
 |v::l=>by
  rw[Ul];by_cases q:(0:Int)<((f v:Nat):Int)
  .rw[Rb (Rv q),aZ,aZ,ux]
  .rw[Q8 (λz=>q (Sk z)),aZ,ux];omega
theorem zF(j k:Nat)(r:List Nat):(sm (R_ W j k r) λv=>lk W j (k+1) (less r v))=lk W (j+1) k r:=ux
theorem vi:∀{j k n:Nat} {r:List Nat},(C_ W j k r n).length=j
 |0,_,_,_=>rfl
 |j+1,k,n,r=>by unfold C_;rw[Rl,vi]
theorem yA:∀{j k n:Nat} {r:List Nat},n<lk W j k r->Wk W k r (C_ W j k r n)
 |0,_,_,_,_=>trivial
 |j+1,k,n,r,h=>by
  rw[<-zF]at h;obtain⟨a,b⟩:=vI h;exact⟨(SI.mp a).1,yA b⟩
theorem yy{α:Type}{f:α->Nat}{a:α}:∀{l:List α},a∈l->f a<=sm l f
 |b::l,h=>by
  rw[aZ];rcases Rq.mp h with rfl|h
  .omega
  .have:=yy (f:=f) h;omega
theorem zi:∀{j k:Nat} {r:List Nat} {vs:List (List Nat)},Wk W k r vs->vs.length=j->0<lk W j k r
 |_,_,_,[],_,rfl=>Nat.one_pos
 |_,k,r,v::vs,h,rfl=>RH (zi h.2 rfl) (yy (f:=λv=>lk W vs.length (k+1) (less r v)) h.1)
theorem Py{vs:List (List Nat)}(h:Wk W k r (v::vs))(e:vs.length=j):v∈R_ W j k r:=SI.mpr ⟨h.1,Rv (by have:=zi h.2 e;omega)⟩
def wl(f:List Nat->Nat)(v:List Nat):List (List Nat)->Nat
 |[]=>0
 |u::l=>if u=v then 0 else f u+wl f v l
def L3(W:Wy):Nat->List Nat->List (List Nat)->Nat
 |_,_,[]=>0
 |k,r,v::vs=>wl (λu=>mu u*ro W vs.length (k+1) (less r u)) v (R_ W vs.length k r)+mu v*L3 W (k+1) (less r v) vs
def bG(u v:List Nat):List Nat:=VP (·+·) u v
def et(n:Nat):List (List Nat)->List Nat
 |[]=>Rr n 0
 |v::vs=>bG v (et n vs)
theorem o3:∀{v r:List Nat},v.length=r.length->less (bG v r) v=r/\g8 v (bG v r)
 |[],[],_=>⟨rfl,trivial⟩
 |x::v,y::r,h=>by
  obtain⟨a,b⟩:=o3 (v:=v) (r:=r) (by simpa using h);refine⟨?_,Uq _ _,b⟩;show(x+y-x)::less (bG v r) v=_;rw[a,Vd]
theorem pz:∀{v r:List Nat},g8 v r->bG v (less r v)=r
 |[],[],_=>rfl
 |x::v,y::r,h=>by
  show(x+(y-x))::bG v (less r v)=_;rw[pz h.2,Nat.add_sub_cancel' h.1]
 |[],_::_,h=>h.elim
 |_::_,[],h=>h.elim
theorem cZ:∀{vs:List (List Nat)},(∀v∈vs,v.length=n)->(et n vs).length=n
 |[],_=>Td
 |v::vs,h=>by
  show(VP _ _ _).length=n;rw[VG,h v Q7,cZ λu a=>h u (Q1 _ a),Xz]
theorem MN:∀{r:List Nat},r.sum=0->r=Rr r.length 0
 |[],_=>rfl
 |x::r,h=>by
  rw[Rh]at h;obtain rfl:x=0:=by omega
  rw[Rl,SN,<-MN (r:=r) (by omega)]
theorem nh(a:B9 cs W):∀{vs:List (List Nat)} {k:Nat} {r:List Nat},Wk W k r vs->k+vs.length=cs.length->r.sum=(cs.drop k).sum->vs.map SF=cs.drop k/\r=et r.length vs/\∀v∈vs,v.length=r.length
 |[],k,r,_,e,s=>by
  have f:cs.drop k=[]:=S5 (by simpa using e▸Rf _);rw[f]at s⊢;exact⟨rfl,MN s,λ_ h=>by cases h⟩
 |v::vs,k,r,h,e,s=>by
  rw[Rl]at e;have b:=(a k r).subset h.1;obtain⟨q1,q2,q3,_⟩:=ck b;have le:=bq b;rw[dF (by omega),Rh]at s;obtain⟨g,c,d⟩:=nh a h.2 (by omega) (by omega);have i:=le.less.len;rw[i]at c d;refine⟨by rw[dF (by omega),Rk,g,q1],?_,λu hu=>?_⟩
  .show r=bG v (et r.length vs)
   rw[<-c,pz le]
  .rcases Rq.mp hu with rfl|hu
   .exact q3
   .exact d u hu
theorem JD:∀{vs:List (List Nat)} {k:Nat},(∀v∈vs,v.length=n)->(∀i r v,vs[i]?=on v->g8 v r->v∈W (k+i) r)->Wk W k (et n vs) vs
 |[],_,_,_=>trivial
 |v::vs,k,h,hw=>by
  have b:∀u∈vs,u.length=n:=λu a=>h u (Q1 _ a);obtain⟨c,d⟩:=o3 (v:=v) (r:=et n vs) (by rw[h v Q7,cZ b]);refine⟨hw 0 _ v rfl d,?_⟩;show Wk W (k+1) (less (bG v (et n vs)) v) vs;rw[c];exact JD b λi r u a le=>by
   have:=hw (i+1) r u a le;rwa[show k+(i+1)=k+1+i by omega]at this
theorem z5:∀{l:List Nat} {i x y:Nat},l[i]?=on x->pr (l.set i y)*x=pr l*y
 |a::l,0,x,y,h=>by
  cases h;show y*pr l*a=a*pr l*y;rw[SD y,Sx,SD y a,<-Sx,SD (pr l) a]
 |a::l,i+1,x,y,h=>by
  have:=z5 (l:=l) (i:=i) (x:=x) (y:=y) h;show a*pr (l.set i y)*x=a*pr l*y;rw[Sx,this,Sx]
theorem gA:∀{l:List Nat} {i x y:Nat},l[i]?=on x->(l.set i y).sum+x=l.sum+y
 |a::l,0,x,y,h=>by
  cases h;show(y::l).sum+a=(a::l).sum+y;rw[Rh,Rh];omega
 |a::l,i+1,x,y,h=>by
  have:=gA (l:=l) (i:=i) (x:=x) (y:=y) h;show(a::l.set i y).sum+x=(a::l).sum+y;rw[Rh,Rh];omega
theorem JG:∀(r:List Nat),(bc r r.sum).length<=1
 |[]=>Rf _
 |x::r=>by
  have h:bc (x::r) (x::r).sum=(Re (UL x (x+r.sum)+1)).flatMap λa=>(bc r (x+r.sum-a)).map (a::·):=by rw[Rh];rfl
  rw[h,show UL x (x+r.sum)=x by omega,Uc,S9,Ro];have e:((Re x).flatMap λa=>(bc r (x+r.sum-a)).map (a::·))=[]:=by
   refine Um.mpr λa ha=>?_;have:=Rz.mp ha;rw[DC (by omega)];rfl
  rw[e,R6,Vo,RX,QX,Vd];have:=JG r;simpa using this
theorem g8.dl:∀{u v:List Nat},g8 u v->g8 u.dropLast v.dropLast
 |[],[],_=>trivial
 |[_],[_],_=>trivial
 |_::_::_,_::_::_,h=>⟨h.1,h.2.dl⟩
 |[_],_::_::_,h=>h.2.elim
 |_::_::_,[_],h=>h.2.elim
 |[],_::_,h=>h.elim
 |_::_,[],h=>h.elim
theorem x6{α:Type}{f:α->Nat}{n:Nat}:∀{l:List α},(∀a∈l,f a<=n)->sm l f<=l.length*n
 |[],_=>Ss _
 |a::l,h=>by
  rw[aZ,Rl,Y2,WP];exact W2 (x6 λb c=>h b (Q1 _ c)) (h a Q7)
theorem JK{W:Wy}{cs rs:List Nat}(a:B9 cs W)(b:pr (rs.dropLast.map (·+1))<63):∀(j k:Nat) (r:List Nat),k+(j+1)=cs.length->r.sum=(cs.drop k).sum->g8 r rs->lk W (j+1) k r<=62^j
 |0,k,r,e,s,_=>by
  rw[dF (by omega),S5 (by omega)]at s;have s':r.sum=cs.getD k 0:=by simpa using s
  refine Ru (x6 (n:=1) λ_ _=>Rf _) ?_;have:=(a k r).length_le;rw[<-s']at this;have:=JG r;omega
 |j+1,k,r,e,s,le=>by
  refine Ru (x6 (n:=62^j) λv c=>?_) ?_
  .have hm:=(a k r).subset c
   have q:=(ck hm).2.1;rw[dF (by omega),Rh]at s;exact JK a b j (k+1) (less r v) (by omega) (by omega) ((bq hm).less.tr le)
  .rw[Y0,SD]
   refine Xe _ ?_;have:=(a k r).length_le;have:=iO r (cs.getD k 0);have:=le.dl.pr;omega
theorem BZ{W:Wy}{cs:List Nat}(a:∀k r,k<cs.length->r.length=n->r.sum<=40->W k r=bc r (cs.getD k 0)):∀(j k:Nat) (r:List Nat),k+j=cs.length->r.length=n->r.sum<=40->ro W j k r=wk r (cs.drop k)
 |0,k,r,e,_,_=>by rw[show k=cs.length by omega,T1];rfl
 |j+1,k,r,e,l,s=>by
  rw[dF (by omega)];show sm (W k r) _=sm (bc r (cs.getD k 0)) _;rw[a k r (by omega) l s];refine bM λv b=>?_;have q:=(ck b).2.1;rw[BZ a j (k+1) (less r v) (by omega) (by rw[(bq b).less.len,l]) (by omega)]
theorem Pk{u v:List Nat}{i x y:Nat}(a:u[i]?=on x)(b:v[i]?=on y):(bG u v)[i]?=on (x+y):=by
 unfold bG;rw[YX,a,b]
theorem gB:∀{vs:List (List Nat)},(∀v∈vs,v.length=n)->(et n vs).sum=(vs.map SF).sum
 |[],_=>by
  have z:∀m,(Rr m 0).sum=0:=λm=>by
   induction m with
   |zero=>rfl
   |succ m ih=>rw[SN,Rh,ih]
  exact z n
 |v::vs,h=>by
  have c:∀w∈vs,w.length=n:=λw d=>h w (Q1 _ d);have s:∀{u w:List Nat},u.length=w.length->(bG u w).sum=u.sum+w.sum:=λ{u}=>by
   induction u with
   |nil=>intro w q;cases w with
    |nil=>rfl
    |cons=>simp at q
   |cons a u ih=>intro w q;cases w with
    |nil=>simp at q
    |cons b w=>
     show((a+b)::bG u w).sum=_;rw[Rh,Rh,Rh,ih (by simpa using q)];omega
  rw[Rk,Rh,<-gB c];exact s (by rw[h v Q7,cZ c])
theorem gc:∀{vs:List (List Nat)},(∀v∈vs,v.length=n)->i<n->(et n vs).getD i 0=(vs.map λv=>v.getD i 0).sum
 |[],_,hi=>by
  show(Rr n 0).getD i 0=0;rw[QZ,Ts,Rb hi];rfl
 |v::vs,h,hi=>by
  have a:∀w∈vs,w.length=n:=λw b=>h w (Q1 _ b);have c:=h v Q7;have d:=cZ a;rw[Rk,Rh,<-gc a hi];show(bG v (et n vs)).getD i 0=_;rw[QZ,Pk (Q2 (by omega)) (Q2 (by omega)),cg (by omega),cg (by omega)];rfl
theorem JE{W:Wy}:∀{j k:Nat} {r:List Nat} {vs:List (List Nat)},Wk W k r vs->vs.length=j->pr (vs.map mu)<=ro W j k r
 |_,_,_,[],_,rfl=>Rf _
 |_,k,r,v::vs,h,rfl=>Ru (Xe (mu v) (JE h.2 rfl)) (yy (f:=λv=>mu v*ro W vs.length (k+1) (less r v)) h.1)
def kl(W:Wy):Nat->Nat->List Nat->List (List (List Nat))
 |0,_,_=>[[]]
 |j+1,k,r=>(W k r).flatMap λv=>(kl W j (k+1) (less r v)).map (v::·)
def wt(vs:List (List Nat)):Nat:=pr (vs.map mu)
theorem xa(m:Nat):∀k,k<=m->((lst W rs k).flatMap λq=>(kl W (m-k) k q.2).map (q.1++·))=kl W m 0 rs
 |0,_=>by
  show(kl W (m-0) 0 rs).map ([]++·)++[]=_;rw[RX,Y1];exact(RE λx _=>Ub x).trans (Zp _)
 |k+1,h=>by
  rw[<-xa m k (by omega)];show((lst W rs k).flatMap _).flatMap _=_;rw[lA];refine cV λq _=>?_;rw[show m-k=m-(k+1)+1 by omega,Vn];show _=((W k q.2).flatMap λv=>(kl W (m-(k+1)) (k+1) (less q.2 v)).map (v::·)).map (q.1++·);rw[Tt];refine cV λv _=>?_;rw[Rc];exact RE λu _=>by simp
theorem Qj(m:Nat):(lst W rs m).map (·.1)=kl W m 0 rs:=by
 rw[<-xa m m (Rf _),VW];generalize lst W rs m=l
 induction l with
 |nil=>rfl
 |cons q l ih=>rw[Rk,R6,ih];simp[kl]
theorem wR:∀(j k:Nat) (r:List Nat),(kl W j k r).length=lk W j k r
 |0,_,_=>rfl
 |j+1,k,r=>by
  show((W k r).flatMap _).length=_;rw[List.length_flatMap];show _=((W k r).map _).sum;congr 1;exact RE λv _=>by rw[QX,wR]
theorem wQ:∀(j k:Nat) (r:List Nat),sm (kl W j k r) wt=ro W j k r
 |0,_,_=>rfl
 |j+1,k,r=>by
  show sm ((W k r).flatMap _) wt=_;rw[j3];refine bM λv _=>?_;rw[l5,<-wQ j (k+1) (less r v),<-f8];rfl
theorem kn:∀{j k:Nat} {r:List Nat} {vs:List (List Nat)},vs∈kl W j k r->Wk W k r vs/\vs.length=j
 |0,_,_,vs,h=>by cases RP.mp h;exact⟨trivial,rfl⟩
 |j+1,k,r,vs,h=>by
  obtain⟨v,a,b⟩:=SV.mp (show vs∈(W k r).flatMap _ from h);obtain⟨us,c,rfl⟩:=Rp.mp b;obtain⟨d,e⟩:=kn c;exact⟨⟨a,d⟩,by rw[Rl,e]⟩
theorem jW:∀(r:List Nat) (c:Nat),(bc r c).Nodup
 |[],0=>Uo _ _
 |[],_+1=>List.nodup_nil
 |x::r,c=>by
  show((Re (UL x c+1)).flatMap λa=>(bc r (c-a)).map (a::·)).Nodup;refine YY.mpr ⟨λa _=>qh (λ_ _ e=>(Us e).2) (jW r (c-a)),WA.imp λ{a b} n u d w f e=>?_⟩;obtain⟨_,_,rfl⟩:=Rp.mp d;obtain⟨_,_,rfl⟩:=Rp.mp f;exact n (Us e).1
theorem K8{α:Type}{l m:List α}{f:α->Nat}(p:l.Perm m):sm l f=sm m f:=by unfold sm;exact(p.map f).sum_nat
theorem uz{α d:Type} [DecidableEq d]{f:α->d}{G:d->Nat}:∀{l:List α} {m:List d},l.Nodup->m.Nodup->(∀a∈l,f a∈m)->(∀a∈l,∀b∈l,f a=f b->a=b)->(∀c∈m,∃a∈l,f a=c)->(sm l λa=>G (f a))=sm m G
 |[],m,_,_,_,_,h=>by
  cases m with
  |nil=>rfl
  |cons c m=>obtain⟨a,ha,_⟩:=h c Q7;cases ha
 |a::l,m,nl,nm,h1,h2,h3=>by
  have ha:=h1 a Q7;obtain⟨j,g⟩:=Sb.mp nl;rw[aZ,K8 (List.perm_cons_erase ha),aZ];congr 1;refine uz g (nm.erase _) (λb hb=>nm.mem_erase_iff.mpr ⟨λe=>j ((h2 a Q7 b (Q1 _ hb) e.symm)▸hb),h1 b (Q1 _ hb)⟩) (λb hb c i=>h2 b (Q1 _ hb) c (Q1 _ i)) λc i=>?_;obtain⟨ne,hm⟩:=nm.mem_erase_iff.mp i;obtain⟨b,hb,rfl⟩:=h3 c hm;rcases Rq.mp hb with rfl|hb
  .exact RJ rfl ne
  .exact⟨b,hb,rfl⟩
def jn{α:Type}(f:α->α->α)(d:α)(i j:Nat)(l:List α):List α:=(l.set i (f (l.getD i d) (l.getD j d))).eraseIdx j
def qk(j k:Nat):Nat:=if k<j then k else k+1
def ni(j k:Nat):Nat:=if k<j then k else k-1
def ins{α:Type}(d:α)(i j n:Nat)(u:List α)(a b:α):List α:=(Re n).map λk=>if k=i then a else if k=j then b else u.getD (ni j k) d
theorem su(h:k≠j):qk j (ni j k)=k:=by unfold qk ni;split<;>first|omega|(split<;>omega)
theorem us_:ni j (qk j k)=k:=by unfold qk ni;split<;>first|omega|(split<;>omega)
theorem sn:qk j k≠j:=by unfold qk;split<;>omega
theorem tL(a:k<n)(b:j<n)(h:k≠j):ni j k<n-1:=by unfold ni;split<;>omega
theorem x9(a:k<n-1):qk j k<n:=by unfold qk;split<;>omega
variable{α:Type}{f:α->α->α}{d a b:α}{i j n:Nat}{l u:List α}
theorem lB{m:List α}(d:α)(h:l.length=m.length)(e:∀k<l.length,l.getD k d=m.getD k d):l=m:=Tq h λk c g=>by
 have:=e k c;rwa[cg c,cg g]at this
theorem cE(c:j<l.length):(jn f d i j l).length=l.length-1:=by
 unfold jn;rw[VZ (by rw[RV];exact c),RV]
theorem dE(c:i<l.length):(jn f d i j l).getD k d=if qk j k=i then f (l.getD i d) (l.getD j d)else l.getD (qk j k) d:=by
 unfold jn qk;rw[QZ,List.getElem?_eraseIdx];by_cases q:k<j
 .rw[Rb q,Rb q,R4]
  by_cases z:i=k
  .rw[Rb z,Rb (z▸c),Rb z.symm];rfl
  .rw[Q8 z,Q8 (Ne.symm z),QZ]
 .rw[Q8 q,Q8 q,R4]
  by_cases z:i=k+1
  .rw[Rb z,Rb (z▸c),Rb z.symm];rfl
  .rw[Q8 z,Q8 (Ne.symm z),QZ]
theorem kB:(ins d i j n u a b).length=n:=by unfold ins;rw[QX,Ry]
theorem g0(c:k<n):(ins d i j n u a b).getD k d=if k=i then a else if k=j then b else u.getD (ni j k) d:=by
 unfold ins;rw[QZ,Q5,Se c];rfl
theorem qz(e:l.length=n)(g:i<n)(h:j<n):ins d i j n (jn f d i j l) (l.getD i d) (l.getD j d)=l:=lB d (kB.trans e.symm) λk c=>by
 rw[kB]at c;rw[g0 c];by_cases q:k=i
 .rw[Rb q,q]
 .rw[Q8 q]
  by_cases z:k=j
  .rw[Rb z,z]
  .rw[Q8 z,dE (by omega),su z,Q8 q]
theorem BH(g:u.length=n-1)(h:i<n)(m:j<n)(ne:i≠j)(o:u.getD (ni j i) d=f a b):jn f d i j (ins d i j n u a b)=u:=by
 have c:(ins d i j n u a b).length=n:=kB;refine lB d (by rw[cE (by omega),c,g]) λk e=>?_;rw[cE (by omega),c]at e;rw[dE (by omega),g0 h,g0 m,Rb rfl,Q8 ne.symm,Rb rfl,g0 (x9 e),Q8 sn,us_];by_cases q:qk j k=i
 .rw[Rb q,<-o,<-q,us_]
 .rw[Q8 q,Q8 q]
theorem uO:∀{m:List Nat} {j x:Nat},m[j]?=on x->pr (m.eraseIdx j)*x=pr m
 |y::m,0,x,h=>by cases h;exact SD _ _
 |y::m,j+1,x,h=>by
  show y*pr (m.eraseIdx j)*x=y*pr m;rw[Sx,uO (show m[j]?=on x from h)]
theorem uy:∀{m:List Nat} {j x:Nat},m[j]?=on x->(m.eraseIdx j).sum+x=m.sum
 |y::m,0,x,h=>by cases h;rw[YF,Rh];omega
 |y::m,j+1,x,h=>by
  have:=uy (show m[j]?=on x from h);rw[YE,Rh,Rh];omega
theorem BG(g:α->Nat)(c:j<l.length)(ne:i≠j):((l.map g).set i (g (f (l.getD i d) (l.getD j d))))[j]?=on (g (l.getD j d)):=by
 rw[R4,Q8 ne,Q5,cg c,Q2 c];rfl
theorem FK(g:α->Nat):(jn f d i j l).map g=((l.map g).set i (g (f (l.getD i d) (l.getD j d)))).eraseIdx j:=by unfold jn;rw[dP,Uv]
theorem Kw(g:α->Nat)(c:i<l.length)(e:j<l.length)(ne:i≠j):pr ((jn f d i j l).map g)*(g (l.getD i d)*g (l.getD j d))=pr (l.map g)*g (f (l.getD i d) (l.getD j d)):=by
 rw[FK,SD (g (l.getD i d)),<-Sx,uO (BG g e ne)];exact z5 (by rw[Q5,cg c,Q2 c];rfl)
theorem BF(g:α->Nat)(c:i<l.length)(e:j<l.length)(ne:i≠j):((jn f d i j l).map g).sum+(g (l.getD i d)+g (l.getD j d))=(l.map g).sum+g (f (l.getD i d) (l.getD j d)):=by
 have h:=uy (BG (f:=f) (d:=d) g e ne);have k:=gA (l:=l.map g) (i:=i) (x:=g (l.getD i d)) (y:=g (f (l.getD i d) (l.getD j d))) (by rw[Q5,cg c,Q2 c];rfl);rw[FK];omega
abbrev jv(i j:Nat)(v:List Nat):List Nat:=jn (·+·) 0 i j v
abbrev p2(i j:Nat)(v:List Nat):List Nat:=[v.getD i 0,v.getD j 0]
end
section
variable{i j n:Nat}{v r u:List Nat}
theorem qu(a:i<v.length)(b:j<v.length)(ne:i≠j):(jv i j v).sum=v.sum:=by
 have:=BF (f:=(·+·)) (d:=0) (l:=v) (λx=>x) a b ne;rw[List.map_id',List.map_id']at this;show(jn _ _ _ _ _).sum=_;omega
theorem u3(a:i<v.length)(b:j<v.length)(ne:i≠j):mu v=mu (jv i j v)*mu (p2 i j v):=by
 have g:=fF v;have c:=fF (jv i j v);have e:=fF (p2 i j v);have h:=Kw (f:=(·+·)) (d:=0) (l:=v) dc a b ne;rw[qu a b ne]at c;have k:pr ((p2 i j v).map dc)=dc (v.getD i 0)*dc (v.getD j 0):=by
  show dc (v.getD i 0)*(dc (v.getD j 0)*1)=_;rw[Nat.mul_one]
 have m:(p2 i j v).sum=v.getD i 0+v.getD j 0:=by
  show[_,_].sum=_;rw[Rh,Rh,VO,Ux]
 rw[k,m]at e;refine V6 (nK v) (V6 (kD (v.getD i 0+v.getD j 0)) ?_)
 calc mu v*pr (v.map dc)*dc (v.getD i 0+v.getD j 0)=dc v.sum*dc (v.getD i 0+v.getD j 0):=by rw[g]
  _=(mu (jv i j v)*pr ((jv i j v).map dc))*(mu (p2 i j v)*(dc (v.getD i 0)*dc (v.getD j 0))):=by rw[c,e]
  _=mu (jv i j v)*mu (p2 i j v)*(pr ((jv i j v).map dc)*(dc (v.getD i 0)*dc (v.getD j 0))):=by simp only[Sx,TW,SD]
  _=mu (jv i j v)*mu (p2 i j v)*(pr (v.map dc)*dc (v.getD i 0+v.getD j 0)):=by rw[h]
  _=_:=by rw[Sx,Sx,Sx]
theorem s9:∀{v r:List Nat},g8 v r->∀k,v.getD k 0<=r.getD k 0
 |[],[],_,k=>Rf _
 |x::v,y::r,h,0=>h.1
 |x::v,y::r,h,k+1=>s9 h.2 k
 |[],_::_,h,_=>h.elim
 |_::_,[],h,_=>h.elim
theorem leI:∀{v r:List Nat},v.length=r.length->(∀k<v.length,v.getD k 0<=r.getD k 0)->g8 v r
 |[],[],_,_=>trivial
 |x::v,y::r,h,e=>⟨e 0 (Nat.zero_lt_succ _),leI (by simpa using h) λk a=>e (k+1) (Nat.succ_lt_succ a)⟩
 |[],_::_,h,_=>by simp at h
 |_::_,[],h,_=>by simp at h
theorem k7:∀{v r:List Nat},g8 v r->∀k,(less r v).getD k 0=r.getD k 0-v.getD k 0
 |[],[],_,k=>rfl
 |x::v,y::r,h,0=>rfl
 |x::v,y::r,h,k+1=>k7 h.2 k
 |[],_::_,h,_=>h.elim
 |_::_,[],h,_=>h.elim
theorem L0(le:g8 v r)(a:i<r.length)(b:j<r.length):jv i j (less r v)=less (jv i j r) (jv i j v)/\g8 (jv i j v) (jv i j r):=by
 have l1:=le.len;have c:=le.less.len;have e:g8 (jv i j v) (jv i j r):=leI (by rw[cE (by omega),cE b,l1]) λk _=>by
  rw[dE (by omega),dE a];have:=s9 le i;have:=s9 le j;split
  .show _+_<=_+_
   omega
  .exact s9 le _
 refine⟨lB 0 (by rw[cE (by omega),e.less.len,cE b,c]) λk _=>?_,e⟩;rw[k7 e,dE (l:=less r v) (by omega),dE (l:=r) a,dE (l:=v) (by omega),k7 le,k7 le,k7 le];have:=s9 le i;have:=s9 le j;split
 .show _+_=_+_-(_+_)
  omega
 .rfl
theorem NN{G:List Nat->Nat}(g:r.length=n)(m:i<n)(o:j<n)(ne:i≠j)(le:g8 u (jv i j r)):
  (sm ((bc r u.sum).filter λv=>decide (jv i j v=u)) λv=>G (p2 i j v))=sm (bc (p2 i j r) (u.getD (ni j i) 0)) G:=by
 have J:u.length=n-1:=by rw[le.len,cE (by omega),g]
 have L:∀{v:List Nat},v.length=n->jv i j v=u->u.getD (ni j i) 0=v.getD i 0+v.getD j 0:=λ{v} C e=>by rw[<-e,dE (by omega),su ne,Rb rfl]
 refine uz ((jW _ _).filter _) (jW _ _) (λv t=>?_) (λv t w p e=>?_) λw p=>?_
 .obtain⟨y,A⟩:=SI.mp t
  have c:=bq y;rw[L (c.len.trans g) (Sk A)];have:v.getD i 0+v.getD j 0=(p2 i j v).sum:=by
   show _=[_,_].sum;rw[Rh,Rh,VO,Ux]
  rw[this];exact fW ⟨s9 c i,s9 c j,trivial⟩
 .obtain⟨y,A⟩:=SI.mp t
  obtain⟨N,O⟩:=SI.mp p;have C:=(bq y).len.trans g;have h:=(bq N).len.trans g;rw[<-qz (f:=(·+·)) (d:=0) C m o,<-qz (f:=(·+·)) (d:=0) h m o];have F:=Us e;rw[show jn (·+·) 0 i j v=u from Sk A,show jn (·+·) 0 i j w=u from Sk O,F.1,(Us F.2).1]
 .have h:=bq p
  obtain⟨a,b,rfl⟩:∃a b,w=[a,b]:=by
   have:=h.len
   match w,this with
   |[a,b],_=>exact⟨a,b,rfl⟩
  have hs:=(ck p).1;rw[Rh,Rh,VO,Ux]at hs;have l:=BH (f:=(·+·)) (d:=0) (a:=a) (b:=b) J m o ne hs.symm;have H:(ins 0 i j n u a b).length=n:=kB;have B:g8 (ins 0 i j n u a b) r:=leI (by rw[H,g]) λk I=>by
   rw[H]at I;rw[g0 I];by_cases q:k=i
   .rw[Rb q,q];exact h.1
   .rw[Q8 q]
    by_cases z:k=j
    .rw[Rb z,z];exact h.2.1
    .rw[Q8 z]
     have:=s9 le (ni j k);rwa[dE (by omega),su z,Q8 q]at this
  have Q:(ins 0 i j n u a b).sum=u.sum:=by
   rw[<-qu (i:=i) (j:=j) (by omega) (by omega) ne];exact R9 SF l
  refine⟨ins 0 i j n u a b,SI.mpr ⟨by rw[<-Q];exact fW B,Rv l⟩,?_⟩;show[_,_]=_;rw[g0 m,g0 o,Rb rfl,Q8 ne.symm,Rb rfl]
def W0(cs:List Nat):Wy:=λk r=>bc r (cs.getD k 0)
theorem JR{α:Type}{p:α->Prop} [DecidablePred p]{f:α->Nat}:∀{l:List α},(sm l λa=>if p a then f a else 0)=sm (l.filter λa=>decide (p a)) f
 |[]=>rfl
 |a::l=>by
  rw[aZ,Ul,JR];by_cases q:p a
  .rw[Rb q,Rb (Rv q),aZ]
  .rw[Q8 q,Q8 (λz=>q (Sk z)),Sn]
theorem wM{i j n:Nat}(d:i<n)(e:j<n)(ne:i≠j):∀{us:List (List Nat)} {k:Nat} {r:List Nat},r.length=n->Wk (W0 cs) k (jv i j r) us->
  sm ((kl (W0 cs) us.length k r).filter λvs=>decide (vs.map (jv i j)=us)) wt=wt us*wk (p2 i j r) (us.map λu=>u.getD (ni j i) 0)
 |[],k,r,_,_=>rfl
 |u::us,k,r,hl,h=>by
  obtain⟨g,l⟩:=h;have b:u∈bc (jv i j r) (cs.getD k 0):=g;have le:=bq b;have su:=(ck b).1;show sm (((bc r (cs.getD k 0)).flatMap λv=>(kl (W0 cs) us.length (k+1) (less r v)).map (v::·)).filter _) wt=_;rw[W8,j3];have m:(sm (bc r (cs.getD k 0)) λv=>sm (((kl (W0 cs) us.length (k+1) (less r v)).map (v::·)).filter λvs=>decide (vs.map (jv i j)=u::us)) wt)=sm (bc r (cs.getD k 0)) λv=>if jv i j v=u then mu v*sm ((kl (W0 cs) us.length (k+1) (less r v)).filter λvs=>decide (vs.map (jv i j)=us)) wt else 0:=bM λv _=>by
   rw[WO,l5];by_cases q:jv i j v=u
   .rw[Rb q,<-f8]
    have:((λvs=>decide (Sj (jv i j) vs=u::us))∘λx=>v::x)=λvs=>decide (vs.map (jv i j)=us):=funext λvs=>decide_eq_decide.mpr (by
     rw[Rk,q];exact⟨λz=>(Us z).2,λz=>by rw[z]⟩)
    rw[this];rfl
   .rw[Q8 q]
    have:((λvs=>decide (Sj (jv i j) vs=u::us))∘λx=>v::x)=λvs=>Q9:=funext λvs=>RY λz=>q (by rw[Rk]at z;exact(Us z).1);rw[this,WI.mpr λ_ _ z=>by cases z];rfl
  rw[m,JR];have o:(sm ((bc r (cs.getD k 0)).filter λv=>decide (jv i j v=u)) λv=>mu v*sm ((kl (W0 cs) us.length (k+1) (less r v)).filter λvs=>decide (vs.map (jv i j)=us)) wt)=sm ((bc r (cs.getD k 0)).filter λv=>decide (jv i j v=u)) λv=>(mu u*wt us)*(mu (p2 i j v)*wk (less (p2 i j r) (p2 i j v)) (us.map λu=>u.getD (ni j i) 0)):=bM λv p=>by
   obtain⟨t,c⟩:=SI.mp p;have c:=Sk c;have a:=bq t;have l1:=a.len;obtain⟨f,_⟩:=L0 (i:=i) (j:=j) a (by omega) (by omega);rw[c]at f;have ih:=wM d e ne (us:=us) (k:=k+1) (r:=less r v) (by rw[a.less.len];exact hl) (by rw[f];exact l);have y:p2 i j (less r v)=less (p2 i j r) (p2 i j v):=by
    show[_,_]=[_,_];rw[k7 a,k7 a]
   rw[ih,y,u3 (v:=v) (by omega) (by omega) ne,c];simp only[Sx,TW,SD]
  rw[o,f8,<-su,NN (G:=λw=>mu w*wk (less (p2 i j r) w) (us.map λu=>u.getD (ni j i) 0)) hl d e ne le];rfl
theorem rp:∀{vs:List (List Nat)} {k:Nat} {r:List Nat},Wk W k r vs->vs∈kl W vs.length k r
 |[],_,_,_=>RP.mpr rfl
 |v::vs,k,r,h=>SV.mpr ⟨v,h.1,Rp.mpr ⟨vs,rp h.2,rfl⟩⟩
theorem zY(hn:∀k r,(W k r).Nodup):∀(j k:Nat) (r:List Nat),(kl W j k r).Nodup
 |0,_,_=>Uo _ _
 |j+1,k,r=>by
  show((W k r).flatMap λv=>(kl W j (k+1) (less r v)).map (v::·)).Nodup;refine YY.mpr ⟨λv _=>qh (λ_ _ e=>(Us e).2) (zY hn j (k+1) (less r v)),(hn k r).imp λ{a b} n u c w d e=>?_⟩;obtain⟨_,_,rfl⟩:=Rp.mp c;obtain⟨_,_,rfl⟩:=Rp.mp d;exact n (Us e).1
abbrev jc(i j:Nat)(vs:List (List Nat)):List (List Nat):=jn bG [] i j vs
theorem IU{u v:List Nat}{n:Nat}(a:u.length=n)(b:v.length=n):(bG u v).length=n:=by
 unfold bG;rw[VG,a,b,Xz]
theorem xI:∀{u v:List Nat},u.length=v.length->∀k,(bG u v).getD k 0=u.getD k 0+v.getD k 0
 |[],[],_,_=>rfl
 |x::u,y::v,h,0=>rfl
 |x::u,y::v,h,k+1=>xI (by simpa using h) k
 |[],_::_,h,_=>by simp at h
 |_::_,[],h,_=>by simp at h
variable{rs cs:List Nat}{vs us:List (List Nat)}
theorem gL(a:k<vs.length):vs.getD k []∈vs:=by rw[cg a];exact R1 a
theorem tZ(a:∀v∈vs,v.length=n)(b:i<vs.length)(c:j<vs.length):∀v∈jc i j vs,v.length=n:=λv d=>by
 rcases lq (Wn d)with rfl|h
 .exact IU (a _ (gL b)) (a _ (gL c))
 .exact a v h
theorem pZ(a:∀v∈vs,v.length=n)(b:i<vs.length)(c:j<vs.length)(ne:i≠j):et n (jc i j vs)=et n vs:=by
 have e:=tZ a b c;refine lB 0 (by rw[cZ e,cZ a]) λk g=>?_;rw[cZ e]at g;rw[gc e g,gc a g];have:=BF (f:=bG) (d:=[]) (l:=vs) (λv=>v.getD k 0) b c ne;rw[xI ((a _ (gL b)).trans (a _ (gL c)).symm)]at this;show(Sj _ (jn bG [] i j vs)).sum=_;omega
structure Gv (n:Nat) (rs cs:List Nat) (vs:List (List Nat)):Prop where
 ln:∀v∈vs,v.length=n
 cl:vs.map SF=cs
 rw:et n vs=rs
theorem Gv.len(h:Gv n rs cs vs):vs.length=cs.length:=by rw[<-h.cl,QX]
theorem Gv.at(h:Gv n rs cs vs)(a:k<vs.length):(vs.getD k []).sum=cs.getD k 0:=by
 rw[<-h.cl,cg a,cg (by rw[QX];exact a),TF]
theorem qD(a:rs.length=n)(hs:rs.sum=cs.sum):vs∈kl (W0 cs) cs.length 0 rs↔Gv n rs cs vs:=by
 constructor
 .intro h
  obtain⟨q1,q2⟩:=kn h;obtain⟨b,c,d⟩:=nh (cs:=cs) (W:=W0 cs) (λ_ _=>Vz _) q1 (by rw[q2,Sn]) hs;subst a;exact⟨d,b,c.symm⟩
 .intro h
  have:=rp (JD (W:=W0 cs) (k:=0) h.ln λi r v e le=>by
   have:cs.getD (0+i) 0=v.sum:=by rw[Sn,<-h.cl,QZ,Q5,e];rfl
   show v∈bc r (cs.getD (0+i) 0);rw[this];exact fW le)
  rw[h.len,h.rw]at this;exact this
theorem Mn(R:rs.length=n)(hs:rs.sum=cs.sum)(y:i<cs.length)(A:j<cs.length)(ne:i≠j)(C:Gv n rs (jv i j cs) us):sm ((kl (W0 cs) cs.length 0 rs).filter λvs=>decide (jc i j vs=us)) wt=wt us:=by
 have lu:us.length=cs.length-1:=by rw[C.len,cE A]
 have o:=tL y A ne;have H:(us.getD (ni j i) []).sum=cs.getD i 0+cs.getD j 0:=by rw[C.at (by omega),dE y,su ne,Rb rfl]
 have L:(us.getD (ni j i) []).length=n:=C.ln _ (gL (by omega));generalize T:us.getD (ni j i) []=u at H L;have c:∀vs∈(kl (W0 cs) cs.length 0 rs).filter λvs=>decide (jc i j vs=us),Gv n rs cs vs/\jc i j vs=us/\u=bG (vs.getD i []) (vs.getD j [])/\less u (vs.getD i [])=vs.getD j []/\vs.getD i []∈bc u (cs.getD i 0):=λvs h=>by
  obtain⟨h1,t⟩:=SI.mp h;have t:=Sk t;have g:=(qD R hs).mp h1;have l:=g.len;have e:u=bG (vs.getD i []) (vs.getD j []):=by rw[<-T,<-t,dE (by omega),su ne,Rb rfl]
  have a1:=g.ln _ (gL (k:=i) (by omega));have a2:=g.ln _ (gL (k:=j) (by omega));obtain⟨F,U⟩:=o3 (v:=vs.getD i []) (r:=vs.getD j []) (a1.trans a2.symm);rw[<-e]at F U;refine⟨g,t,e,F,?_⟩;rw[<-g.at (by omega)];exact fW U
 refine Nat.eq_of_mul_eq_mul_left (u4 u) ?_;rw[<-f8];have e1:(sm ((kl (W0 cs) cs.length 0 rs).filter λvs=>decide (jc i j vs=us)) λvs=>mu u*wt vs)=sm ((kl (W0 cs) cs.length 0 rs).filter λvs=>decide (jc i j vs=us)) λvs=>(λv=>wt us*(mu v*mu (less u v))) (vs.getD i []):=bM λvs h=>by
  obtain⟨g,t,e,F,_⟩:=c vs h;have l:=g.len;have p:=Kw (f:=bG) (d:=[]) (l:=vs) mu (by omega:i<vs.length) (by omega:j<vs.length) ne;rw[<-e,show jn bG [] i j vs=us from t]at p;show mu u*pr (vs.map mu)=pr (us.map mu)*_;rw[F,p,SD]
 rw[e1];refine(uz (f:=λvs:List (List Nat)=>vs.getD i []) (G:=λv=>wt us*(mu v*mu (less u v))) (m:=bc u (cs.getD i 0)) ((zY (W:=W0 cs) (λ_ _=>jW _ _) _ _ _).filter _) (jW _ _) (λvs h=>(c vs h).2.2.2.2) (λvs h N h' e=>?_) λv J=>?_).trans ?_
 rotate_right
 .rw[f8]
  have d2:wk u [cs.getD i 0,cs.getD j 0]=mu u:=gm _ _ (by rw[H,Rh,Rh,VO,Ux]);rw[SD,<-d2];congr 1;show _=sm (bc u (cs.getD i 0)) λv=>mu v*wk (less u v) [cs.getD j 0];refine bM λv J=>?_;have:=(ck J).2.1;rw[gm [cs.getD j 0] (less u v) (by rw[Rh,VO,Ux];omega)]
 .obtain⟨g,t,e2,F,_⟩:=c vs h
  obtain⟨g',O,e2',Q,_⟩:=c N h';have e:vs.getD i []=N.getD i []:=e;rw[<-qz (f:=bG) (d:=[]) g.len y A,<-qz (f:=bG) (d:=[]) g'.len y A,<-F,<-Q,e,show jn bG [] i j vs=us from t,show jn bG [] i j N=us from O]
 .have le:=bq J
  have vl:v.length=n:=le.len.trans L;have l2:(less u v).length=n:=le.less.len.trans L;have X:(ins [] i j cs.length us v (less u v)).length=cs.length:=kB;have I:=BH (f:=bG) (d:=[]) (a:=v) (b:=less u v) lu y A ne (by rw[T,pz le]);have B:∀k<cs.length,(ins [] i j cs.length us v (less u v)).getD k []=if k=i then v else if k=j then less u v else us.getD (ni j k) []:=λk o=>g0 o;have ln:∀w∈ins [] i j cs.length us v (less u v),w.length=n:=λw hw=>by
   obtain⟨k,o,e⟩:=VF hw;have Y:=B k (by omega);rw[cg o,e]at Y;rw[Y];by_cases q:k=i
   .rw[Rb q];exact vl
   .rw[Q8 q]
    by_cases z:k=j
    .rw[Rb z];exact l2
    .rw[Q8 z]
     exact C.ln _ (gL (by have:=tL (show k<cs.length by omega) A z;omega))
  have Z:=ck J;have g:Gv n rs cs (ins [] i j cs.length us v (less u v)):=by
   refine⟨ln,lB 0 (by rw[QX,X]) λk o=>?_,?_⟩
   .rw[QX,X]at o
    have e:((ins [] i j cs.length us v (less u v)).map SF).getD k 0=((ins [] i j cs.length us v (less u v)).getD k []).sum:=by
     rw[cg (by rw[QX];omega),cg (by omega),TF]
    rw[e,B k o];by_cases q:k=i
    .rw[Rb q,q];exact Z.1
    .rw[Q8 q]
     by_cases z:k=j
     .rw[Rb z,z]
      have:=Z.2.1;omega
     .rw[Q8 z,C.at (by have:=tL o A z;omega),dE y,su z,Q8 q]
   .rw[<-pZ ln (by omega) (by omega) ne,show jc i j (ins [] i j cs.length us v (less u v))=us from I]
    exact C.rw
  refine⟨_,SI.mpr ⟨(qD R hs).mpr g,Rv I⟩,?_⟩;show(ins [] i j cs.length us v (less u v)).getD i []=v;rw[B i y,Rb rfl]
end
end L2.Nt
namespace Law
open PySem L2 L2.Pu
open L2.Hs (uS BJ kU w4)
noncomputable def c4(i:Nat):Sy:=PySem.Challenge.pw_edgetally_k53_whole_joined_shares.main.body.getD i (.Pass ⟨0,0,0,0⟩)
abbrev zQ:Sy:=c4 16
abbrev mj:Sy:=c4 17
abbrev mh:Sy:=c4 18
abbrev lO:Sy:=c4 19
abbrev ml:Sy:=c4 21
abbrev iT:Sy:=c4 22
abbrev lJ:Sy:=c4 23
abbrev oB:Sy:=c4 25
abbrev zO:Sy:=c4 26
abbrev pX:Sy:=c4 27
abbrev sr:Sy:=c4 29
abbrev lL:Sy:=c4 30
abbrev lM:Sy:=c4 31
abbrev sk:Sy:=c4 32
abbrev ox:Sy:=c4 33
abbrev sy:Sy:=c4 34
abbrev oC:Sy:=c4 35
abbrev me:Sy:=c4 38
abbrev im:Sy:=c4 39
abbrev iq:Sy:=c4 40
abbrev j6:Sy:=c4 41
abbrev iU:Sy:=c4 42
abbrev lN:Sy:=c4 43
abbrev jz:Sy:=c4 44
abbrev j8:Sy:=c4 47
abbrev jy:Sy:=c4 48
abbrev pY:Sy:=c4 49
abbrev oA:Sy:=c4 50
abbrev jB:Sy:=c4 51
abbrev jA:Sy:=c4 52
abbrev sj:Sy:=c4 53
abbrev md:Sy:=c4 55
abbrev wJ:Sy:=c4 58
abbrev uF:Sy:=c4 59
abbrev uH:Sy:=c4 60
abbrev pV:Sy:=c4 61
abbrev oy:Sy:=c4 62
abbrev j7:Sy:=c4 63
abbrev uI:Sy:=c4 64
abbrev pW:Sy:=c4 65
abbrev wI:Sy:=c4 66
abbrev uG:Sy:=c4 67
abbrev oz:Sy:=c4 68
abbrev wK:Sy:=c4 69
abbrev j9:Sy:=af (c4 56) 10
abbrev iW:Sy:=af (c4 56) 0
abbrev kg:Sy:=af (c4 45) 0
abbrev mn:Sy:=af (c4 45) 7
abbrev jD:Sy:=af (c4 45) 6
abbrev lR:Sy:=af (c4 45) 3
abbrev jC:Sy:=af (c4 56) 6
abbrev iX:Sy:=af (c4 45) 4
abbrev gW:Sy:=af (c4 56) 7
abbrev oE:Sy:=af (c4 45) 9
abbrev lP:Sy:=af (c4 56) 5
abbrev kd:Sy:=af (c4 45) 8
abbrev nC:Sy:=c4 70
abbrev uv:Sy:=af (c4 2) 0
set_option genSizeOf false in
set_option genInjectivity false in
structure Ad where
 Aa:Q6
 Ab:Q6
 Ac:RG
 Ae:Q6
 Af:Q6
 Ag:Q6
 Ah:RG
 Ai:Q6
 Aj:RG
 Ak:Q6
 Al:RG
 Am:Q6
 An:RG
 Ao:Q6
 Aq:RG
 Ar:Q6
 As:RG
 At:Q6
 Au:RG
 Av:Q6
 Aw:RG
 Ax:Q6
 Ay:RG
 Az:Q6
 A0:RG
 A1:Q6
 A2:RG
 A3:Q6
 A4:RG
 A5:Q6
 A6:RG
 A7:Q6
 A8:RG
 A9:Q6
 Ba:RG
 Bb:Q6
 Bc:RG
 Bd:Q6
 Be:RG
 Bf:Q6
 Bh:RG
 Bi:Q6
 Bj:RG
 Bk:Q6
 Bl:RG
 Bm:Q6
 Bn:RG
 Bo:Q6
 Bp:RG
 Bq:Q6
 Br:RG
 Bs:Q6
 Bt:RG
 Bu:Q6
 Bv:RG
 Bw:Q6
 Bx:RG
 By:Q6
 Bz:RG
 B0:Q6
 B5:RG
 B7:Q6
 B8:RG
 Ca:Q6
 Cb:RG
 Cc:Q6
 Cd:RG
 Cf:Q6
 Cg:RG
 Ch:Q6
 Ci:RG
 Cj:Q6
 Ck:RG
 Cl:Q6
 Cm:RG
 Cn:Q6
 Co:RG
 Cp:Q6
 Cq:RG
 Cr:Q6
 Cs:RG
 Ct:Q6
 Cu:RG
 Cv:Q6
 Cw:RG
 Cy:Q6
 Cz:RG
 C0:Q6
 C2:RG
 C3:Q6
 C4:RG
 C5:Q6
 C6:RG
 C7:Q6
 C8:RG
 C9:Q6
 Da:RG
 Db:Q6
 Dc:RG
 Dd:Q6
 Df:RG
 Dg:Q6
 Dh:RG
 Di:Q6
 Dj:RG
 Dl:Q6
 Dm:RG
 Do:Q6
 Dp:RG
 Dq:Q6
 Dr:RG
 Dt:Q6
 Du:RG
 Dv:Q6
 Dw:RG
 Dx:Q6
 Dy:RG
 Dz:Q6
 D0:RG
structure F3 (K:RB) (mg:R3->Option Ra) (a:Ad):Prop where
 D3:mg "ValueError"=QY
 D4:mg "abs"=QY
 D5:mg "any"=QY
 D6:mg "enumerate"=QY
 D7:mg "isinstance"=QY
 D8:mg "len"=QY
 D9:mg "list"=QY
 Ea:mg "max"=QY
 Eb:mg "min"=QY
 Ec:mg "range"=QY
 Ed:mg "reversed"=QY
 Ee:mg "sorted"=QY
 Ef:mg "sum"=QY
 Eg:mg "tuple"=QY
 Eh:mg "zip"=QY
 Ei:oq K mg "MOST" (.int 40)
 Ej:oq K mg "MOST_COLUMNS" (.int 6)
 Ek:oq K mg "MOST_ROWS" (.int 4)
 El:oq K mg "WIDE" (.int 500)
 Em:dq K "free" "free" zQ a.Ag a.Ah
 En:mg "free"=on (.ref a.Ag)
 Eo:bx K a.Ah ["rows","columns","pair"] [.tup [.int 0,.int 40]]
 Ep:dq K "check_rows" "check_rows" mj a.Ai a.Aj
 Er:mg "check_rows"=on (.ref a.Ai)
 Es:ay K a.Aj ["rows"] []
 Et:dq K "check_sums" "check_sums" mh a.Ak a.Al
 Eu:mg "check_sums"=on (.ref a.Ak)
 Ev:ay K a.Al ["rowsums","columnsums"] []
 Ew:dq K "check_there" "check_there" lO a.Am a.An
 Ex:mg "check_there"=on (.ref a.Am)
 Ey:ay K a.An ["place","many"] []
 Ez:dq K "check_pair" "check_pair" ml a.Ao a.Aq
 E2:mg "check_pair"=on (.ref a.Ao)
 E3:ay K a.Aq ["pair"] []
 E4:dq K "settled_bounds" "settled_bounds" iT a.Ar a.As
 E5:mg "settled_bounds"=on (.ref a.Ar)
 E6:ay K a.As ["bounds","rows","columns"] []
 E7:dq K "rows_turned" "rows_turned" lJ a.At a.Au
 E8:mg "rows_turned"=on (.ref a.At)
 E9:ay K a.Au ["rows"] []
 Fa:dq K "factorial" "factorial" oB a.Av a.Aw
 Fb:mg "factorial"=on (.ref a.Av)
 Fc:ay K a.Aw ["number"] []
 Fd:dq K "ways" "ways" zO a.Ax a.Ay
 Fe:mg "ways"=on (.ref a.Ax)
 Ff:ay K a.Ay ["parts"] []
 Fg:dq K "fillings" "fillings" pX a.Az a.A0
 Fh:mg "fillings"=on (.ref a.Az)
 Fi:ay K a.A0 ["rests","many","pairs"] []
 Fj:dq K "need_of" "need_of" sr a.A1 a.A2
 Fk:mg "need_of"=on (.ref a.A1)
 Fl:ay K a.A2 ["rowsums","over"] []
 Fm:dq K "room_inside" "room_inside" lL a.A3 a.A4
 Fn:mg "room_inside"=on (.ref a.A3)
 Fo:ay K a.A4 ["columnsums","bounds","over","column"] []
 Fp:dq K "room_beside" "room_beside" lM a.A5 a.A6
 Fq:mg "room_beside"=on (.ref a.A5)
 Fs:ay K a.A6 ["bounds","over","column"] []
 Ft:dq K "room_of" "room_of" sk a.A7 a.A8
 Fu:mg "room_of"=on (.ref a.A7)
 Fv:ay K a.A8 ["columnsums","bounds","over","into"] []
 Fw:dq K "narrowest" "narrowest" ox a.A9 a.Ba
 Fy:mg "narrowest"=on (.ref a.A9)
 Fz:ay K a.Ba ["columnsums","bounds","over"] []
 F4:dq K "choices" "choices" sy a.Bb a.Bc
 F5:mg "choices"=on (.ref a.Bb)
 F6:ay K a.Bc ["many"] []
 F7:dq K "check_fit" "check_fit" oC a.Bd a.Be
 F8:mg "check_fit"=on (.ref a.Bd)
 F9:ay K a.Be ["rowsums","columnsums","bounds"] []
 Ga:dq K "check_wide" "check_wide" me a.Bf a.Bh
 Gb:mg "check_wide"=on (.ref a.Bf)
 Gc:ay K a.Bh ["rowsums"] []
 Ge:dq K "settled_for_net" "settled_for_net" im a.Bi a.Bj
 Gf:mg "settled_for_net"=on (.ref a.Bi)
 Gg:ay K a.Bj ["rowsums","columnsums","bounds"] []
 Gh:dq K "column_fillings" "column_fillings" iq a.Bk a.Bl
 Gi:mg "column_fillings"=on (.ref a.Bk)
 Gj:ay K a.Bl ["rests","columnsums","bounds","column"] []
 Gk:dq K "rests_behind" "rests_behind" j6 a.Bm a.Bn
 Gm:mg "rests_behind"=on (.ref a.Bm)
 Gn:ay K a.Bn ["rests","counts"] []
 Go:dq K "nodes_by_level" "nodes_by_level" iU a.Bo a.Bp
 Gp:mg "nodes_by_level"=on (.ref a.Bo)
 Gq:ay K a.Bp ["rowsums","columnsums","bounds"] []
 Gr:dq K "node_counts" "node_counts" lN a.Bq a.Br
 Gs:mg "node_counts"=on (.ref a.Bq)
 Gu:ay K a.Br ["rests","filled","behind"] []
 Gx:dq K "counted_nodes" "counted_nodes" jz a.Bs a.Bt
 Gy:mg "counted_nodes"=on (.ref a.Bs)
 Gz:ay K a.Bt ["rowsums","columnsums","bounds"] []
 G0:dq K "check_number" "check_number" j8 a.Bu a.Bv
 G1:mg "check_number"=on (.ref a.Bu)
 G2:ay K a.Bv ["k","many"] []
 G3:dq K "steps_counted" "steps_counted" jy a.Bw a.Bx
 G4:mg "steps_counted"=on (.ref a.Bw)
 G5:ay K a.Bx ["net","level","rests"] []
 G6:dq K "falls_to" "falls_to" pY a.By a.Bz
 G7:mg "falls_to"=on (.ref a.By)
 G8:ay K a.Bz ["numbered","k"] []
 G9:dq K "kth_table" "kth_table" oA a.B0 a.B5
 Ha:mg "kth_table"=on (.ref a.B0)
 Hb:ay K a.B5 ["net","k"] []
 Hc:dq K "columns_asked" "columns_asked" jB a.B7 a.B8
 Hd:mg "columns_asked"=on (.ref a.B7)
 He:ay K a.B8 ["net","rows"] []
 Hf:dq K "counted_ahead" "counted_ahead" jA a.Ca a.Cb
 Hg:mg "counted_ahead"=on (.ref a.Ca)
 Hh:ay K a.Cb ["net","level","rests","filling"] []
 Hi:dq K "stretch" "stretch" sj a.Cc a.Cd
 Hj:mg "stretch"=on (.ref a.Cc)
 Hk:ay K a.Cd ["net","rows"] []
 Hl:dq K "two_joined" "two_joined" md a.Cf a.Cg
 Hm:mg "two_joined"=on (.ref a.Cf)
 Hn:ay K a.Cg ["rows","one","other"] []
 Ho:dq K "_law_bag" "_law_bag" wJ a.Ch a.Ci
 Hq:mg "_law_bag"=on (.ref a.Ch)
 Hr:ay K a.Ci ["_law_script"] []
 Ht:dq K "_law_pull" "_law_pull" uF a.Cj a.Ck
 Hu:mg "_law_pull"=on (.ref a.Cj)
 Hv:ay K a.Ck ["_law_bag_here","_law_lot"] []
 Hw:dq K "_law_grid" "_law_grid" uH a.Cl a.Cm
 Hx:mg "_law_grid"=on (.ref a.Cl)
 Hy:ay K a.Cm ["_law_bag_here","_law_block","_law_columns","_law_things"] []
 Hz:dq K "_law_turned" "_law_turned" pV a.Cn a.Co
 Ia:mg "_law_turned"=on (.ref a.Cn)
 Ib:ay K a.Co ["_law_block"] []
 Id:dq K "_law_rowsums" "_law_rowsums" oy a.Cp a.Cq
 Ie:mg "_law_rowsums"=on (.ref a.Cp)
 Ig:ay K a.Cq ["_law_grid_here"] []
 Ih:dq K "_law_columnsums" "_law_columnsums" j7 a.Cr a.Cs
 Ii:mg "_law_columnsums"=on (.ref a.Cr)
 Ij:ay K a.Cs ["_law_grid_here"] []
 Ik:dq K "_law_free" "_law_free" uI a.Ct a.Cu
 Il:mg "_law_free"=on (.ref a.Ct)
 Im:ay K a.Cu ["_law_block","_law_columns"] []
 Io:dq K "_law_copied" "_law_copied" pW a.Cv a.Cw
 Ip:mg "_law_copied"=on (.ref a.Cv)
 Iq:ay K a.Cw ["_law_block"] []
 Ir:dq K "_law_fit" "_law_fit" wI a.Cy a.Cz
 Iu:mg "_law_fit"=on (.ref a.Cy)
 Iw:ay K a.Cz ["_law_rests","_law_lot","_law_pairs"] []
 Ix:dq K "_law_less" "_law_less" uG a.C0 a.C2
 Iy:mg "_law_less"=on (.ref a.C0)
 Iz:ay K a.C2 ["_law_rests","_law_column"] []
 I0:dq K "_law_listing" "_law_listing" oz a.C3 a.C4
 I9:mg "_law_listing"=on (.ref a.C3)
 Ja:ay K a.C4 ["_law_rowsums_here","_law_columnsums_here","_law_limits"] []
 Jb:dq K "_law_all" "_law_all" wK a.C5 a.C6
 Jc:mg "_law_all"=on (.ref a.C5)
 Jd:ay K a.C6 ["_law_grid_here","_law_limits"] []
 Je:dq K "joined" "Table.joined" j9 a.C7 a.C8
 Jf:i_ K a.Af "joined" a.C7
 Jg:B_ K a.C8 ["self","one","other","rows"] ["rows"] 3 [.kw 0]
 Jh:dq K "__init__" "Table.__init__" iW a.C9 a.Da
 Ji:Mk K a.Af a.C9
 Jj:ay K a.Da ["self","rows"] []
 Jk:dq K "__init__" "Net.__init__" kg a.Db a.Dc
 Jl:Mk K a.Ae a.Db
 Jm:bx K a.Dc ["self","rowsums","columnsums","bounds"] [.non]
 Jn:dq K "tables" "Net.tables" mn a.Dd a.Df
 Jo:i_ K a.Ae "tables" a.Dd
 Jp:ay K a.Df ["self"] []
 Jq:dq K "counts_at" "Net.counts_at" jD a.Dg a.Dh
 Jr:i_ K a.Ae "counts_at" a.Dg
 Js:ay K a.Dh ["self","level","rests"] []
 Jt:dq K "rowsums" "Net.rowsums" lR a.Di a.Dj
 Ju:i_ K a.Ae "rowsums" a.Di
 Jv:ay K a.Dj ["self"] []
 Jw:dq K "rowsums" "Table.rowsums" jC a.Dl a.Dm
 Jx:i_ K a.Af "rowsums" a.Dl
 Jy:ay K a.Dm ["self"] []
 Jz:dq K "columnsums" "Net.columnsums" iX a.Do a.Dp
 J0:i_ K a.Ae "columnsums" a.Do
 J1:ay K a.Dp ["self"] []
 J2:dq K "columnsums" "Table.columnsums" gW a.Dq a.Dr
 J3:i_ K a.Af "columnsums" a.Dq
 J4:ay K a.Dr ["self"] []
 J5:dq K "steps" "Net.steps" oE a.Dt a.Du
 J6:i_ K a.Ae "steps" a.Dt
 J7:ay K a.Du ["self","level","rests"] []
 J8:dq K "cells" "Table.cells" lP a.Dv a.Dw
 J9:i_ K a.Af "cells" a.Dv
 Ka:ay K a.Dw ["self"] []
 Kb:dq K "dealings" "Net.dealings" kd a.Dx a.Dy
 Kc:i_ K a.Ae "dealings" a.Dx
 Kd:ay K a.Dy ["self"] []
 Ke:pa K a.Ae
 Kf:mg "Net"=on (.ref a.Ae)
 Kg:dU K a.Ae "column_list"
 Kh:dU K a.Ae "counted"
 Ki:dU K a.Ae "pairs"
 Kj:dU K a.Ae "row_list"
 Kk:pa K a.Af
 Kl:mg "Table"=on (.ref a.Af)
 Km:dU K a.Af "counts"
 Kn:dq K "__init__" "EdgeError.__init__" uv a.Ab a.Ac
 Ko:ay K a.Ac ["self","word","why"] []
 Kq:mg "EdgeError"=on (.ref a.Aa)
 Kr:ClsFn K a.Aa "__init__" a.Ab
section
variable(P:RT)(w:R8){K:RB}{mg:R3->Option Ra}(base:SE){a:Ad}
theorem jw:cb ["_law_bag_here","_law_lot","_law_cells","_law_at","_law_cell"] ["_law_bag_here","_law_lot"] (ae uF):=fk
theorem AG(N:F3 K mg a):fh P w K mg base (hY P w) 2 a.Cj a.Ck ["_law_bag_here","_law_lot"] (z_ K 2 jJ):=by
 refine N.Ht.ok (k:=1) jw (λvs H Q E h=>h.1) (λY A outer s H vs Q E hr h=>?_);obtain⟨_,F,ds,β,fr,hd,r,Z,e,k⟩:=h;obtain⟨lot,rfl,ok,I,h1,rfl,rfl⟩:=AT e;obtain⟨v,w',rfl,d1,d2⟩:=bb.two hd;unfold cp at d1;obtain⟨b,l,d,rfl⟩:=d1;cases d2.int;obtain⟨t,J⟩:=fr.bag b l d;obtain⟨ab,al,m⟩:=fr.bgA b l d;obtain⟨W,L,hc0,X⟩:=ok.at;obtain⟨_,_,hcp,_⟩:=wP ok I;have len:((β.cells.map V.int).length:Int)=(β.cells.length:Int):=by rw[QX]
 have O:ui (β.cells.map V.int) (β.pos:Int)=on (.int β.cell):=Mr (by rw[Q5,L];rfl);refine⟨_,db (qd (i:=2) jw.nd rfl (Tg rfl) (jI fY (pv 0) bQ (λ_ _=>rfl)))
  (db (qd (i:=3) jw.nd rfl (Tg rfl) (dZ ku (jI fY (pv 0) bQ (λ_ _=>rfl)) (kT m4 (by rfl) N.D8 PySem.boot_len (eZ (pv 2) i8))))
  (db (qd (i:=4) jw.nd rfl (Tg rfl) (jI fY (pv 2) (pv 3) (λ_ _=>rfl)))
  (db (JU (wS JW (pv 4) (dZ Nr bQ bQ) (uX _))
   (db (eS (dZ w5 (pv 4) (pv 1)) (mz (pv 2) (pv 3) iQ)) (nJ (aB (dZ ku (pv 4) (pv 1))))) rj)
  (db (eS (dZ qf (jI fY (pv 0) bQ (λ_ _=>rfl)) bQ) (mz (pv 0) bQ iQ))
  (db (eS (dZ ku (dZ Nv (dZ qf (dZ qf (jI fY (pv 0) bQ (λ_ _=>rfl)) (dZ ku (pv 4) bQ)) bQ) bQ) bQ) (mz (pv 0) bQ iQ))
  (nJ (aB (dZ ku (dZ w5 (jI fY (pv 0) bQ (λ_ _=>rfl)) bQ) (pv 1))))))))),?_⟩
 refine⟨_,rfl,b,_,_,_,rfl,rfl,e_.of t,rfl,?_⟩;refine⟨_,rfl,b,_,_,_,rfl,rfl,e_.of t,rfl,_,rfl,l,_,rfl,.inl (e_.of J),_,_,rfl,rfl,?_,?_⟩
 .have:=W
  rw[len];omega
 refine⟨_,rfl,_,rfl,l,_,_,_,rfl,rfl,e_.of J,by rw[len,X];exact O,?_⟩;refine⟨_,rfl,_,_,rfl,rfl,⟨by decide,by decide,by decide⟩,_,_,rfl,rfl,_,rfl,?_⟩;have occ:∀{R:Hp} {p:Q6} {o:HO},(∀c,F.A c->R c≠QY)->∀c,F.A c->upd R p o c≠QY:=λ{R p o} f c u z=>by
  by_cases q:c=p
  .subst q;rw[aq]at z;cases z
  .rw[b_ q]at z;exact f c u z
 refine ite2 (λg=>?_) (λg=>?_)
 .have V_:(10:Int)^18<=β.cell:=Sk g
  refine⟨_,rfl,_,rfl,_,_,rfl,rfl,⟨I,h1⟩,_,rfl,_,rfl,l,_,_,β.pos,rfl,rfl,J,?_,?_⟩
  .rw[len,X,QX]
   exact L5 W
  refine⟨_,rfl,_,rfl,_,_,rfl,rfl,I,?_⟩;have T:jH β lot=β.cell % lot:=Rb V_;have U:kS β lot=⟨β.cells.set β.pos (β.cell/lot),β.i,β.j⟩:=Rb V_;rw[T,U]at k;refine k _ _ ⟨λc o u n=>by rw[b_ (n b l d).2];exact u,occ fr.occ,fr.bgA,λb' l' y=>?_⟩ rfl;rw[d]at y;cases y;exact⟨by rw[b_ m];exact t,by rw[aq,Uv]⟩
 .have V_:¬(10:Int)^18<=β.cell:=λq=>g (Rv q)
  refine⟨_,rfl,b,_,_,_,rfl,rfl,e_.of t,rfl,_,_,rfl,rfl,_,rfl,b,_,_,1,rfl,rfl,t,rfl,?_⟩;have B:(upd H b (.lst [.ref l,.int (β.i+1),.int β.j])) b=on (.lst [.ref l,.int (β.i+1),.int β.j]):=aq;refine⟨_,rfl,b,_,_,_,rfl,rfl,e_.of B,rfl,_,rfl,_,_,rfl,rfl,(by show(0:Int)<2147483629;decide),_,_,rfl,rfl,_,_,rfl,rfl,_,_,rfl,rfl,.inr ⟨by decide,by decide⟩,_,_,rfl,rfl,(by show(0:Int)<2147483629;decide),_,rfl,b,_,_,2,rfl,rfl,B,rfl,?_⟩;have C:(upd (upd H b (.lst [.ref l,.int (β.i+1),.int β.j])) b (.lst [.ref l,.int (β.i+1),.int β.nxt])) b=on (.lst [.ref l,.int (β.i+1),.int β.nxt]):=aq;refine⟨_,rfl,b,_,_,_,rfl,rfl,e_.of C,rfl,_,_,rfl,rfl,⟨by decide,by decide⟩,_,rfl,_,_,rfl,rfl,I,?_⟩;have T:jH β lot=β.nxt/64 % lot:=Q8 V_;have U:kS β lot=⟨β.cells,β.i+1,β.nxt⟩:=Q8 V_;rw[T,U]at k;refine k _ _ ⟨λc o u n=>by rw[b_ (n b l d).1,b_ (n b l d).1];exact u,occ (occ fr.occ),fr.bgA,λb' l' y=>?_⟩ rfl;rw[d]at y;cases y;exact⟨C,by rw[b_ m.symm,b_ m.symm];exact J⟩
theorem DT:cb ["_law_script"] ["_law_script"] (ae wJ):=fk
theorem nd1:(["_law_cell"]:List R3).Nodup:=by decide +kernel
theorem EJ(N:F3 K mg a):fh P w K mg base (hY P w) 1 a.Ch a.Ci ["_law_script"] (PX K):=by
 refine N.Ho.ok DT (λvs H Q E h=>?_) (λW A outer s H vs Q E hr h=>?_)
 .obtain⟨a,ns,rfl,_⟩:=h
  rfl
 .obtain⟨a,ns,rfl,X,k⟩:=h
  refine⟨_,nJ (aB (fE (eZ (dZ Ny (wY rfl (c_:=["_law_cell"]) (dk.plain rfl (by decide +kernel) (by decide +kernel)) (Ls (uR wG (pv 0) wV (wU bQ)))
   (λcl C fp s H=>⟨wX (i:=0) nd1 rfl (Tg rfl),uQ,λD=>aA rfl (kT GF (by rfl) N.D4 PyProof.Rows.Boot.«abs» (eZ (pv 0) i8)) rfl⟩)) (fE (eZ bQ i8))) (eZ bQ (eZ bQ i8))))),?_⟩
  obtain⟨q,I,Y⟩:=QT ns;refine⟨_,rfl,63,rfl,a,_,rfl,X,λp Z=>?_⟩;rw[I];have L:bK H (upd H p (.lst (q.map V.int))):=bK.upd Z;refine⟨p,rfl,⟨_,e_.of aq⟩,λD B=>?_⟩;have r:D≠p:=λz=>by subst z;rw[aq]at B;cases B
  refine y0 (xs:=q.map V.int) (λi F g=>∃cs:List Int,(∃v,F=[v])/\cs.length=i/\(∀c∈cs,0<=c)/\g D=on (.lst (cs.map V.int))/\g p=on (.lst (q.map V.int))/\bK H g) ⟨[],⟨_,rfl⟩,rfl,(λ_ h=>nomatch h),aq,by rw[b_ r.symm,aq],L.trans (bK.upd B)⟩
   (λi F g _ ⟨_,_,_,_,_,e,_⟩=>e_.of e) ?_ ?_
  .rintro i x F g n ⟨cs,⟨v,rfl⟩,l,m,d,t,u⟩
   have hil:i<q.length:=by have:=(Rj.mp n).1;rwa[QX]at this
   obtain⟨z,rfl⟩:∃z,x=V.int z:=by
    rw[Q5]at n;cases e:q[i]? with
    |none=>rw[e]at n;cases n
    |some z=>rw[e]at n;exact⟨z,(RO n).symm⟩
   unfold fi MI;refine iteT ?_;refine⟨_,rfl,_,rfl,cs.map V.int,d,by rw[QX];exact se (by omega),cs++[if z<0 then -z else z],⟨_,rfl⟩,by rw[Ro,l];rfl,λc hc=>?_,by rw[aq,RU];rfl,by rw[b_ r.symm];exact t,λb o e=>?_⟩
   .rcases S4.mp hc with hc|hc
    .exact m c hc
    .obtain rfl:c=_:=by simpa using hc
     split<;>omega
   .rw[b_ (az e (L.free B))]
    exact u b o e
  .rintro F g ⟨cs,⟨v,rfl⟩,l,m,d,t,u⟩
   rw[QX]at l;refine⟨by decide,λp2 j=>⟨D,p2,_,_,rfl,rfl,by rw[b_ (az d j)];exact d,aq,by rw[QX];exact WQ (se (by simp;omega)),λO y=>⟨(by show 3<=RF;decide),λR f=>?_⟩⟩⟩;have T:bK g (upd g p2 (.lst [V.int 1])):=bK.upd j;have U:=T.trans (bK.upd (o:= .lst (cs.map V.int++[V.int 1])) y);have J:O≠R:=λz=>by subst z;rw[aq]at f;cases f
   refine k R O _ ((u.trans U).free f) ((u.trans T).free y) ⟨cs++[1],0,0,aq,by rw[b_ J,aq,RU];rfl,by simp,by rw[Ro];simp;omega,λc hc=>?_,by decide⟩ ((u.trans U).trans (bK.upd f));rcases S4.mp hc with hc|hc
   .exact m c hc
   .obtain rfl:c=1:=by simpa using hc
    decide
theorem sO(N:F3 K mg a):FB P w K mg base 2 "_law_pull" a.Cj a.Ck ["_law_bag_here","_law_lot"] 2 jJ:=⟨AG P w base N,N.Hu,N.Ht.kp,N.Hv⟩
abbrev QF(K:RB)(a:Ad)(k:Nat)(x:R3)(f:Q6)(d:RG)(ps:List R3)(n:Nat):={m:List D->M D//∀(P:RT) (w:R8) {mg:R3->Option Ra} (base:SE) (N:F3 K mg a),FB P w K mg base k x f d ps n m}
abbrev QM(K:RB)(a:Ad)(k:Nat)(f:Q6)(d:RG)(ps:List R3)(n:Nat):={m:List D->M D//∀(P:RT) (w:R8) {mg:R3->Option Ra} (base:SE) (N:F3 K mg a),fh P w K mg base (hY P w) k f d ps (z_ K n m)}
theorem Lf:cb ["rows","columns","pair"] ["rows","columns","pair"] (ae zQ):=fk
def uM(K:RB)(a:Ad):QM K a 2 a.Ag a.Ah ["rows","columns","pair"] 3:=⟨_,λP w mg base N=>by
 exact aX (k:=1) 3 3 _ N.Em Lf rfl rfl λb A outer s H E d=>ai (aM (aB (aO rfl (f0 ["row","pair","columns"] ["row"] [2,1]) (bY (by rfl) N.Ec (dr (vv 0))) (λcl C c s H=>⟨(dv 0 en),aF,λD=>aA rfl (aO rfl (f0 ["column","pair"] ["column"] [1]) (bY (by rfl) N.Ec (dr (vv 2))) (λcl C c s H=>⟨(dv 0 en),aF,λD=>aA rfl (vv 1) rfl⟩) ah am (λD=>aD)) rfl⟩) ah am (λD=>aD))))⟩
theorem lI:cb ["rows","columns"] ["rows"] (ae mj):=fk
def gf(K:RB)(a:Ad):QF K a 2 "check_rows" a.Ai a.Aj ["rows"] 1:=⟨_,λP w mg base N=>⟨by
 exact aX (k:=1) 1 2 _ N.Ep lI rfl rfl λc A outer s H E d=>ac (cM (ju (iF e8 e8 gG gG (ax) (bW N.D8 (dr (vv 0))) (gO N.Ek))) (ai (bC)) (bL))
   (ac (aJ (fc 1 lI.nd (bW N.D8 (dr (bw aK bz (vv 0) (ax))))))
   (ac (cM (ju (iF e8 e8 gG gG (ax) (vv 1) (gO N.Ej))) (ai (bC)) (bL))
   (ac (cM (jt (cX (fZ rfl) nW (by rfl) N.D5 PyProof.Rows.Boot.«any» (dr (aO rfl (f0 ["counts","columns"] ["counts"] [1]) (aR (vv 0)) (λcl C b s H=>⟨(dv 0 en),aF,λD=>aA rfl (jr (kq d) nV (bW N.D8 (dr (vv 0))) (vv 1)) rfl⟩) ah am (λD=>aD))))) (ai (bC)) (bL))
   (ac (cM (jt (cX (fZ rfl) nW (by rfl) N.D5 PyProof.Rows.Boot.«any» (dr (aO rfl (f0 ["counts","count"] ["counts","count"] []) (aR (vv 0)) (λcl C b s H=>⟨(dv 0 en),aF,λD=>nP rfl rfl rfl (aR (vv 0)) (dv 1 en) (aF) (aA rfl (jr kY o6 (vv 1) (ax)) rfl)⟩) ah am (λD=>xf ah am (aD)))))) (ai (bC)) (bL))
   (ai (cM (cu qe vh (fj N.Ef (dr (aO rfl (f0 ["counts"] ["counts"] []) (aR (vv 0)) (λcl C b s H=>⟨(dv 0 en),aF,λD=>aA rfl (fj N.Ef (dr (vv 0))) rfl⟩) ah am (λD=>aD)))) (gO N.Ei)) (ai (bC)) (bL))))))),N.Er,N.Ep.kp,N.Es⟩⟩
theorem tE:cb ["rowsums","columnsums"] ["rowsums","columnsums"] (ae mh):=fk
def i6(K:RB)(a:Ad):QF K a 2 "check_sums" a.Ak a.Al ["rowsums","columnsums"] 2:=⟨_,λP w mg base N=>⟨by
 exact aX (k:=1) 2 2 _ N.Et tE rfl rfl λb A outer s H E c=>ac (cM (ju (iF e8 e8 gG gG (ax) (bW N.D8 (dr (vv 0))) (gO N.Ek))) (ai (bC)) (bL))
   (ac (cM (ju (iF e8 e8 gG gG (ax) (bW N.D8 (dr (vv 1))) (gO N.Ej))) (ai (bC)) (bL))
   (ac (cM (pK (xM (jt (cX (fZ rfl) nW (by rfl) N.D5 PyProof.Rows.Boot.«any» (dr (aO rfl (f0 ["many"] ["many"] []) (aR (vv 0)) (λcl C d s H=>⟨(dv 0 en),aF,λD=>aA rfl (jr kY o6 (vv 0) (ax)) rfl⟩) ah am (λD=>aD))))) (tJ (jt (cX (fZ rfl) nW (by rfl) N.D5 PyProof.Rows.Boot.«any» (dr (aO rfl (f0 ["many"] ["many"] []) (aR (vv 1)) (λcl C d s H=>⟨(dv 0 en),aF,λD=>aA rfl (jr kY o6 (vv 0) (ax)) rfl⟩) ah am (λD=>aD)))))))) (ai (bC)) (bL))
   (ac (cM (cu (kq c) nV (fj N.Ef (dr (vv 0))) (fj N.Ef (dr (vv 1)))) (ai (bC)) (bL))
   (ai (cM (cu qe vh (fj N.Ef (dr (vv 0))) (gO N.Ei)) (ai (bC)) (bL)))))),N.Eu,N.Et.kp,N.Ev⟩⟩
theorem q8:cb ["place","many"] ["place","many"] (ae lO):=fk
def ie(K:RB)(a:Ad):QF K a 2 "check_there" a.Am a.An ["place","many"] 2:=⟨_,λP w mg base N=>⟨by
 exact aX (k:=1) 2 2 _ N.Ew q8 rfl rfl λb A outer s H E c=>ai (cM (ju (iF e8 kY gG o6 (ax) (vv 0) (vv 1))) (ai (bC)) (bL)),N.Ex,N.Ew.kp,N.Ey⟩⟩
theorem ia:cb ["pair","low","high"] ["pair"] (ae ml):=fk
def uN(K:RB)(a:Ad):QF K a 2 "check_pair" a.Ao a.Aq ["pair"] 1:=⟨_,λP w mg base N=>⟨by
 exact aX (k:=1) 1 3 _ N.Ez ia rfl rfl λb A outer s H E c=>ac (nE (eU (bn aE (bn aE dQ)) (bj (bj c9))) (eS (vv 0) (bB rfl (aw (dv 1 ia.nd) (aw (dv 2 ia.nd) br)))))
   (ai (cM (ju (DK e8 e8 e8 gG gG gG (ax) (vv 1) (vv 2) (gO N.Ei))) (ai (bC)) (bL))),N.E2,N.Ez.kp,N.E3⟩⟩
theorem fm:cb ["bounds","rows","columns","pairs","pair"] ["bounds","rows","columns"] (ae iT):=fk
def dY(K:RB)(a:Ad):QF K a 3 "settled_bounds" a.Ar a.As ["bounds","rows","columns"] 3:=⟨_,λP w mg base N=>⟨by
 have c:=(uM K a).2 P w base N;have b:=(uN K a).2 P w base N
 exact aX (k:=2) 3 5 _ N.E4 fm rfl rfl λf A outer s H E d=>ac (cM (cu Nw Qr (vv 0) (PM)) (ai (aM (aB (KZ c (d.mono (by decide)) (by rfl) N.En N.Em.kp N.Eo bH (ej (vv 1) (vv 2)) (λδ β r e h=>by rw[(aL (aL ry)) δ β r e h];rfl))))) (bL))
   (ac (cM (pK (xM (cu (kq d) nV (bW N.D8 (dr (vv 0))) (vv 1)) (tJ (jt (cX (fZ rfl) nW (by rfl) N.D5 PyProof.Rows.Boot.«any» (dr (aO rfl (f0 ["pairs","columns"] ["pairs"] [2]) (aR (vv 0)) (λcl C g s H=>⟨(dv 0 en),aF,λD=>aA rfl (jr (kq d) nV (bW N.D8 (dr (vv 0))) (vv 1)) rfl⟩) ah am (λD=>aD)))))))) (ai (bC)) (bL))
   (ac (bS aE (bA cP rfl (aR (vv 0)) (dv 3 fm.nd) (ai (bS aE (bA cP rfl (aR (vv 3)) (dv 4 fm.nd) (ai (gU (cJ (vc b d (dr (vv 4)))))))))))
   (ai (aM (aB (aO rfl (f0 ["pairs"] ["pairs"] []) (aR (vv 0)) (λcl C g s H=>⟨(dv 0 en),aF,λD=>aA rfl (bF bJ gi (by rfl) N.D9 PyProof.Rows.Boot.«list» (dr (vv 0))) rfl⟩) ah am (λD=>aD))))))),N.E5,N.E4.kp,N.E6⟩⟩
theorem qY:cb ["rows"] ["rows"] (ae lJ):=fk
def cN(K:RB)(a:Ad):QF K a 2 "rows_turned" a.At a.Au ["rows"] 1:=⟨_,λP w mg base N=>⟨by
 exact aX (k:=1) 1 1 _ N.E7 qY rfl rfl λb A outer s H E d=>ai (aM (aB (aO rfl (f0 ["column","rows"] ["column"] [0]) (bY (by rfl) N.Ec (dr (bW N.D8 (dr (bw aK bz (vv 0) (ax)))))) (λcl C c s H=>⟨(dv 0 en),aF,λD=>aA rfl (aO rfl (f0 ["cells","column"] ["cells"] [0]) (aR (vv 1)) (λcl C c s H=>⟨(dv 0 en),aF,λD=>aA rfl (bw aK bz (vv 0) (vv 1)) rfl⟩) ah am (λD=>aD)) rfl⟩) ah am (λD=>aD)))),N.E8,N.E7.kp,N.E9⟩⟩
theorem f9:cb ["number","product","factor"] ["number"] (ae oB):=fk
def jT(K:RB)(a:Ad):QF K a 2 "factorial" a.Av a.Aw ["number"] 1:=⟨_,λP w mg base N=>⟨by
 exact aX (k:=1) 1 3 _ N.Fa f9 rfl rfl λb A outer s H E c=>ac (aJ (fc 1 f9.nd (ax)))
   (ac (bS aE (bA cP rfl (pf (by rfl) N.Ec (ej (ax) (bp bi cz (vv 0) (ax)))) (dv 2 f9.nd) (ai (gb rB (eP (i:=1) f9.nd rfl (by first|exact Tg rfl|exact T5 rfl) (vv 2) rF)))))
   (ai (aM (aB (vv 1))))),N.Fb,N.Fa.kp,N.Fc⟩⟩
theorem j4:cb ["parts","part","told"] ["parts"] (ae zO):=fk
def mq(K:RB)(a:Ad):QF K a 3 "ways" a.Ax a.Ay ["parts"] 1:=⟨_,λP w mg base N=>⟨by
 have b:=(jT K a).2 P w base N
 exact aX (k:=2) 1 3 _ N.Fd j4 rfl rfl λd A outer s H E c=>ac (bS aE (bA cP rfl (aR (vv 0)) (dv 1 j4.nd) (ai (cM (cu kY o6 (vv 1) (ax)) (ai (bC)) (bL)))))
   (ac (aJ (fc 2 j4.nd (vc b c (dr (cX (CF rfl) NJ (by rfl) N.Ef PyProof.Rows.Boot.«sum» (dr (vv 0)))))))
   (ac (bS aE (bA cP rfl (aR (vv 0)) (dv 1 j4.nd) (ai (gb FJ (eP (i:=2) j4.nd rfl (by first|exact Tg rfl|exact T5 rfl) (vc b c (dr (vv 1))) L8)))))
   (ai (aM (aB (vv 2)))))),N.Fe,N.Fd.kp,N.Ff⟩⟩
theorem cW:cb ["rests","many","pairs","lows","tops","begun","row","fewest_behind","most_behind"] ["rests","many","pairs"] (ae pX):=fk
def kQ(K:RB)(a:Ad):QF K a 2 "fillings" a.Az a.A0 ["rests","many","pairs"] 3:=⟨_,λP w mg base N=>⟨by
 exact aX (k:=1) 3 9 _ N.Fg cW rfl rfl λc A outer s H E d=>ac (aJ (fc 3 cW.nd (aO rfl (f0 ["low","high"] ["low","high"] []) (aR (vv 2)) (λcl C b s H=>⟨(bB rfl (aw (dv 0 en) (aw (dv 1 en) br))),aF,λD=>aA rfl (vv 0) rfl⟩) (dR (aW ah (aW ah c7)) (aU (aU cm))) (dM (aV am (aV am cY))) (λD=>aD))))
   (ac (aJ (fc 4 cW.nd (aO rfl (f0 ["rest","low","high"] ["rest","low","high"] []) (qA (by rfl) N.Eh (ej (vv 0) (vv 2))) (λcl C b s H=>⟨(bB rfl (aw (dv 0 en) (aw (bB rfl (aw (dv 1 en) (aw (dv 2 en) br))) br))),aF,λD=>aA rfl (cX (m3 rfl) yz (by rfl) N.Eb PyProof.Rows.Boot.«min» (ej (vv 0) (vv 2))) rfl⟩) (dR (aW ah (aW (dR (aW ah (aW ah c7)) (aU (aU cm))) c7)) (aU (aU cm))) (dM (aV am (aV (dM (aV am (aV am cY))) cY))) (λD=>aD))))
   (ac (aJ (fc 5 cW.nd (fG (dr (di (ej (di (ft)) (vv 1)))))))
   (ac (bS aE (bA cP rfl (bY (by rfl) N.Ec (dr (bW N.D8 (dr (vv 0))))) (dv 6 cW.nd) (ac (aJ (fc 7 cW.nd (fj N.Ef (dr (wv (vv 3) (AI (bp bi cz (vv 6) (ax))) (AJ))))))
   (ac (aJ (fc 8 cW.nd (fj N.Ef (dr (wv (vv 4) (AI (bp bi cz (vv 6) (ax))) (AJ))))))
   (ai (uE (i:=5) cW.nd rfl (by first|exact Tg rfl|exact T5 rfl) rfl (f0 ["counts","left","count","lows","row","most_behind","tops","fewest_behind"] ["counts","left","count"] [3,6,8,4,7]) (aR (vv 5)) (λcl C b s H=>⟨(bB rfl (aw (dv 0 en) (aw (dv 1 en) br))),aF,λD=>nP rfl rfl rfl (pf (by rfl) N.Ec (ej (cX (CH rfl) Qp (by rfl) N.Ea PyProof.Rows.Boot.«max» (ej (bw aK bz (vv 3) (vv 4)) (bp gh iC (vv 1) (vv 5)))) (bp bi cz (cX (m3 rfl) yz (by rfl) N.Eb PyProof.Rows.Boot.«min» (ej (bw aK bz (vv 6) (vv 4)) (bp gh iC (vv 1) (vv 7)))) (ax)))) (dv 2 en) (aF) (aA rfl (di (ej (bp bi cz (vv 0) (di (dr (vv 2)))) (bp gh iC (vv 1) (vv 2)))) rfl)⟩) (dR (aW ah (aW ah c7)) (aU (aU cm))) (dM (aV am (aV am cY))) (λD=>xf ah am (aD))))))))
   (ai (aM (aB (aO rfl (f0 ["counts","left"] ["counts","left"] []) (aR (vv 5)) (λcl C b s H=>⟨(bB rfl (aw (dv 0 en) (aw (dv 1 en) br))),qE (cu (gY d) jK (vv 1) (ax)),λD=>aA rfl (vv 0) rfl⟩) (dR (aW ah (aW ah c7)) (aU (aU cm))) (dM (aV am (aV am cY))) (λD=>aD)))))))),N.Fh,N.Fg.kp,N.Fi⟩⟩
theorem yc:cb ["rowsums","over"] ["rowsums","over"] (ae sr):=fk
def mv(K:RB)(a:Ad):QF K a 2 "need_of" a.A1 a.A2 ["rowsums","over"] 2:=⟨_,λP w mg base N=>⟨by
 exact aX (k:=1) 2 2 _ N.Fj yc rfl rfl λb A outer s H E c=>ai (aM (aB (fj N.Ef (dr (aO rfl (f0 ["row","rowsums"] ["row"] [0]) (aR (vv 1)) (λcl C d s H=>⟨(dv 0 en),aF,λD=>aA rfl (bw aK bz (vv 1) (vv 0)) rfl⟩) ah am (λD=>aD)))))),N.Fk,N.Fj.kp,N.Fl⟩⟩
theorem j5:cb ["columnsums","bounds","over","column","lows"] ["columnsums","bounds","over","column"] (ae lL):=fk
def dz(K:RB)(a:Ad):QF K a 2 "room_inside" a.A3 a.A4 ["columnsums","bounds","over","column"] 4:=⟨_,λP w mg base N=>⟨by
 exact aX (k:=1) 4 5 _ N.Fm j5 rfl rfl λb A outer s H E c=>ac (uE (i:=4) j5.nd rfl (by first|exact Tg rfl|exact T5 rfl) rfl (f0 ["row","pairs","over","column"] ["row","pairs"] [2,3]) (qC (by rfl) N.D6 (dr (vv 1))) (λcl C d s H=>⟨(bB rfl (aw (dv 0 en) (aw (dv 1 en) br))),qE (cu uT (NL (neg:=Q4)) (vv 0) (vv 2)),λD=>aA rfl (bw aK bz (bw aK bz (vv 1) (vv 3)) (ax)) rfl⟩) (dR (aW ah (aW ah c7)) (aU (aU cm))) (dM (aV am (aV am cY))) (λD=>aD))
   (ai (aM (aB (bp gh iC (bw aK bz (vv 0) (vv 3)) (fj N.Ef (dr (vv 4))))))),N.Fn,N.Fm.kp,N.Fo⟩⟩
theorem qZ:cb ["bounds","over","column"] ["bounds","over","column"] (ae lM):=fk
def dA(K:RB)(a:Ad):QF K a 2 "room_beside" a.A5 a.A6 ["bounds","over","column"] 3:=⟨_,λP w mg base N=>⟨by
 exact aX (k:=1) 3 3 _ N.Fp qZ rfl rfl λb A outer s H E c=>ai (aM (aB (fj N.Ef (dr (aO rfl (f0 ["row","bounds","column"] ["row"] [0,2]) (aR (vv 1)) (λcl C d s H=>⟨(dv 0 en),aF,λD=>aA rfl (bw aK bz (bw aK bz (bw aK bz (vv 1) (vv 0)) (vv 2)) (ax)) rfl⟩) ah am (λD=>aD)))))),N.Fq,N.Fp.kp,N.Fs⟩⟩
theorem yb:cb ["columnsums","bounds","over","into"] ["columnsums","bounds","over","into"] (ae sk):=fk
def mr(K:RB)(a:Ad):QF K a 3 "room_of" a.A7 a.A8 ["columnsums","bounds","over","into"] 4:=⟨_,λP w mg base N=>⟨by
 have b:=(dz K a).2 P w base N;have c:=(dA K a).2 P w base N;exact aX (k:=2) 4 4 _ N.Ft yb rfl rfl λe A outer s H E d=>ai (aM (aB (fj N.Ef (dr (aO rfl (f0 ["column","into","columnsums","bounds","over"] ["column"] [3,0,1,2]) (bY (by rfl) N.Ec (dr (bW N.D8 (dr (vv 0))))) (λcl C f s H=>⟨(dv 0 en),aF,λD=>aA rfl (v_if (cu AF (NL (neg:=Q9)) (vv 0) (vv 1)) (vc b d (K_ (vv 2) (vv 3) (vv 4) (vv 0))) (vc c d (pj (vv 3) (vv 4) (vv 0)))) rfl⟩) ah am (λD=>aD)))))),N.Fu,N.Ft.kp,N.Fv⟩⟩
theorem uB:cb ["columnsums","bounds","over"] ["columnsums","bounds","over"] (ae ox):=fk
def jQ(K:RB)(a:Ad):QF K a 3 "narrowest" a.A9 a.Ba ["columnsums","bounds","over"] 3:=⟨_,λP w mg base N=>⟨by
 have b:=(dz K a).2 P w base N;have c:=(dA K a).2 P w base N;exact aX (k:=2) 3 3 _ N.Fw uB rfl rfl λe A outer s H E d=>ai (aM (aB (aO rfl (f0 ["column","columnsums","bounds","over"] ["column"] [0,1,2]) (bY (by rfl) N.Ec (dr (bW N.D8 (dr (vv 0))))) (λcl C f s H=>⟨(dv 0 en),qE (cu kY o6 (vc b d (K_ (vv 1) (vv 2) (vv 3) (vv 0))) (vc c d (pj (vv 2) (vv 3) (vv 0)))),λD=>aA rfl (vv 0) rfl⟩) ah am (λD=>aD)))),N.Fy,N.Fw.kp,N.Fz⟩⟩
theorem ir:cb ["many","told","number"] ["many"] (ae sy):=fk
def mw(K:RB)(a:Ad):QF K a 2 "choices" a.Bb a.Bc ["many"] 1:=⟨_,λP w mg base N=>⟨by
 exact aX (k:=1) 1 3 _ N.F4 ir rfl rfl λb A outer s H E c=>ac (aJ (fc 1 ir.nd (fG (dr (fG (ft))))))
   (ac (bS aE (bA cP rfl (bY (by rfl) N.Ec (dr (vv 0))) (dv 2 ir.nd) (ai (aJ (fc 1 ir.nd (bp bi cz (vv 1) (aO rfl (f0 ["chosen","number"] ["chosen"] [2]) (aR (vv 1)) (λcl C d s H=>⟨(dv 0 en),aF,λD=>aA rfl (bp bi cz (vv 0) (fG (dr (vv 1)))) rfl⟩) ah am (λD=>aD))))))))
   (ai (aM (aB (vv 1))))),N.F5,N.F4.kp,N.F6⟩⟩
theorem iS:cb ["rowsums","columnsums","bounds","over","into"] ["rowsums","columnsums","bounds"] (ae oC):=fk
def fA(K:RB)(a:Ad):QF K a 4 "check_fit" a.Bd a.Be ["rowsums","columnsums","bounds"] 3:=⟨_,λP w mg base N=>⟨by
 have c:=(mw K a).2 P w base N;have b:=(jQ K a).2 P w base N;have d:=(mv K a).2 P w base N;have e:=(mr K a).2 P w base N
 exact aX (k:=3) 3 5 _ N.F7 iS rfl rfl λg A outer s H E f=>ai (bS aE (bA cP rfl (aR (vc c f (dr (bW N.D8 (dr (vv 0)))))) (dv 3 iS.nd) (ac (aJ (fc 4 iS.nd (vc b f (pj (vv 1) (vv 2) (vv 3)))))
   (ai (cM (cu qe vh (vc d f (ej (vv 0) (vv 3))) (vc e f (K_ (vv 1) (vv 2) (vv 3) (vv 4)))) (ai (bC)) (bL)))))),N.F8,N.F7.kp,N.F9⟩⟩
theorem fN:cb ["rowsums","wide","many"] ["rowsums"] (ae me):=fk
def i5(K:RB)(a:Ad):QF K a 2 "check_wide" a.Bf a.Bh ["rowsums"] 1:=⟨_,λP w mg base N=>⟨by
 exact aX (k:=1) 1 3 _ N.Ga fN rfl rfl λb A outer s H E c=>ac (aJ (fc 1 fN.nd (ax)))
   (ac (bS aE (bA cP rfl (aR (vv 0)) (dv 2 fN.nd) (ai (gb rB (eP (i:=1) fN.nd rfl (by first|exact Tg rfl|exact T5 rfl) (bp bi cz (vv 2) (ax)) rF)))))
   (ai (cM (cu qe vh (vv 1) (gO N.El)) (ai (bC)) (bL)))),N.Gb,N.Ga.kp,N.Gc⟩⟩
theorem gR:cb ["rowsums","columnsums","bounds","settled"] ["rowsums","columnsums","bounds"] (ae im):=fk
def dI(K:RB)(a:Ad):QF K a 4 "settled_for_net" a.Bi a.Bj ["rowsums","columnsums","bounds"] 3:=⟨_,λP w mg base N=>⟨by
 have c:=(i6 K a).2 P w base N;have b:=(dY K a).2 P w base N;have d:=(i5 K a).2 P w base N
 exact aX (k:=3) 3 4 _ N.Ge gR rfl rfl λf A outer s H E e=>ac (gU (cJ (vc c e (ej (vv 0) (vv 1)))))
   (ac (aJ (fc 3 gR.nd (vc b e (pj (vv 2) (bW N.D8 (dr (vv 0))) (bW N.D8 (dr (vv 1)))))))
   (ac (gU (cJ (vc d e (dr (vv 0)))))
   (ai (aM (aB (vv 3)))))),N.Gf,N.Ge.kp,N.Gg⟩⟩
theorem ma:cb ["rests","columnsums","bounds","column"] ["rests","columnsums","bounds","column"] (ae iq):=fk
def cf(K:RB)(a:Ad):QF K a 3 "column_fillings" a.Bk a.Bl ["rests","columnsums","bounds","column"] 4:=⟨_,λP w mg base N=>⟨by
 have b:=(kQ K a).2 P w base N;exact aX (k:=2) 4 4 _ N.Gh ma rfl rfl λc A outer s H E d=>ai (aM (aB (vc b d (pj (vv 0) (bw aK bz (vv 1) (vv 3)) (aO rfl (f0 ["pairs","column"] ["pairs"] [3]) (aR (vv 2)) (λcl C e s H=>⟨(dv 0 en),aF,λD=>aA rfl (bw aK bz (vv 0) (vv 1)) rfl⟩) ah am (λD=>aD)))))),N.Gi,N.Gh.kp,N.Gj⟩⟩
theorem pQ:cb ["rests","counts"] ["rests","counts"] (ae j6):=fk
def bP(K:RB)(a:Ad):QF K a 2 "rests_behind" a.Bm a.Bn ["rests","counts"] 2:=⟨_,λP w mg base N=>⟨by
 exact aX (k:=1) 2 2 _ N.Gk pQ rfl rfl λb A outer s H E c=>ai (aM (aB (bF cR gF (by rfl) N.Eg PyProof.Rows.Boot.«tuple» (dr (aO rfl (f0 ["rest","count"] ["rest","count"] []) (qA (by rfl) N.Eh (ej (vv 0) (vv 1))) (λcl C d s H=>⟨(bB rfl (aw (dv 0 en) (aw (dv 1 en) br))),aF,λD=>aA rfl (bp gh iC (vv 0) (vv 1)) rfl⟩) (dR (aW ah (aW ah c7)) (aU (aU cm))) (dM (aV am (aV am cY))) (λD=>aD)))))),N.Gm,N.Gk.kp,N.Gn⟩⟩
theorem cc:cb ["rowsums","columnsums","bounds","here","told","column","behind"] ["rowsums","columnsums","bounds"] (ae iU):=fk
def fU(K:RB)(a:Ad):QF K a 4 "nodes_by_level" a.Bo a.Bp ["rowsums","columnsums","bounds"] 3:=⟨_,λP w mg base N=>⟨by
 have c:=(bP K a).2 P w base N;have b:=(cf K a).2 P w base N
 exact aX (k:=3) 3 7 _ N.Go cc rfl rfl λe A outer s H E d=>ac (aJ (fc 3 cc.nd (fG (dr (bF cR gF (by rfl) N.Eg PyProof.Rows.Boot.«tuple» (dr (vv 0)))))))
   (ac (nB (fc 4 cc.nd (fE (dr (vv 3)))))
   (ac (bS aE (bA cP rfl (bY (by rfl) N.Ec (dr (bW N.D8 (dr (vv 1))))) (dv 5 cc.nd) (ac (aJ (fc 6 cc.nd (DE (by rfl) N.Ee rfl (f0 ["rests","counts","columnsums","bounds","column"] ["rests","counts"] [1,2,5]) (aR (vv 3)) (λcl C f s H=>⟨(dv 0 en),aF,λD=>nP rfl rfl rfl (aR (vc b d (K_ (vv 0) (vv 2) (vv 3) (vv 4)))) (dv 1 en) (aF) (uS (t0 d) rfl (vc c d (ej (vv 0) (vv 1))) rfl)⟩) ah am (λD=>o4 ah am (FG)))))
   (ac (nF (cJ (nN TV TC TD fX (pv 4) (dr (vv 6)))))
   (ai (aJ (fc 3 cc.nd (vv 6))))))))
   (ai (aM (aB (vv 4)))))),N.Gp,N.Go.kp,N.Gq⟩⟩
theorem bN:cb ["rests","filled","behind","tables","dealings","counts","tables_behind","dealings_behind"] ["rests","filled","behind"] (ae lN):=fk
def ic(K:RB)(a:Ad):QF K a 4 "node_counts" a.Bq a.Br ["rests","filled","behind"] 3:=⟨_,λP w mg base N=>⟨by
 have b:=(bP K a).2 P w base N;have c:=(mq K a).2 P w base N
 exact aX (k:=3) 3 8 _ N.Gr bN rfl rfl λe A outer s H E d=>ac (aJ (fc 3 bN.nd (ax)))
   (ac (aJ (fc 4 bN.nd (ax)))
   (ac (bS aE (bA cP rfl (aR (vv 1)) (dv 5 bN.nd) (ac (nE (eU (bn aE (bn aE dQ)) (bj (bj c9))) (eS (bw (BJ (hu2 d)) Qs (vv 2) (vc b d (ej (vv 0) (vv 5)))) (bB rfl (aw (dv 6 bN.nd) (aw (dv 7 bN.nd) br)))))
   (ac (gb iJ (eP (i:=3) bN.nd rfl (by first|exact Tg rfl|exact T5 rfl) (vv 6) kA))
   (ai (gb iJ (eP (i:=4) bN.nd rfl (by first|exact Tg rfl|exact T5 rfl) (bp kr qr (vc c d (dr (vv 5))) (vv 7)) kA)))))))
   (ai (aM (aB (di (ej (vv 3) (vv 4)))))))),N.Gs,N.Gr.kp,N.Gu⟩⟩
theorem bD:cb ["rowsums","columnsums","bounds","levels","last","here","told","level","behind"] ["rowsums","columnsums","bounds"] (ae jz):=fk
def eG(K:RB)(a:Ad):QF K a 5 "counted_nodes" a.Bs a.Bt ["rowsums","columnsums","bounds"] 3:=⟨_,λP w mg base N=>⟨by
 have d:=(fU K a).2 P w base N;have c:=(cf K a).2 P w base N;have e:=(ic K a).2 P w base N
 exact aX (k:=4) 3 9 _ N.Gx bD rfl rfl λh A outer s H E f=>ac (aJ (fc 3 bD.nd (vc d f (pj (vv 0) (vv 1) (vv 2)))))
   (ac (aJ (fc 4 bD.nd (bW N.D8 (dr (vv 1)))))
   (ac (zP (kb:=Q9) (i:=5) bD.nd rfl (by first|exact Tg rfl|exact T5 rfl) rfl (f0 ["rests"] ["rests"] []) (aR (bw aK bz (vv 3) (vv 4))) (λcl C g s H=>⟨(dv 0 en),aF,λD=>kU (b:=Q9) (t0 f) rfl (vv 0) (di (ej (ax) (ax))) rfl⟩) ah am (λD=>o5))
   (ac (nB (fc 6 bD.nd (fE (dr (vv 5)))))
   (ac (bS aE (bA cP rfl (FS (by rfl) N.Ed (by rfl) N.Ec (dr (vv 4))) (dv 7 bD.nd) (ac (aJ (fc 8 bD.nd (vv 5)))
   (ac (zP (kb:=Q9) (i:=5) bD.nd rfl (by first|exact Tg rfl|exact T5 rfl) rfl (f0 ["rests","columnsums","bounds","level","behind"] ["rests"] [1,2,7,8]) (aR (bw aK bz (vv 3) (vv 7))) (λcl C g s H=>⟨(dv 0 en),aF,λD=>kU (b:=Q9) (t0 f) rfl (vv 0) (vc e f (pj (vv 0) (vc c f (K_ (vv 0) (vv 1) (vv 2) (vv 3))) (vv 4))) rfl⟩) ah am (λD=>o5))
   (ai (nF (cJ (nN TV TC TD fX (pv 6) (dr (vv 5))))))))))
   (ai (aM (aB (KY (kb:=Q4) rfl (f0 ["level","nodes","rests","counts"] ["level","nodes","rests","counts"] []) (qC (by rfl) N.D6 (dr (PL (vv 6) (v_un Mx Qn (ax))))) (λcl C g s H=>⟨(bB rfl (aw (dv 0 en) (aw (dv 1 en) br))),aF,λD=>nP rfl rfl rfl (Ma (vv 1)) (bB rfl (aw (dv 2 en) (aw (dv 3 en) br))) (aF) (kU (b:=Q4) (t0 f) rfl (di (ej (vv 0) (vv 2))) (vv 3) rfl)⟩) (dR (aW ah (aW ah c7)) (aU (aU cm))) (dM (aV am (aV am cY))) (λD=>o4 (dR (aW ah (aW ah c7)) (aU (aU cm))) (dM (aV am (aV am cY))) (o5)))))))))),N.Gy,N.Gx.kp,N.Gz⟩⟩
theorem pS:cb ["k","many"] ["k","many"] (ae j8):=fk
def ki(K:RB)(a:Ad):QF K a 2 "check_number" a.Bu a.Bv ["k","many"] 2:=⟨_,λP w mg base N=>⟨by
 exact aX (k:=1) 2 2 _ N.G0 pS rfl rfl λb A outer s H E c=>ai (cM (ju (iF e8 kY gG o6 (ax) (vv 0) (vv 1))) (ai (bC)) (bL)),N.G1,N.G0.kp,N.G2⟩⟩
theorem oQ:cb ["self","level","rests"] ["self","level","rests"] (ae jD):=fk
def dC(K:RB)(a:Ad):QM K a 2 a.Dg a.Dh ["self","level","rests"] 3:=⟨_,λP w mg base N=>by
 exact aX (k:=1) 3 3 _ N.Jq oQ rfl rfl λb A outer s H E c=>ai (aM (aB (PN (hu2 c) (eE N.Ke N.Kh (vv 0)) (ej (di (ej (vv 1) (vv 2))) (di (ej (ax) (ax)))))))⟩
theorem uD:cb ["self","level","rests"] ["self","level","rests"] (ae oE):=fk
def jU(K:RB)(a:Ad):QM K a 4 a.Dt a.Du ["self","level","rests"] 3:=⟨_,λP w mg base N=>by
 have b:=(cf K a).2 P w base N;have d:=(bP K a).2 P w base N;have c:=(dC K a).2 P w base N
 exact aX (k:=3) 3 3 _ N.J5 uD rfl rfl λg A outer s H E e=>ac (cM (pK (xM (cu (w4 (hu2 e)) Qm (di (ej (vv 1) (vv 2))) (eE N.Ke N.Kh (vv 0))) (tJ (cu (gY e) jK (vv 1) (bW N.D8 (dr (eE N.Ke N.Kg (vv 0)))))))) (ai (aM (aB (fG (ft))))) (bL))
   (ai (aM (aB (aO rfl (f0 ["counts","self","level","rests"] ["counts"] [0,1,2]) (aR (vc b e (K_ (vv 2) (eE N.Ke N.Kg (vv 0)) (eE N.Ke N.Ki (vv 0)) (vv 1)))) (λcl C i s H=>⟨(dv 0 en),qE (cu qe vh (bw aK bz (lW N.Ke N.Jr c (e.mono (by decide)) (bx.nil N.Js) yk (vv 1) (ej (bp bi cz (vv 2) (ax)) (vc d e (ej (vv 3) (vv 0)))) (λδ β r f h=>by rw[(aL (aL ry)) δ β r f h];rfl)) (ax)) (ax)),λD=>aA rfl (vv 0) rfl⟩) ah am (λD=>aD)))))⟩
theorem da:cb ["net","level","rests","told","counts","tables","dealings"] ["net","level","rests"] (ae jy):=fk
def eF(K:RB)(a:Ad):QF K a 5 "steps_counted" a.Bw a.Bx ["net","level","rests"] 3:=⟨_,λP w mg base N=>⟨by
 have d:=(jU K a).2 P w base N;have c:=(bP K a).2 P w base N;have b:=(dC K a).2 P w base N;have e:=(mq K a).2 P w base N
 exact aX (k:=4) 3 7 _ N.G3 da rfl rfl λi A outer s H E g=>ac (nB (fc 3 da.nd (fE (ft))))
   (ac (bS aE (bA cP rfl (aR (lW N.Ke N.J6 d (g.mono (by decide)) (bx.nil N.J7) bH (vv 0) (ej (vv 1) (vv 2)) (λδ β r f h=>by rw[(aL (aL ry)) δ β r f h];rfl))) (dv 4 da.nd) (ac (nE (eU (bn aE (bn aE dQ)) (bj (bj c9))) (eS (lW N.Ke N.Jr b (g.mono (by decide)) (bx.nil N.Js) bH (vv 0) (ej (bp bi cz (vv 1) (ax)) (vc c g (ej (vv 2) (vv 4)))) (λδ β r f h=>by rw[(aL (aL ry)) δ β r f h];rfl)) (bB rfl (aw (dv 5 da.nd) (aw (dv 6 da.nd) br)))))
   (ai (nF (cJ (nN TV TC TD fX (pv 3) (dr (di (pj (vv 4) (vv 5) (bp kr qr (vc e g (dr (vv 4))) (vv 6))))))))))))
   (ai (aM (aB (vv 3))))),N.G4,N.G3.kp,N.G5⟩⟩
theorem gH:cb ["numbered","k","at"] ["numbered","k"] (ae pY):=fk
def kR(K:RB)(a:Ad):QF K a 2 "falls_to" a.By a.Bz ["numbered","k"] 2:=⟨_,λP w mg base N=>⟨by
 exact aX (k:=1) 2 3 _ N.G6 gH rfl rfl λb A outer s H E c=>ac (aJ (fc 2 gH.nd (ax)))
   (ac (Lg cP (cu JW l_ge (vv 1) (bw aK bz (bw aK bz (vv 0) (vv 2)) (ax))) (ac (gb LZ (eP (i:=1) gH.nd rfl (by first|exact Tg rfl|exact T5 rfl) (bw aK bz (bw aK bz (vv 0) (vv 2)) (ax)) NT))
   (ai (gb iJ (eP (i:=2) gH.nd rfl (by first|exact Tg rfl|exact T5 rfl) (ax) kA)))))
   (ai (aM (aB (di (ej (bw aK bz (bw aK bz (vv 0) (vv 2)) (ax)) (vv 1))))))),N.G7,N.G6.kp,N.G8⟩⟩
theorem tF:cb ["self"] ["self"] (ae mn):=fk
def i7(K:RB)(a:Ad):QM K a 3 a.Dd a.Df ["self"] 1:=⟨_,λP w mg base N=>by
 have b:=(dC K a).2 P w base N;exact aX (k:=2) 1 1 _ N.Jn tF rfl rfl λd A outer s H E e=>ai (aM (aB (bw aK bz (lW N.Ke N.Jr b (e.mono (by decide)) (bx.nil N.Js) bH (vv 0) (ej (ax) (bF cR gF (by rfl) N.Eg PyProof.Rows.Boot.«tuple» (dr (eE N.Ke N.Kj (vv 0))))) (λδ β r c h=>by rw[(aL (aL ry)) δ β r c h];rfl)) (ax))))⟩
theorem rb:cb ["self"] ["self"] (ae lR):=fk
def d7(K:RB)(a:Ad):QM K a 2 a.Di a.Dj ["self"] 1:=⟨_,λP w mg base N=>by
 exact aX (k:=1) 1 1 _ N.Jt rb rfl rfl λb A outer s H E c=>ai (aM (aB (bF bJ gi (by rfl) N.D9 PyProof.Rows.Boot.«list» (dr (eE N.Ke N.Kj (vv 0))))))⟩
theorem oP:cb ["self"] ["self"] (ae jC):=fk
def jG(K:RB)(a:Ad):QM K a 2 a.Dl a.Dm ["self"] 1:=⟨_,λP w mg base N=>by
 exact aX (k:=1) 1 1 _ N.Jw oP rfl rfl λb A outer s H E c=>ai (aM (aB (aO rfl (f0 ["counts"] ["counts"] []) (aR (eE N.Kk N.Km (vv 0))) (λcl C d s H=>⟨(dv 0 en),aF,λD=>aA rfl (fj N.Ef (dr (vv 0))) rfl⟩) ah am (λD=>aD))))⟩
theorem ow:cb ["self"] ["self"] (ae iX):=fk
def fV(K:RB)(a:Ad):QM K a 2 a.Do a.Dp ["self"] 1:=⟨_,λP w mg base N=>by
 exact aX (k:=1) 1 1 _ N.Jz ow rfl rfl λb A outer s H E c=>ai (aM (aB (bF bJ gi (by rfl) N.D9 PyProof.Rows.Boot.«list» (dr (eE N.Ke N.Kg (vv 0))))))⟩
theorem lV:cb ["self"] ["self"] (ae gW):=fk
def gX(K:RB)(a:Ad):QM K a 3 a.Dq a.Dr ["self"] 1:=⟨_,λP w mg base N=>by
 have b:=(cN K a).2 P w base N;exact aX (k:=2) 1 1 _ N.J2 lV rfl rfl λc A outer s H E d=>ai (aM (aB (aO rfl (f0 ["counts"] ["counts"] []) (aR (vc b d (dr (eE N.Kk N.Km (vv 0))))) (λcl C e s H=>⟨(dv 0 en),aF,λD=>aA rfl (fj N.Ef (dr (vv 0))) rfl⟩) ah am (λD=>aD))))⟩
theorem cB:cb ["net","k","rests","columns","level","numbered","filling"] ["net","k"] (ae oA):=fk
def gJ(K:RB)(a:Ad):QF K a 6 "kth_table" a.B0 a.B5 ["net","k"] 2:=⟨_,λP w mg base N=>⟨by
 have h:=(i7 K a).2 P w base N;have d:=(ki K a).2 P w base N;have f:=(d7 K a).2 P w base N;have b:=(fV K a).2 P w base N;have c:=(eF K a).2 P w base N;have j:=(kR K a).2 P w base N;have e:=(bP K a).2 P w base N;have g:=(cN K a).2 P w base N
 exact aX (k:=5) 2 7 _ N.G9 cB rfl rfl λm A outer s H E l=>ac (gU (cJ (vc d l (ej (vv 1) (dy N.Ke N.Jo h (l.mono (by decide)) (bx.nil N.Jp) bH (vv 0) rfl)))))
   (ac (aJ (fc 2 cB.nd (bF cR gF (by rfl) N.Eg PyProof.Rows.Boot.«tuple» (dr (dy N.Ke N.Ju f (l.mono (by decide)) (bx.nil N.Jv) bH (vv 0) rfl)))))
   (ac (nB (fc 3 cB.nd (fE (ft))))
   (ac (bS aE (bA cP rfl (bY (by rfl) N.Ec (dr (bW N.D8 (dr (dy N.Ke N.J0 b (l.mono (by decide)) (bx.nil N.J1) bH (vv 0) rfl))))) (dv 4 cB.nd) (ac (uE (i:=5) cB.nd rfl (by first|exact Tg rfl|exact T5 rfl) rfl (f0 ["counts","tables","dealings"] ["counts","tables","dealings"] []) (aR (vc c l (pj (vv 0) (vv 4) (vv 2)))) (λcl C n s H=>⟨(bB rfl (aw (dv 0 en) (aw (dv 1 en) (aw (dv 2 en) br)))),aF,λD=>aA rfl (di (ej (vv 0) (vv 1))) rfl⟩) (dR (aW ah (aW ah (aW ah c7))) (aU (aU (aU cm)))) (dM (aV am (aV am (aV am cY)))) (λD=>aD))
   (ac (nE (eU (bn aE (bn aE dQ)) (bj (bj c9))) (eS (vc j l (ej (vv 5) (vv 1))) (bB rfl (aw (dv 6 cB.nd) (aw (dv 1 cB.nd) br)))))
   (ac (nF (cJ (nN TV TC TD fX (pv 3) (dr (vv 6)))))
   (ai (aJ (fc 2 cB.nd (vc e l (ej (vv 2) (vv 6)))))))))))
   (ai (aM (aB (vc g l (dr (vv 3))))))))),N.Ha,N.G9.kp,N.Hb⟩⟩
theorem iR:cb ["net","rows","many"] ["net","rows"] (ae jB):=fk
def ge(K:RB)(a:Ad):QF K a 3 "columns_asked" a.B7 a.B8 ["net","rows"] 2:=⟨_,λP w mg base N=>⟨by
 have b:=(fV K a).2 P w base N;have c:=(d7 K a).2 P w base N;have d:=(cN K a).2 P w base N
 exact aX (k:=2) 2 3 _ N.Hc iR rfl rfl λf A outer s H E e=>ac (aJ (fc 2 iR.nd (bW N.D8 (dr (dy N.Ke N.J0 b (e.mono (by decide)) (bx.nil N.J1) bH (vv 0) rfl)))))
   (ac (cM (pK (xM (cu (kq e) nV (bW N.D8 (dr (vv 1))) (bW N.D8 (dr (dy N.Ke N.Ju c (e.mono (by decide)) (bx.nil N.Jv) bH (vv 0) rfl)))) (tJ (jt (cX (fZ rfl) nW (by rfl) N.D5 PyProof.Rows.Boot.«any» (dr (aO rfl (f0 ["counts","many"] ["counts"] [2]) (aR (vv 1)) (λcl C g s H=>⟨(dv 0 en),aF,λD=>aA rfl (jr (kq e) nV (bW N.D8 (dr (vv 0))) (vv 1)) rfl⟩) ah am (λD=>aD)))))))) (ai (bC)) (bL))
   (ai (aM (aB (aO rfl (f0 ["counts"] ["counts"] []) (aR (vc d e (dr (vv 1)))) (λcl C g s H=>⟨(dv 0 en),aF,λD=>aA rfl (bF cR gF (by rfl) N.Eg PyProof.Rows.Boot.«tuple» (dr (vv 0))) rfl⟩) ah am (λD=>aD)))))),N.Hd,N.Hc.kp,N.He⟩⟩
theorem bE:cb ["net","level","rests","filling","tables_ahead","dealings_ahead","counts","tables","dealings"] ["net","level","rests","filling"] (ae jA):=fk
def eJ(K:RB)(a:Ad):QF K a 6 "counted_ahead" a.Ca a.Cb ["net","level","rests","filling"] 4:=⟨_,λP w mg base N=>⟨by
 have b:=(eF K a).2 P w base N
 exact aX (k:=5) 4 9 _ N.Hf bE rfl rfl λd A outer s H E c=>ac (aJ (fc 4 bE.nd (ax)))
   (ac (aJ (fc 5 bE.nd (ax)))
   (ac (bS (eU (bn aE (bn aE (bn aE dQ))) (bj (bj (bj c9)))) (bA cP rfl (aR (vc b c (pj (vv 0) (vv 1) (vv 2)))) (bB rfl (aw (dv 6 bE.nd) (aw (dv 7 bE.nd) (aw (dv 8 bE.nd) br)))) (ac (cM (cu (gY c) jK (vv 6) (vv 3)) (ai (aM (aB (di (ej (vv 4) (vv 5)))))) (bL))
   (ac (gb iJ (eP (i:=4) bE.nd rfl (by first|exact Tg rfl|exact T5 rfl) (vv 7) kA))
   (ai (gb iJ (eP (i:=5) bE.nd rfl (by first|exact Tg rfl|exact T5 rfl) (vv 8) kA)))))))
   (ai (bC)))),N.Hg,N.Hf.kp,N.Hh⟩⟩
theorem cT:cb ["net","rows","rests","first","many","level","filling"] ["net","rows"] (ae sj):=fk
def jF(K:RB)(a:Ad):QF K a 7 "stretch" a.Cc a.Cd ["net","rows"] 2:=⟨_,λP w mg base N=>⟨by
 have e:=(d7 K a).2 P w base N;have b:=(ge K a).2 P w base N;have c:=(eJ K a).2 P w base N;have f:=(mq K a).2 P w base N;have d:=(bP K a).2 P w base N
 exact aX (k:=6) 2 7 _ N.Hi cT rfl rfl λh A outer s H E g=>ac (aJ (fc 2 cT.nd (bF cR gF (by rfl) N.Eg PyProof.Rows.Boot.«tuple» (dr (dy N.Ke N.Ju e (g.mono (by decide)) (bx.nil N.Jv) bH (vv 0) rfl)))))
   (ac (aJ (fc 3 cT.nd (ax)))
   (ac (aJ (fc 4 cT.nd (ax)))
   (ac (bS (eU (bn aE (bn aE dQ)) (bj (bj c9))) (bA cP rfl (qC (by rfl) N.D6 (dr (vc b g (ej (vv 0) (vv 1))))) (bB rfl (aw (dv 5 cT.nd) (aw (dv 6 cT.nd) br))) (ac (gb iJ (eP (i:=3) cT.nd rfl (by first|exact Tg rfl|exact T5 rfl) (bp kr qr (vv 4) (bw aK bz (vc c g (K_ (vv 0) (vv 5) (vv 2) (vv 6))) (ax))) kA))
   (ac (gb rB (eP (i:=4) cT.nd rfl (by first|exact Tg rfl|exact T5 rfl) (vc f g (dr (vv 6))) rF))
   (ai (aJ (fc 2 cT.nd (vc d g (ej (vv 2) (vv 6))))))))))
   (ai (aM (aB (di (ej (vv 3) (bp bi cz (vv 3) (vv 4)))))))))),N.Hj,N.Hi.kp,N.Hk⟩⟩
theorem lH:cb ["rows","one","other","told"] ["rows","one","other"] (ae md):=fk
def iZ(K:RB)(a:Ad):QF K a 3 "two_joined" a.Cf a.Cg ["rows","one","other"] 3:=⟨_,λP w mg base N=>⟨by
 have b:=(ie K a).2 P w base N
 exact aX (k:=2) 3 4 _ N.Hl lH rfl rfl λd A outer s H E c=>ac (gU (cJ (vc b c (ej (vv 1) (bW N.D8 (dr (vv 0)))))))
   (ac (gU (cJ (vc b c (ej (vv 2) (bW N.D8 (dr (vv 0)))))))
   (ac (cM (cu (gY c) jK (vv 1) (vv 2)) (ai (bC)) (bL))
   (ac (MU (fc 3 lH.nd (EK bJ LU (by rfl) N.D9 PyProof.Rows.Boot.«list» (dr (vv 0)))))
   (ac (MV (eS (aO rfl (f0 ["here","there"] ["here","there"] []) (qA (by rfl) N.Eh (ej (bw aK bz (vv 0) (vv 1)) (bw aK bz (vv 0) (vv 2)))) (λcl C e s H=>⟨(bB rfl (aw (dv 0 en) (aw (dv 1 en) br))),aF,λD=>aA rfl (bp bi cz (vv 0) (vv 1)) rfl⟩) (dR (aW ah (aW ah c7)) (aU (aU cm))) (dM (aV am (aV am cY))) (λD=>aD)) (mz (pv 3) (vv 1) iQ)))
   (ac (PZ (Lp (pv 3) (vv 2)))
   (ai (aM (aB (vv 3))))))))),N.Hm,N.Hl.kp,N.Hn⟩⟩
theorem gT:cb ["_law_bag_here","_law_block","_law_columns","_law_things","_law_grid_here","_law_thing","_law_at","_law_to"] ["_law_bag_here","_law_block","_law_columns","_law_things"] (ae uH):=fk
def kP(K:RB)(a:Ad):QF K a 3 "_law_grid" a.Cl a.Cm ["_law_bag_here","_law_block","_law_columns","_law_things"] 4:=⟨_,λP w mg base N=>⟨by
 have b:=sO P w base N
 exact aX (k:=2) 4 8 _ N.Hw gT rfl rfl λd A outer s H E c=>ac (MX (i:=4) gT.nd rfl (by first|exact Tg rfl|exact T5 rfl) rfl (f0 ["_law_row","_law_columns"] ["_law_row"] [2]) (bY (by rfl) N.Ec (dr (vv 1))) (λcl C e s H=>⟨(dv 0 en),aF,λD=>aA rfl (Qd (dr (ax)) (vv 1)) rfl⟩) ah am (λD=>LT))
   (ac (bS aE (bA cP rfl (bY (by rfl) N.Ec (dr (vv 3))) (dv 5 gT.nd) (ac (aJ (fc 6 gT.nd (vc b c (ej (vv 0) (vv 1)))))
   (ac (aJ (fc 7 gT.nd (vc b c (ej (vv 0) (vv 2)))))
   (ai (MW (eS (bp bi cz (bw aK bz (bw aK bz (vv 4) (vv 6)) (vv 7)) (ax)) (mz (jI fY (pv 4) (vv 6) (λ_ _=>rfl)) (vv 7) iQ))))))))
   (ai (aM (aB (vv 4))))),N.Hx,N.Hw.kp,N.Hy⟩⟩
theorem wf:cb ["_law_block"] ["_law_block"] (ae pV):=fk
def kO(K:RB)(a:Ad):QF K a 2 "_law_turned" a.Cn a.Co ["_law_block"] 1:=⟨_,λP w mg base N=>⟨by
 exact aX (k:=1) 1 1 _ N.Hz wf rfl rfl λb A outer s H E d=>ai (aM (aB (aO rfl (f0 ["_law_to","_law_block"] ["_law_to"] [0]) (bY (by rfl) N.Ec (dr (bW N.D8 (dr (bw aK bz (vv 0) (ax)))))) (λcl C c s H=>⟨(dv 0 en),aF,λD=>aA rfl (aO rfl (f0 ["_law_row","_law_to"] ["_law_row"] [0]) (aR (vv 1)) (λcl C c s H=>⟨(dv 0 en),aF,λD=>aA rfl (bw aK bz (vv 0) (vv 1)) rfl⟩) ah am (λD=>aD)) rfl⟩) ah am (λD=>aD)))),N.Ia,N.Hz.kp,N.Ib⟩⟩
theorem uC:cb ["_law_grid_here"] ["_law_grid_here"] (ae oy):=fk
def jR(K:RB)(a:Ad):QF K a 2 "_law_rowsums" a.Cp a.Cq ["_law_grid_here"] 1:=⟨_,λP w mg base N=>⟨by
 exact aX (k:=1) 1 1 _ N.Id uC rfl rfl λb A outer s H E c=>ai (aM (aB (aO rfl (f0 ["_law_row"] ["_law_row"] []) (aR (vv 0)) (λcl C d s H=>⟨(dv 0 en),aF,λD=>aA rfl (fj N.Ef (dr (vv 0))) rfl⟩) ah am (λD=>aD)))),N.Ie,N.Id.kp,N.Ig⟩⟩
theorem pR:cb ["_law_grid_here"] ["_law_grid_here"] (ae j7):=fk
def gC(K:RB)(a:Ad):QF K a 3 "_law_columnsums" a.Cr a.Cs ["_law_grid_here"] 1:=⟨_,λP w mg base N=>⟨by
 have b:=(kO K a).2 P w base N;exact aX (k:=2) 1 1 _ N.Ih pR rfl rfl λc A outer s H E d=>ai (aM (aB (aO rfl (f0 ["_law_column"] ["_law_column"] []) (aR (vc b d (dr (vv 0)))) (λcl C e s H=>⟨(dv 0 en),aF,λD=>aA rfl (fj N.Ef (dr (vv 0))) rfl⟩) ah am (λD=>aD)))),N.Ii,N.Ih.kp,N.Ij⟩⟩
theorem zN:cb ["_law_block","_law_columns"] ["_law_block","_law_columns"] (ae uI):=fk
def oX(K:RB)(a:Ad):QF K a 2 "_law_free" a.Ct a.Cu ["_law_block","_law_columns"] 2:=⟨_,λP w mg base N=>⟨by
 exact aX (k:=1) 2 2 _ N.Ik zN rfl rfl λb A outer s H E d=>ai (aM (aB (aO rfl (f0 ["_law_at","_law_columns"] ["_law_at"] [1]) (bY (by rfl) N.Ec (dr (vv 0))) (λcl C c s H=>⟨(dv 0 en),aF,λD=>aA rfl (aO rfl (f0 ["_law_to"] ["_law_to"] []) (bY (by rfl) N.Ec (dr (vv 1))) (λcl C c s H=>⟨(dv 0 en),aF,λD=>aA rfl (di (ej (ax) (ax))) rfl⟩) ah am (λD=>aD)) rfl⟩) ah am (λD=>aD)))),N.Il,N.Ik.kp,N.Im⟩⟩
theorem wg:cb ["_law_block"] ["_law_block"] (ae pW):=fk
def qb(K:RB)(a:Ad):QF K a 2 "_law_copied" a.Cv a.Cw ["_law_block"] 1:=⟨_,λP w mg base N=>⟨by
 exact aX (k:=1) 1 1 _ N.Io wg rfl rfl λb A outer s H E c=>ai (aM (aB (aO rfl (f0 ["_law_row"] ["_law_row"] []) (aR (vv 0)) (λcl C d s H=>⟨(dv 0 en),aF,λD=>aA rfl (bF bJ gi (by rfl) N.D9 PyProof.Rows.Boot.«list» (dr (vv 0))) rfl⟩) ah am (λD=>aD)))),N.Ip,N.Io.kp,N.Iq⟩⟩
theorem eM:cb ["_law_rests","_law_lot","_law_pairs","_law_found","_law_rest","_law_duo","_law_longer","_law_one","_law_count"] ["_law_rests","_law_lot","_law_pairs"] (ae wI):=fk
def re(K:RB)(a:Ad):QF K a 2 "_law_fit" a.Cy a.Cz ["_law_rests","_law_lot","_law_pairs"] 3:=⟨_,λP w mg base N=>⟨by
 exact aX (k:=1) 3 9 _ N.Ir eM rfl rfl λb A outer s H E c=>ac (aJ (fc 3 eM.nd (fG (dr (fG (ft))))))
   (ac (bS (eU (bn aE (bn aE dQ)) (bj (bj c9))) (bA cP rfl (qA (by rfl) N.Eh (ej (vv 0) (vv 2))) (bB rfl (aw (dv 4 eM.nd) (aw (dv 5 eM.nd) br))) (ac (nB (fc 6 eM.nd (fE (ft))))
   (ac (bS aE (bA cP rfl (aR (vv 3)) (dv 7 eM.nd) (ai (bS aE (bA cP rfl (pf (by rfl) N.Ec (ej (bw aK bz (vv 5) (ax)) (bp bi cz (cX (m3 rfl) yz (by rfl) N.Eb PyProof.Rows.Boot.«min» (ej (bw aK bz (vv 5) (ax)) (vv 4))) (ax)))) (dv 8 eM.nd) (ai (nF (cJ (nN TV TC TD fX (pv 6) (dr (bp bi cz (vv 7) (fG (dr (vv 8))))))))))))))
   (MY 6 (ai (aJ (fc 3 eM.nd (vv 6)))))))))
   (ai (aM (aB (aO rfl (f0 ["_law_one","_law_lot"] ["_law_one"] [1]) (aR (vv 3)) (λcl C d s H=>⟨(dv 0 en),qE (cu (gY c) jK (fj N.Ef (dr (vv 0))) (vv 1)),λD=>aA rfl (vv 0) rfl⟩) ah am (λD=>aD)))))),N.Iu,N.Ir.kp,N.Iw⟩⟩
theorem zM:cb ["_law_rests","_law_column"] ["_law_rests","_law_column"] (ae uG):=fk
def oW(K:RB)(a:Ad):QF K a 2 "_law_less" a.C0 a.C2 ["_law_rests","_law_column"] 2:=⟨_,λP w mg base N=>⟨by
 exact aX (k:=1) 2 2 _ N.Ix zM rfl rfl λb A outer s H E c=>ai (aM (aB (aO rfl (f0 ["_law_rest","_law_count"] ["_law_rest","_law_count"] []) (qA (by rfl) N.Eh (ej (vv 0) (vv 1))) (λcl C d s H=>⟨(bB rfl (aw (dv 0 en) (aw (dv 1 en) br))),aF,λD=>aA rfl (bp gh iC (vv 0) (vv 1)) rfl⟩) (dR (aW ah (aW ah c7)) (aU (aU cm))) (dM (aV am (aV am cY))) (λD=>aD)))),N.Iy,N.Ix.kp,N.Iz⟩⟩
theorem bX:cb ["_law_rowsums_here","_law_columnsums_here","_law_limits","_law_found","_law_to","_law_lot","_law_longer","_law_told","_law_rests","_law_column"] ["_law_rowsums_here","_law_columnsums_here","_law_limits"] (ae oz):=fk
def jS(K:RB)(a:Ad):QF K a 3 "_law_listing" a.C3 a.C4 ["_law_rowsums_here","_law_columnsums_here","_law_limits"] 3:=⟨_,λP w mg base N=>⟨by
 have c:=(re K a).2 P w base N;have b:=(oW K a).2 P w base N
 exact aX (k:=2) 3 10 _ N.I0 bX rfl rfl λe A outer s H E d=>ac (aJ (fc 3 bX.nd (fG (dr (di (ej (fG (ft)) (bF bJ gi (by rfl) N.D9 PyProof.Rows.Boot.«list» (dr (vv 0)))))))))
   (ac (bS (eU (bn aE (bn aE dQ)) (bj (bj c9))) (bA cP rfl (qC (by rfl) N.D6 (dr (vv 1))) (bB rfl (aw (dv 4 bX.nd) (aw (dv 5 bX.nd) br))) (ac (nB (fc 6 bX.nd (fE (ft))))
   (ac (bS (eU (bn aE (bn aE dQ)) (bj (bj c9))) (bA cP rfl (aR (vv 3)) (bB rfl (aw (dv 7 bX.nd) (aw (dv 8 bX.nd) br))) (ai (bS aE (bA cP rfl (aR (vc c d (pj (vv 8) (vv 5) (aO rfl (f0 ["_law_row","_law_to"] ["_law_row"] [4]) (aR (vv 2)) (λcl C f s H=>⟨(dv 0 en),aF,λD=>aA rfl (bw aK bz (vv 0) (vv 1)) rfl⟩) ah am (λD=>aD))))) (dv 9 bX.nd) (ai (nF (cJ (nN TV TC TD fX (pv 6) (dr (di (ej (bp bi cz (vv 7) (fG (dr (vv 9)))) (vc b d (ej (vv 8) (vv 9)))))))))))))))
   (MY 6 (ai (aJ (fc 3 bX.nd (vv 6)))))))))
   (ai (aM (aB (aO rfl (f0 ["_law_told","_law_rests"] ["_law_told","_law_rests"] []) (aR (vv 3)) (λcl C f s H=>⟨(bB rfl (aw (dv 0 en) (aw (dv 1 en) br))),aF,λD=>aA rfl (vv 0) rfl⟩) (dR (aW ah (aW ah c7)) (aU (aU cm))) (dM (aV am (aV am cY))) (λD=>aD)))))),N.I9,N.I0.kp,N.Ja⟩⟩
theorem DU:cb ["_law_grid_here","_law_limits"] ["_law_grid_here","_law_limits"] (ae wK):=fk
def rf(K:RB)(a:Ad):QF K a 4 "_law_all" a.C5 a.C6 ["_law_grid_here","_law_limits"] 2:=⟨_,λP w mg base N=>⟨by
 have c:=(jR K a).2 P w base N;have b:=(gC K a).2 P w base N;have d:=(jS K a).2 P w base N;exact aX (k:=3) 2 2 _ N.Jb DU rfl rfl λf A outer s H E e=>ai (aM (aB (vc d e (pj (vc c e (dr (vv 0))) (vc b e (dr (vv 0))) (vv 1))))),N.Jc,N.Jb.kp,N.Jd⟩⟩
theorem ou:cb ["self","rows"] ["self","rows"] (ae iW):=fk
def pe(K:RB)(a:Ad):IP:=
  k8 (li (fP (gf K a).1 (ao (aj 1) (aN))))
  (iD (bT 1 [] (cQ (aj 1)) (gs 0) (λ_=>M.ret Q4) (k_ (bt nS (ao (aj 0) (aN)))))
  (yG))
def k6(K:RB)(a:Ad):List D->M (List D):=ld 2 (pe K a)
theorem sF(N:F3 K mg a):fh P w K mg base (hY P w) 3 a.C9 a.Da ["self","rows"] (spI K a.Af ["counts"] 1 (k6 K a)):=by
 have b:=(gf K a).2 P w base N;unfold k6
 exact xo (k:=2) 1 2 (pe K a) N.Jh ou rfl rfl λc A outer s H E d=>yH (gU (cJ (vc b d (dr (vv 1)))))
   (qB N.Kk N.Km (by decide) (by decide) (mx (pv 0) (aO rfl (f0 ["counts"] ["counts"] []) (aR (vv 1)) (λcl C e s H=>⟨(dv 0 en),aF,λD=>aA rfl (bF bJ gi (by rfl) N.D9 PyProof.Rows.Boot.«list» (dr (vv 0))) rfl⟩) ah am (λD=>aD)) rfl)
   (Kz))
theorem pT:cb ["self","one","other","rows"] ["self","one","other","rows"] (ae j9):=fk
def c5(K:RB)(a:Ad):QM K a 5 a.C7 a.C8 ["self","one","other","rows"] 4:=⟨_,λP w mg base N=>by
 have c:=(iZ K a).2 P w base N;have d:=sF P w base N;have b:=(cN K a).2 P w base N
 exact aX (k:=4) 4 4 _ N.Je pT rfl rfl λg A outer s H E f=>ac (cM (jt (vv 3)) (ai (aM (aB (jX N.Ji d (f.mono (by decide)) (by rfl) N.Kl (bx.nil N.Jj) bH (dr (vc c f (pj (eE N.Kk N.Km (vv 0)) (vv 1) (vv 2)))) (λδ β r e h=>by rw[(aL ry) δ β r e h];rfl))))) (bL))
   (ai (aM (aB (jX N.Ji d (f.mono (by decide)) (by rfl) N.Kl (bx.nil N.Jj) bH (dr (vc b f (dr (vc c f (pj (vc b f (dr (eE N.Kk N.Km (vv 0)))) (vv 1) (vv 2)))))) (λδ β r e h=>by rw[(aL ry) δ β r e h];rfl)))))⟩
theorem jx:cb ["self","rowsums","columnsums","bounds","settled"] ["self","rowsums","columnsums","bounds"] (ae kg):=fk
def vt(K:RB)(a:Ad):IP:=
  k8 (mS 4 (fP (dI K a).1 (ao (aj 1) (ao (aj 2) (ao (aj 3) (aN))))))
  (k8 (li (fP (fA K a).1 (ao (aj 1) (ao (aj 2) (ao (aj 4) (aN))))))
  (iD (bt nS (ao (aj 1) (aN)))
  (iD (bt nS (ao (aj 2) (aN)))
  (iD (aj 4)
  (iD (fP (eG K a).1 (ao (aj 1) (ao (aj 2) (ao (aj 4) (aN)))))
  (yG))))))
def mF(K:RB)(a:Ad):List D->M (List D):=ld 5 (vt K a)
theorem LG(N:F3 K mg a):fh P w K mg base (hY P w) 6 a.Db a.Dc ["self","rowsums","columnsums","bounds"] (spI K a.Ae ["row_list","column_list","pairs","counted"] 3 (mF K a)):=by
 have c:=(eG K a).2 P w base N;have d:=(fA K a).2 P w base N;have b:=(dI K a).2 P w base N;unfold mF
 exact xo (k:=5) 3 5 (vt K a) N.Jk jx rfl rfl λf A outer s H E e=>yH (aJ (fc 4 jx.nd (vc b e (pj (vv 1) (vv 2) (vv 3)))))
   (yH (gU (cJ (vc d e (pj (vv 1) (vv 2) (vv 4)))))
   (qB N.Ke N.Kj (by decide) (by decide) (mx (pv 0) (bF bJ gi (by rfl) N.D9 PyProof.Rows.Boot.«list» (dr (vv 1))) rfl)
   (qB N.Ke N.Kg (by decide) (by decide) (mx (pv 0) (bF bJ gi (by rfl) N.D9 PyProof.Rows.Boot.«list» (dr (vv 2))) rfl)
   (qB N.Ke N.Ki (by decide) (by decide) (mx (pv 0) (vv 4) rfl)
   (qB N.Ke N.Kh (by decide) (by decide) (mx (pv 0) (vc c e (pj (vv 1) (vv 2) (vv 4))) rfl)
   (Kz))))))
theorem q9:cb ["self"] ["self"] (ae lP):=fk
def lS(K:RB)(a:Ad):QM K a 2 a.Dv a.Dw ["self"] 1:=⟨_,λP w mg base N=>by
 exact aX (k:=1) 1 1 _ N.J8 q9 rfl rfl λb A outer s H E c=>ai (aM (aB (aO rfl (f0 ["counts"] ["counts"] []) (aR (eE N.Kk N.Km (vv 0))) (λcl C d s H=>⟨(dv 0 en),aF,λD=>aA rfl (bF bJ gi (by rfl) N.D9 PyProof.Rows.Boot.«list» (dr (vv 0))) rfl⟩) ah am (λD=>aD))))⟩
theorem pU:cb ["self"] ["self"] (ae kd):=fk
def kj(K:RB)(a:Ad):QM K a 3 a.Dx a.Dy ["self"] 1:=⟨_,λP w mg base N=>by
 have b:=(dC K a).2 P w base N;exact aX (k:=2) 1 1 _ N.Kb pU rfl rfl λd A outer s H E e=>ai (aM (aB (bw aK bz (lW N.Ke N.Jr b (e.mono (by decide)) (bx.nil N.Js) bH (vv 0) (ej (ax) (bF cR gF (by rfl) N.Eg PyProof.Rows.Boot.«tuple» (dr (eE N.Ke N.Kj (vv 0))))) (λδ β r c h=>by rw[(aL (aL ry)) δ β r c h];rfl)) (ax))))⟩
theorem bO:cb ["_law_script","_law_bag_here","_law_grid_here","_law_down","_law_lot","_law_one","_law_other","_law_table","_law_net","_law_joined","_law_block","_law_first","_law_behind","_law_total","_law_columns","_law_before","_law_start","_law_stop"] ["_law_script"] (ae nC):=fk
def qa(K:RB)(a:Ad):{g:G//∀(P:RT) (w:R8) {mg:R3->Option Ra} (base:SE) (N:F3 K mg a) (f:Q6) (I:Ra) (A:SB) (outer:List Yi) (s:Rg) (H:Hp) (E:XK),ef 7 (A.deeper (PyProof.Rows.envOfC "law" (ae nC) s.heap.objs.size f I))->PSs (gn (hY P w) P w K mg base ["_law_script","_law_bag_here","_law_grid_here","_law_down","_law_lot","_law_one","_law_other","_law_table","_law_net","_law_joined","_law_block","_law_first","_law_behind","_law_total","_law_columns","_law_before","_law_start","_law_stop"] "law" (ae nC) f I A outer s H E) (c8 nC).tail (tG K H g (λ_=>E))}:=⟨_,λP w mg base N f I A outer s H E i=>by
 have b:=sO P w base N;have B:=(kP K a).2 P w base N;have t:=(qb K a).2 P w base N;have o:=sF P w base N;have c:=(c5 K a).2 P w base N;have p:=(jR K a).2 P w base N;have k:=(gC K a).2 P w base N;have y:=LG P w base N;have j:=(jG K a).2 P w base N;have e:=(gX K a).2 P w base N;have n:=(i7 K a).2 P w base N;have q:=(gJ K a).2 P w base N;have l:=(jF K a).2 P w base N;have C:=(oX K a).2 P w base N;have F:=(rf K a).2 P w base N;have u:=(kO K a).2 P w base N;have m:=(lS K a).2 P w base N;have d:=(kj K a).2 P w base N
 exact ac (aJ (fc 2 bO.nd (vc B i (K_ (vv 1) (bp bi cz (ax) (vc b i (ej (vv 1) (ax)))) (bp bi cz (ax) (vc b i (ej (vv 1) (ax)))) (vc b i (ej (vv 1) (ax)))))))
   (ac (aJ (fc 3 bO.nd (jr (gY i) jK (vc b i (ej (vv 1) (ax))) (ax))))
   (ac (aJ (fc 4 bO.nd (bW N.D8 (dr (vv 2)))))
   (ac (cM (ju (jt (vv 3))) (ai (aJ (fc 4 bO.nd (bW N.D8 (dr (bw aK bz (vv 2) (ax))))))) (bL))
   (ac (aJ (fc 5 bO.nd (vc b i (ej (vv 1) (vv 4)))))
   (ac (aJ (fc 6 bO.nd (bp ku Qo (bp bi cz (bp bi cz (vv 5) (ax)) (vc b i (ej (vv 1) (bp gh iC (vv 4) (ax))))) (vv 4))))
   (ac (aJ (fc 7 bO.nd (ww N.Kk N.Jf c (i.mono (by decide)) N.Jg bH (jX N.Ji o (i.mono (by decide)) (by rfl) N.Kl (bx.nil N.Jj) bH (dr (vc t i (dr (vv 2)))) (λδ β r v h=>by rw[(aL ry) δ β r v h];rfl)) (ej (vv 5) (vv 6)) (wu (vv 3) (zk)) (aL (aL ry)) (aL ry) rfl)))
   (ac (aJ (fc 8 bO.nd (jX N.Jl y (i.mono (by decide)) (by rfl) N.Kf N.Jm bH (ej (vc p i (dr (vv 2))) (vc k i (dr (vv 2)))) (λδ β r v h=>by rw[(aL (aL ry)) δ β r v h];rfl))))
   (ac (aJ (fc 9 bO.nd (jX N.Jl y (i.mono (by decide)) (by rfl) N.Kf N.Jm bH (ej (dy N.Kk N.Jx j (i.mono (by decide)) (bx.nil N.Jy) bH (vv 7) rfl) (dy N.Kk N.J3 e (i.mono (by decide)) (bx.nil N.J4) bH (vv 7) rfl)) (λδ β r v h=>by rw[(aL (aL ry)) δ β r v h];rfl))))
   (ac (aJ (fc 10 bO.nd (vc q i (ej (vv 9) (vc b i (ej (vv 1) (dy N.Ke N.Jo n (i.mono (by decide)) (bx.nil N.Jp) bH (vv 9) rfl)))))))
   (ac (nE (eU (bn aE (bn aE dQ)) (bj (bj c9))) (eS (vc l i (ej (vv 9) (vv 10))) (bB rfl (aw (dv 11 bO.nd) (aw (dv 12 bO.nd) br)))))
   (ac (aJ (fc 13 bO.nd (ax)))
   (ac (bS aE (bA cP rfl (aR (vc F i (ej (vv 2) (vc C i (ej (bW N.D8 (dr (vv 2))) (bW N.D8 (dr (bw aK bz (vv 2) (ax))))))))) (dv 14 bO.nd) (ac (aJ (fc 15 bO.nd (vc u i (dr (vv 14)))))
   (ai (cM (cu (gY i) jK (dy N.Kk N.J9 m (i.mono (by decide)) (bx.nil N.Ka) bH (ww N.Kk N.Jf c (i.mono (by decide)) N.Jg bH (jX N.Ji o (i.mono (by decide)) (by rfl) N.Kl (bx.nil N.Jj) bH (dr (vv 15)) (λδ β r v h=>by rw[(aL ry) δ β r v h];rfl)) (ej (vv 5) (vv 6)) (wu (vv 3) (zk)) (aL (aL ry)) (aL ry) rfl) rfl) (vv 10)) (ac (nE (eU (bn aE (bn aE dQ)) (bj (bj c9))) (eS (vc l i (ej (vv 8) (vv 15))) (bB rfl (aw (dv 16 bO.nd) (aw (dv 17 bO.nd) br)))))
   (ai (aJ (fc 13 bO.nd (bp gh iC (bp bi cz (vv 13) (vv 17)) (vv 16)))))) (bL))))))
   (ai (aM (aB (jr (gY i) jK (bp kr qr (vv 13) (dy N.Ke N.Kc d (i.mono (by decide)) (bx.nil N.Kd) bH (vv 9) rfl)) (bp kr qr (bp gh iC (vv 12) (vv 11)) (dy N.Ke N.Kc d (i.mono (by decide)) (bx.nil N.Kd) bH (vv 8) rfl))))))))))))))))))⟩
theorem NA{f:Q6}{o:RG}(F:dq K "law" "law" nC f o)(N:F3 K mg a)(T:∀β:Bg,β.ok->∃d,(qa K a).1 [QY,on (.sh .bag),QY,QY,QY,QY,QY,QY,QY,QY,QY,QY,QY,QY,QY,QY,QY,QY] β=on (.rt (.bl Q4),d)):
  fh P w K mg base (hY P w) 8 f o ["_law_script"] (JO K):=by
 have c:=EJ P w base N;refine F.okE (k:=7) bO (λvs H Q E h=>?_) (λg A outer s H vs Q E p h=>?_)
 .obtain⟨a,ns,rfl,_⟩:=h
  rfl
 .obtain⟨a1,ns,rfl,r,q,k⟩:=h
  have rest:=(qa K a).2 P w base N f g A outer s H E p;refine⟨_,db (rest:=(c8 nC).tail) (fc 1 bO.nd (rm c (p.mono (by decide)) rfl N.Hq N.Ho.kp N.Hr .nil yk (eZ (pv 0) i8))) rest,?_⟩;refine⟨_,rfl,a1,ns,rfl,r,λb l C i j t u=>?_⟩;obtain⟨β,ok,m⟩:=Mp (K:=K) (a:=a1) (n:=["_law_script","_law_bag_here","_law_grid_here","_law_down","_law_lot","_law_one","_law_other","_law_table","_law_net","_law_joined","_law_block","_law_first","_law_behind","_law_total","_law_columns","_law_before","_law_start","_law_stop"].length-2) u i j t;obtain⟨d,e⟩:=T β ok;exact⟨_,_,_,β,_,d,m,e,λv I y s fr B=>by cases B.bl;exact k y⟩
end
end Law
namespace Law
open PySem L2 L2.Pu L2.Nt
section
variable{K:RB}{a:Ad}{β:Bg}
abbrev tN(l:List Nat):D:=j0 (nI l)
abbrev eN(b:List Nat×Nat):D:= .tup [tN b.1,.int (b.2:Int)]
abbrev pN(p:Nat×Nat):D:=pD ((p.1:Int),(p.2:Int))
def y3(r:List Nat):Prop:=1<=r.length/\r.length<=4/\r.sum<=40/\pr (r.map (·+1))<=500
theorem pB{f g:FD}{δ:Dn}{x y:D}{ds es:List D}(b:f δ β=on (.ok x,β))(c:g δ β=on (.ok y,β))(d:fK x=on ds)(e:fK y=on es):yp (ao f (ao g aN)) δ β=on (.ok (d8 ds es),β):=bv (aa b (aa c rfl)) (by
 unfold DA;simp only[d,e,Xx,SY])
theorem M6{lo:Nat}{h:Int}(b:-1000<=h)(c:h<=1000)(d:lo<=1000):oV [.int (lo:Int),.int h]=on ((Re (h-lo).toNat).map λi=>D.int ((lo+i:Nat):Int)):=by
 have e:oV [.int (lo:Int),.int h]=on (bh lo (h-lo).toNat):=by
  simp only[oV];rw[Rb (by simp only[RZ,R5];omega)]
 rw[e];exact R9 on (RE λi _=>by congr 1)
theorem addT{l:List Nat}{c:Nat}(h:l.length<=100):m6 (tN l) (.tup [.int (c:Int)])=on (tN (l++[c])):=by
 cases l with
 |nil=>rfl
 |cons x l=>
  show(if _ then _ else _)=_;rw[Rb (aY (by simp at h⊢;omega))];simp[j0]
theorem zC(l:List Nat)(k:Nat):fI [.lst (((nI l).map D.int).drop k)]=on (.int (((l.drop k).sum:Nat):Int)):=by
 rw[<-Vr,<-Vr];exact(dL _).trans (by rw[<-jd])
theorem zu:∀{r:List Nat} {ps:List (Nat×Nat)},(r.zip ps).map (λq=>D.int (UL (q.1:Int) (q.2.2:Int)))=(nI (lj ps r)).map D.int
 |[],_=>by cases ‹List (Nat×Nat)›<;>rfl
 |_::_,[]=>rfl
 |x::r,p::ps=>by
  have e:=zu (r:=r) (ps:=ps);show _::_=D.int ((UL x p.2:Nat):Int)::(nI (lj ps r)).map D.int;rw[<-e];show D.int (UL (x:Int) (p.2:Int))::_=_;rw[show UL (x:Int) (p.2:Int)=((UL x p.2:Nat):Int) by omega];rfl
theorem zt:∀{ps:List (Nat×Nat)} {r:List Nat} {k:Nat} (b:k<ps.length) (c:k<r.length),(lj ps r)[k]?=on (UL r[k] ps[k].2)
 |p::ps,x::r,0,_,_=>rfl
 |p::ps,x::r,k+1,b,c=>zt (k:=k) (by simpa using b) (by simpa using c)
abbrev vH(ps:List (Nat×Nat))(r:List Nat)(c:Nat)(st:D)(b d e:Option Sl):Ds:=[on (.sh (tN r)),on (.sh (.int (c:Int))),on (.sh (.lst (ps.map pN))),on (.sh (.lst ((nI (lg ps)).map .int))),on (.sh (.lst ((nI (lj ps r)).map .int))),on (.sh st),b,d,e]
theorem N1{ps:List (Nat×Nat)}{r:List Nat}{c:Nat}(H:y3 r)(v:ps.length=r.length)(A:∀p∈ps,p.1<=40/\p.2<=40)(R:c<=40):(kQ K a).1 [tN r,.int (c:Int),.lst (ps.map pN)] β=on (.ok (.lst ((vB ps r c).map tN)),β):=by
 obtain⟨_,T,hs,U⟩:=H;have I:r.length<=RF:=aY (by omega);have o:∀k,k<=r.length->(l_ ps r c k).length<=RF:=λk m=>aY (Ru (wD c k m) (Ru (tU r k) (by omega)));unfold kQ
 dsimp only
 refine aC ?_;refine aG (d:= .lst ((nI (lg ps)).map .int)) (β1:=β) ?_ ?_
 .have:=aS (nv:=2) (cw:=[]) (it:=cQ (aj 2)) (tg:=Q_ (gz (gs 0) (gz (gs 1) lX))) (f:=aj 0) (δ:=vw (vH ps r c .non QY QY QY)) (β:=β) ps pN (λp=> .int (p.1:Int)) rfl (λx _=>⟨[on (.int (x.1:Int)),on (.int (x.2:Int))],rfl,rfl⟩) (by rw[v];exact I)
  refine Eq.trans this ?_;unfold lg;rw[Rc,Rc];rfl
 refine aG (d:= .lst ((nI (lj ps r)).map .int)) (β1:=β) ?_ ?_
 .rw[<-zu]
  exact aS (nv:=3) (cw:=[]) (it:=yp (ao (aj 0) (ao (aj 2) (aN)))) (tg:=Q_ (gz (gs 0) (gz (Q_ (gz (gs 1) (gz (gs 2) lX))) lX))) (f:=bt u7 (ao (aj 0) (ao (aj 2) (aN)))) (δ:=vw (vH ps r c .non QY QY QY)) (β:=β) (r.zip ps) (λq=>D.tup [.int (q.1:Int),pN q.2]) _ (by
   rw[<-gx (λx:Nat=>D.int (x:Int)) pN];refine pB (x:=tN r) (y:= .lst (ps.map pN)) rfl rfl ?_ rfl;show on _=on _;rw[Rc];rfl) (λq _=>⟨[on (.int (q.1:Int)),on (.int (q.2.1:Int)),on (.int (q.2.2:Int))],rfl,ag rfl ES⟩) (aY (by rw[Ua];omega))
 refine aG (d:= .lst ((l_ ps r c 0).map eN)) (β1:=β) (ag (aa (ag (aa (ag rfl rfl) (aa rfl rfl)) fR) rfl) mG) ?_;refine ci (ds:=bh 0 r.length) (β1:=β) (bv (aa (ag (z:= .int (r.length:Int)) rfl (by show on (D.int _)=_;rw[QX,QX])) rfl) (v_ (by omega) (by omega))) (λk δ C=>β=C/\∃B t u,δ=vH ps r c (.lst ((l_ ps r c k).map eN)) B t u) ⟨rfl,QY,QY,QY,rfl⟩ ?_ ?_
 .rintro k d δ _ hd ⟨rfl,B,t,u,rfl⟩
  obtain⟨m,rfl⟩:=yd hd;have j:k<ps.length:=by omega
  have J:ps[k]?=on ps[k]:=Q2 j;have b40:=A _ (R1 j);have W:(lg ps).sum<=160:=by
   have g:∀l:List (Nat×Nat),(∀p∈l,p.1<=40/\p.2<=40)->(lg l).sum<=40*l.length:=λl=>by
    induction l with
    |nil=>intro _;exact Rf _
    |cons p l ih=>
     intro h;have:=ih λq v=>h q (Q1 _ v);have:=(h p Q7).1;simp only[lg,Rk,Rh,Rl]at*;omega
   have:=g ps A;omega
  have F:∀(l:List Nat) (n:Nat),(l.drop n).sum<=l.sum:=λl n=>by
   conv=>rhs;rw[<-T4 n l,XX]
   omega
  have L:=F (lg ps) (k+1);have N:=Ru (F (lj ps r) (k+1)) zr;refine⟨vH ps r c (.lst ((l_ ps r c k).map eN)) (on (.sh (.int (k:Int)))) t u,rfl,?_⟩;refine aG (d:= .int ((((lg ps).drop (k+1)).sum:Nat):Int)) (β1:=β) (ag (aa (rQ rfl (d_ rfl rfl rfl)) rfl) ((R9 (λl=>fI [.lst l]) (vT (k:=k+1))).trans (zC _ _))) ?_;refine aG (d:= .int ((((lj ps r).drop (k+1)).sum:Nat):Int)) (β1:=β) (ag (aa (rQ rfl (d_ rfl rfl rfl)) rfl) ((R9 (λl=>fI [.lst l]) (vT (k:=k+1))).trans (zC _ _))) ?_;refine ak (aG (d:= .lst ((l_ ps r c (k+1)).map eN)) (β1:=β) ?_ (bu ⟨rfl,_,_,_,rfl⟩));have e:(l_ ps r c (k+1)).map eN=(l_ ps r c k).flatMap λb=>(nxB r[k] ps[k] ((lg ps).drop (k+1)).sum ((lj ps r).drop (k+1)).sum b).map eN:=by
   show((l_ ps r c k).flatMap _).map eN=_;rw[Tt,cg m,cg j]
  rw[e];refine xC (l_ ps r c k) eN _ rfl (λb A=>⟨[on (tN b.1),on (.int (b.2:Int)),QY,on (.lst ((nI (lg ps)).map .int)),on (.int (k:Int)),on (.int ((((lj ps r).drop (k+1)).sum:Nat):Int)),on (.lst ((nI (lj ps r)).map .int)),on (.int ((((lg ps).drop (k+1)).sum:Nat):Int))],rfl,?_⟩) (by
   rw[<-e,QX];exact o (k+1) m)
  obtain⟨b2,b1⟩:=zH ps r c k b A;have X:=iI (R1 m);unfold nxB;generalize ((lg ps).drop (k+1)).sum=few at*;generalize ((lj ps r).drop (k+1)).sum=most at*;refine(uV (Re (UL (UL r[k] ps[k].2+few) b.2+1-few-max ps[k].1 (b.2-most))) (λi=>D.int ((max ps[k].1 (b.2-most)+i:Nat):Int)) (λi=>eN (b.1++[max ps[k].1 (b.2-most)+i],b.2-(max ps[k].1 (b.2-most)+i))) ?_ ?_).trans (by rw[Rc];rfl)
  .refine bv (as:=[.int ((max ps[k].1 (b.2-most):Nat):Int),.int (UL ((UL r[k] ps[k].2:Nat):Int) ((b.2:Int)-few)+1)]) (aa (ag (aa (d_ rfl rfl (bR (d:= .int (ps[k].1:Int)) ?_)) (aa (d_ rfl rfl rfl) rfl)) (max2.trans ?_)) (aa (d_ (ag (aa (d_ rfl rfl (bR (d:= .int ((UL r[k] ps[k].2:Nat):Int)) ?_)) (aa (d_ rfl rfl rfl) rfl)) ES) rfl rfl) rfl)) ((M6 (by omega) (by omega) (by omega)).trans ?_)
   .unfold lg
    rw[Q5,Q5,Q5,J];rfl
   .rw[show max (ps[k].1:Int) ((b.2:Int)-(most:Int))=((max ps[k].1 (b.2-most):Nat):Int) by omega]
   .rw[Q5,Q5,zt j m];rfl
   .rw[show(UL ((UL r[k] ps[k].2:Nat):Int) ((b.2:Int)-few)+1-((max ps[k].1 (b.2-most):Nat):Int)).toNat=UL (UL r[k] ps[k].2+few) b.2+1-few-max ps[k].1 (b.2-most) by omega]
  .refine λi O=>⟨[on (tN b.1),on (.int (b.2:Int)),on (.int ((max ps[k].1 (b.2-most)+i:Nat):Int)),on (.lst ((nI (lg ps)).map .int)),on (.int (k:Int)),on (.int (most:Int)),on (.lst ((nI (lj ps r)).map .int)),on (.int (few:Int))],rfl,ag (aa (d_ rfl (ag rfl rfl) (addT (l:=b.1) (c:=max ps[k].1 (b.2-most)+i) (by omega))) (aa (d_ rfl rfl rfl) rfl)) (fR.trans ?_)⟩
   have Q:=Rz.mp O;show on (D.tup [_,.int _])=on (D.tup [_,.int _]);rw[show(b.2:Int)-((max ps[k].1 (b.2-most)+i:Nat):Int)=((b.2-(max ps[k].1 (b.2-most)+i):Nat):Int) by omega]
 .rintro δ _ ⟨rfl,B,t,u,rfl⟩
  rw[p9];have h:=jj (nv:=2) (cw:=[]) (it:=cQ (aj 5)) (tg:=Q_ (gz (gs 0) (gz (gs 1) lX))) (tt:=fB (f2 (ji) (aj 1) (fC (.int 0)))) (f:=aj 0) (δ:=hO (vH ps r c (.lst ((l_ ps r c r.length).map eN)) B t u)) (β:=β) (l_ ps r c r.length) eN (λb=>tN b.1) (λb=>decide ((b.2:Int)=0)) rfl (λb _=>⟨[on (tN b.1),on (.int (b.2:Int))],rfl,j_ (d_ rfl rfl eq_int),λ_=>rfl⟩) (o _ (Rf _));refine ak (aQ h ⟨rfl,?_⟩);rw[<-K6 v,Rc];rfl
theorem v3{α:Type}{tg:m_}{b:FL}{δ:Dn}{β:Bg}(u:α->D)(o:α->List D):∀(xs:List α),(∀x∈xs,∃δ1,tg (u x) δ=on δ1/\b δ1 β=on (.ok (o x),β))->p4 tg (λ_=>M.ret Q4) b (xs.map u) δ β=on (.ok (xs.flatMap o),β)
 |[],_=>rfl
 |x::xs,h=>by
  obtain⟨δ1,c,d⟩:=h x Q7;have e:=v3 u o xs λy f=>h y (Q1 _ f);rw[Rk,p4];simp only[c,M.bind,M.ret,reduceIte,d,e,R6]
theorem lD{α:Type}{nv:Nat}{cw:List Nat}{it:FL}{tg:m_}{b:FL}{c:List D->Option D}{δ:Dn}{β:Bg}{d:D}(xs:List α)(u:α->D)(o:α->List D)(e:it δ β=on (.ok (xs.map u),β))
  (f:∀x∈xs,∃δ1,tg (u x) (lK nv cw δ)=on δ1/\b δ1 β=on (.ok (o x),β)) (g:c (xs.flatMap o)=on d):hG nv cw it tg (λ_=>M.ret Q4) b c δ β=on (.ok d,β):=by
 unfold hG;rw[e];simp only[v3 u o xs f,g,SY]
theorem Qg{α:Type}{it:FL}{tg:m_}{b:FL}{δ:Dn}{β:Bg}(xs:List α)(u:α->D)(o:α->List D)(c:it δ β=on (.ok (xs.map u),β))(d:∀x∈xs,∃δ1,tg (u x) δ=on δ1/\b δ1 β=on (.ok (o x),β)):U_ it tg (λ_=>M.ret Q4) b δ β=on (.ok (xs.flatMap o),β):=by
 unfold U_ M.bind;rw[c];exact v3 u o xs d
noncomputable abbrev oh(B:List (List (Nat×Nat))):LP:=B.map λrow=>row.map λp=>((p.1:Int),(p.2:Int))
abbrev ot(B:List (List (Nat×Nat))):D:=d9 (oh B)
noncomputable def lE(B:List (List (Nat×Nat)))(k:Nat):List (Nat×Nat):=B.map λrow=>row.getD k (0,0)
def BOk(r c:Nat)(B:List (List (Nat×Nat))):Prop:=hL r c B/\∀row∈B,∀p∈row,p.1<=p.2/\p.2<=40
def wB(B:List (List (Nat×Nat)))(cs:List Nat):Wy:=λk r=>vB (lE B k) r (cs.getD k 0)
theorem xP(B:List (List (Nat×Nat)))(cs:List Nat):B9 cs (wB B cs):=λk r=>UT
theorem BOk.col{r c k:Nat}{B:List (List (Nat×Nat))}(h:BOk r c B)(e:k<c):(lE B k).length=r/\∀p∈lE B k,p.1<=40/\p.2<=40:=by
 refine⟨by unfold lE;rw[QX,h.1.1],λp d=>?_⟩;obtain⟨row,b,rfl⟩:=Rp.mp d;have l:=h.1.2 row b;rw[cg (by omega)];have:=h.2 row b _ (R1 (show k<row.length by omega));omega
theorem Mo{r cs:List Nat}{B:List (List (Nat×Nat))}{k:Nat}(c:y3 r)(hB:BOk r.length cs.length B)(i:cs.sum<=40)(e:k<cs.length):(cf K a).1 [tN r,nL cs,ot B,.int (k:Int)] β=on (.ok (.lst ((wB B cs k r).map tN)),β):=by
 have g:cs[k]?=on (cs.getD k 0):=by rw[QZ,Q2 e];rfl
 obtain⟨l,q⟩:=hB.col e;unfold cf
 dsimp only
 refine aC (ak (aQ (ar (aa rfl (aa (d_ rfl rfl (bR (d:= .int (cs.getD k 0:Int)) (by rw[Q5,Q5,g];rfl))) (aa ?_ rfl))) (N1 c l q (Ru (iI (RK g)) i))) ⟨rfl,rfl⟩));have h:=aS (nv:=1) (cw:=[3]) (it:=cQ (aj 2)) (tg:=gs 0) (f:=f2 ko (aj 0) (aj 1)) (δ:=[on (tN r),on (nL cs),on (ot B),on (.int (k:Int))]) (β:=β) B (λrow=>D.lst (row.map pN)) (λrow=>pN (row.getD k (0,0))) (bU rfl (by
  show on _=on _;rw[Rc,Rc];exact R9 on (RE λrow _=>R9 D.lst (by show Sj pD (Sj _ row)=_;rw[Rc];rfl)))) (λrow b=>⟨[on (D.lst (row.map pN)),on (.int (k:Int))],rfl,d_ rfl rfl (bR (by
   have l:=hB.1.2 row b;rw[Q5,cg (by omega),Q2 (by omega)];rfl))⟩) (aY (by rw[hB.1.1];have:=c.2.1;omega))
 refine h.trans ?_;unfold lE;rw[Rc];rfl
theorem vd:∀{r v:List Nat},g8 v r->(r.zip v).map (λp=>D.int ((p.1:Int)-(p.2:Int)))=(nI (less r v)).map D.int
 |[],[],_=>rfl
 |x::r,y::v,h=>by
  have e:=vd h.2;have b:=h.1;show _::_=D.int ((x-y:Nat):Int)::(nI (less r v)).map D.int;rw[<-e];show D.int ((x:Int)-(y:Int))::_=_;rw[show(x:Int)-(y:Int)=((x-y:Nat):Int) by omega];rfl
 |[],_::_,h=>h.elim
 |_::_,[],h=>h.elim
theorem nG{r v:List Nat}(h:g8 v r)(b:r.length<=4):(bP K a).1 [tN r,tN v] β=on (.ok (tN (less r v)),β):=by
 unfold bP
 dsimp only
 refine aC (ak (aQ (ag (aa (x:= .lst ((nI (less r v)).map D.int)) ?_ rfl) rfl) ⟨rfl,rfl⟩));rw[<-vd h];refine aS (r.zip v) (λp=>D.tup [.int (p.1:Int),.int (p.2:Int)]) _ ?_ (λp _=>⟨[on (.int (p.1:Int)),on (.int (p.2:Int))],rfl,rfl⟩) (aY (by rw[Ua];omega));rw[<-gx (λx:Nat=>D.int (x:Int)) (λx:Nat=>D.int (x:Int))];refine pB (x:=tN r) (y:=tN v) rfl rfl ?_ ?_
 .show on _=on _
  rw[Rc];rfl
 .show on _=on _
  rw[Rc];rfl
structure Nt0 (rs cs:List Nat):Prop where
 nr:y3 rs
 wd:pr (rs.dropLast.map (·+1))<63
 sm:rs.sum=cs.sum
 c1:1<=cs.length
 c6:cs.length<=6
structure nq (K:RB) (a:Ad) (rs cs:List Nat) (W:Wy) (bd:D):Prop extends Nt0 rs cs where
 ok:B9 cs W
 fl:∀{β:Bg} {k:Nat} {r:List Nat},k<cs.length->y3 r->r.length=rs.length->(cf K a).1 [tN r,nL cs,bd,.int (k:Int)] β=on (.ok (.lst ((W k r).map tN)),β)
theorem nq.at{rs cs r:List Nat}{k:Nat}{W:Wy}{bd:D}(h:nq K a rs cs W bd)(b:k<=cs.length)(c:r∈hU W rs k):y3 r/\r.length=rs.length/\r.sum<=40:=by
 have q:=(jg h.ok h.sm k b r c).1;obtain⟨d,e,f,g⟩:=h.nr;have q1:=q.len;have q2:=q.sum;have q3:=q.pr;exact⟨⟨by omega,by omega,by omega,by omega⟩,q1,by omega⟩
abbrev y2(W:Wy)(rs:List Nat)(k:Nat):D:= .lst ((hU W rs k).map tN)
theorem EN{rs cs:List Nat}{W:Wy}{bd:D}(h:nq K a rs cs W bd):(fU K a).1 [nL rs,nL cs,bd] β=on (.ok (.lst ((Re (cs.length+1)).map (y2 W rs))),β):=by
 have c6:=h.c6;unfold fU
 dsimp only
 refine aC ?_;refine aG (d:=y2 W rs 0) (β1:=β) (ag (aa (ag rfl rfl) rfl) mG) ?_;refine nk (ds:=[y2 W rs 0]) (β1:=β) rfl (show 1<=RF by decide) ?_;refine ci (ds:=bh 0 cs.length) (β1:=β) (bv (aa (ag rfl (cK (r:=cs.length) (by rw[QX,QX]))) rfl) (v_ (by omega) (by omega))) (λk δ b=>β=b/\∃c e,δ=[on (.sh (nL rs)),on (.sh (nL cs)),on (.sh (bd)),on (.sh (y2 W rs k)),on (.own ((Re (k+1)).map (y2 W rs))),c,e]) ⟨rfl,QY,QY,rfl⟩ ?_ ?_
 .rintro k d δ _ hd ⟨rfl,c,e,rfl⟩
  obtain⟨f,rfl⟩:=yd hd;refine⟨_,rfl,aG (d:=y2 W rs (k+1)) (β1:=β) ?_ (np (cs:=(Re (k+1)).map (y2 W rs)) (d:=y2 W rs (k+1)) rfl rfl (RH (show _<1000 by rw[QX,Ry];omega) (by decide)) (ak (aG (d:=y2 W rs (k+1)) (β1:=β) rfl (bu ⟨rfl,on (.sh (.int (k:Int))),on (.sh (y2 W rs (k+1))),?_⟩))))⟩
  .refine lD (hU W rs k) tN (λr=>(W k r).map λv=>tN (less r v)) rfl (λr i=>⟨[on (tN r),QY,on (nL cs),on (bd),on (.int (k:Int))],rfl,?_⟩) ?_
   .obtain⟨g,j,_⟩:=h.at (by omega) i
    exact uV _ tN _ (bU (ar rfl (h.fl f g j)) rfl) (λv l=>⟨[on (tN r),on (tN v),on (nL cs),on (bd),on (.int (k:Int))],rfl,ar rfl (nG (bq ((h.ok k r).subset l)) g.2.1)⟩)
   .rw[<-LJ h.ok h.sm h.nr.1 h.wd f]
    unfold S_;rw[Tt];simp only[Rc];rfl
  .rw[Uc (n:=k+1),RU];rfl
 .rintro δ _ ⟨rfl,c,e,rfl⟩
  rw[p9];exact ak (aQ rfl ⟨rfl,rfl⟩)
theorem f7{i:Nat}{op:D->D->Option D}{f:FD}{c d z:D}{h:G}{δ:Ds}{β β1:Bg}{Q:xr->Bg->Prop}(b:(vw δ).getD i QY=on c)(e:f (vw δ) β=on (.ok d,β1))(g:op c d=on z)(k:Gw h (δ.set i (on (.sh z))) β1 Q):Gw (bo (yO i op f) h) δ β Q:=dX (by unfold yO;simp only[b,e,g,SY]) k
theorem M5{m i:Nat}{d:D}(h:(bh 2 m)[i]?=on d):i<m/\d= .int ((i+2:Nat):Int):=by
 obtain⟨x,b,rfl⟩:=cS (f:=λ(i:Nat)=>D.int (2+(i:Int))) (xs:=Re m) h;have c:=(Rj.mp b).1;rw[Ry]at c;rw[Se c]at b;cases b;exact⟨c,by congr 1;omega⟩
theorem M3(lo:Int)(m:Nat):(bh lo m).length=m:=by unfold bh;rw[QX,Ry]
theorem smN{n:Nat}(h:n<=2^11):n<2^1000:=dD h (by decide)
theorem Mh(n:Nat):dc (n-1+1)=dc n:=by cases n<;>rfl
theorem xq{n:Nat}(h:n<=40):(jT K a).1 [.int (n:Int)] β=on (.ok (.int ((dc n:Nat):Int)),β):=by
 unfold jT
 dsimp only
 refine aC ?_;refine aG (d:= .int 1) (β1:=β) rfl ?_;refine ci (ds:=bh 2 (n-1)) (β1:=β) (bv (aa rfl (aa (d_ rfl rfl rfl) rfl)) (rg2 (by omega))) (λi δ b=>β=b/\∃c,δ=[on (.sh (.int (n:Int))),on (.sh (.int ((dc (i+1):Nat):Int))),c]) ⟨rfl,QY,rfl⟩ ?_ ?_
 .rintro i d δ _ hd ⟨rfl,c,rfl⟩
  obtain⟨e,rfl⟩:=M5 hd;exact⟨_,rfl,ak (f7 rfl rfl (mE (dD (vK (by omega)) (by decide)) (smN (by omega))) (bu ⟨rfl,_,rfl⟩))⟩
 .rintro δ _ ⟨rfl,c,rfl⟩
  rw[M3,Mh];exact ak (aQ rfl ⟨rfl,rfl⟩)
def P_(l:List Nat):Nat:=dc l.sum/pr (l.map dc)
theorem Pl{l:List Nat}{d:D}(h:Sq l d):pO [d]=on (.int ((l.sum:Nat):Int)):=by
 rw[<-jd];rcases h with rfl|rfl
 .exact MM _
 .exact ML _
theorem qi(l:List Nat):fI [nL l]=on (.int ((l.sum:Nat):Int)):=by rw[<-jd];exact dL _
theorem KJ{l:List Nat}{i n:Nat}(h:l.sum<=40)(hn:l[i]?=on n):n<=40:=Ru (iI (RK hn)) h
theorem qT{l:List Nat}{cd:D}(hs:Sq l cd)(h:l.sum<=40):(mq K a).1 [cd] β=on (.ok (.int ((P_ l:Nat):Int)),β):=by
 unfold mq
 dsimp only
 refine aC ?_;refine ci (ds:=(nI l).map D.int) (β1:=β) (bU rfl hs.seq) (λi δ c=>β=c/\∃b,δ=[on (.sh cd),b,QY]) ⟨rfl,QY,rfl⟩ ?_ ?_
 .rintro i d δ _ hd ⟨rfl,b,rfl⟩
  obtain⟨n,hn,rfl⟩:=tX hd;exact⟨_,rfl,ak (kJ (β1:=β) (j_ (d_ rfl rfl (by show on (D.bl (decide ((n:Int)<0)))=_;rw[RY (by omega)]))) (bV (bu ⟨rfl,_,rfl⟩)))⟩
 rintro δ _ ⟨rfl,b,rfl⟩;refine aG (d:= .int ((dc l.sum:Nat):Int)) (β1:=β) (ar (aa (ag rfl (Pl hs)) rfl) (xq h)) ?_;refine ci (ds:=(nI l).map D.int) (β1:=β) (bU rfl hs.seq) (λi δ c=>β=c/\∃b,δ=[on (.sh cd),b,on (.sh (.int ((dc l.sum/pr ((l.take i).map dc):Nat):Int)))]) ⟨rfl,b,by rw[W1,Ue,z7,Nat.div_one];rfl⟩ ?_ ?_
 .rintro i d δ _ hd ⟨rfl,b,rfl⟩
  obtain⟨n,hn,rfl⟩:=tX hd;refine⟨_,rfl,ak (f7 rfl (ar rfl (xq (KJ h hn))) (QI (kD n) (dD (vK (KJ h hn)) (by decide))) (bu ⟨rfl,on (.sh (.int (n:Int))),?_⟩))⟩;rw[nM hn,YZ];rfl
 .rintro δ _ ⟨rfl,b,rfl⟩
  rw[AS,TK];exact ak (aQ rfl ⟨rfl,rfl⟩)
theorem pF{l:List Nat}(h:l.sum<=40):P_ l<=2^160:=Ru (X4 _ _) (vK h)
theorem pE(l:List Nat):P_ l=mu l:=ND l
theorem k4{l:List Nat}(h:l.sum<=40):mu l<=2^160:=by rw[<-pE];exact pF h
theorem JP{α:Type}{l:List α}{i:Nat}{x:α}(f:α->Nat)(h:l[i]?=on x):L2.Nt.sm (l.take (i+1)) f=L2.Nt.sm (l.take i) f+f x:=by
 rw[Vf,h,l7];rfl
abbrev cv(W:Wy)(m k:Nat)(r:List Nat):D:= .tup [.int ((lk W (m-k) k r:Nat):Int),.int ((ro W (m-k) k r:Nat):Int)]
abbrev pq(W:Wy)(rs:List Nat)(m k:Nat):D:= .dct Q9 ((hU W rs k).map λr=>((0:Int),nI r)) ((hU W rs k).map (cv W m k))
theorem AY{f:List Nat->D}{u:List Nat}:∀{L:List (List Nat)},u∈L->lw (L.map λr=>((0:Int),nI r)) (L.map f) (0,nI u)=on (f u)
 |r::L,h=>by
  unfold lw;rw[Rk,Rk,Tk,UA];by_cases q:r=u
  .rw[q,Rv rfl];rfl
  .rw[RY λe=>q (je (VQ.mp e).2)]
   exact AY ((Rq.mp h).resolve_left λe=>q e.symm)
theorem N4{W:Wy}{rs u:List Nat}{m k:Nat}(h:u∈hU W rs k):GB (pq W rs m k) (tN u)=on (cv W m k u):=by
 show(ii Q9 (dK Q9 (0,nI u))).bind _=_;rw[rC λ_=>rfl];exact AY h
theorem yo{rs cs r:List Nat}{W:Wy}{bd:D}{k:Nat}(h:nq K a rs cs W bd)(o:k<cs.length)(p:r∈hU W rs k):(ic K a).1 [tN r,.lst ((W k r).map tN),pq W rs cs.length (k+1)] β=on (.ok (cv W cs.length k r),β):=by
 obtain⟨q,u,t⟩:=h.at (by omega) p;unfold ic
 dsimp only
 refine aC ?_;refine aG (d:= .int 0) (β1:=β) rfl (aG (d:= .int 0) (β1:=β) rfl ?_);refine ci (ds:=(W k r).map tN) (β1:=β) rfl (λi δ e=>β=e/\∃f g j,δ=[on (.sh (tN r)),on (.sh (.lst ((W k r).map tN))),on (.sh (pq W rs cs.length (k+1))),on (.sh (.int ((L2.Nt.sm ((W k r).take i) λv=>lk W (cs.length-(k+1)) (k+1) (less r v):Nat):Int))),on (.sh (.int ((L2.Nt.sm ((W k r).take i) λv=>mu v*ro W (cs.length-(k+1)) (k+1) (less r v):Nat):Int))),f,g,j]) ⟨rfl,QY,QY,QY,rfl⟩ ?_ ?_
 .rintro i d δ _ hd ⟨rfl,f,g,j,rfl⟩
  obtain⟨v,l,rfl⟩:=cS hd;have hm:=RK l;have m:less r v∈hU W rs (k+1):=nR.mpr ⟨r,p,v,hm,rfl⟩;have b:=(h.ok k r).subset hm;have hs:=(jg h.ok h.sm (k+1) o _ m).2;have c:v.sum<=40:=Ru (bq b).sum t;have n:=(h.at o m).2.2;refine⟨_,rfl,pG (d:=cv W cs.length (k+1) (less r v)) (β1:=β) (d_ rfl (ar rfl (nG (bq b) q.2.1)) (N4 m)) rfl (f7 rfl rfl rfl (ak (f7 rfl (d_ (ar rfl (qT (.inr rfl) c)) rfl (mE (dD (pF c) (by decide)) (dD (Ru (vN h.ok _ _ _ (by omega)) (by rw[gm _ _ hs];exact k4 n)) (by decide)))) rfl (bu ⟨rfl,on (.sh (tN v)),on (.sh (.int ((lk W (cs.length-(k+1)) (k+1) (less r v):Nat):Int))),on (.sh (.int ((ro W (cs.length-(k+1)) (k+1) (less r v):Nat):Int))),?_⟩))))⟩;rw[JP _ l,JP _ l,pE,X3,X3];rfl
 .rintro δ _ ⟨rfl,f,g,j,rfl⟩
  rw[QX,TK];refine ak (aQ (ag rfl fR) ⟨rfl,?_⟩);show SW (D.tup [.int ((lk W (cs.length-k) k r:Nat):Int),.int ((ro W (cs.length-k) k r:Nat):Int)])=_;rw[show cs.length-k=cs.length-(k+1)+1 by omega];rfl
theorem xL{f g:FD}{δ:Dn}{k v:D}(b:f δ β=on (.ok k,β))(c:g δ β=on (.ok v,β)):GG f g δ β=on (.ok [.tup [k,v]],β):=by
 unfold GG M.bind;rw[b];simp only[c,M.ret]
theorem vF{α b:Type}(f:α->b)(l:List α):(l.flatMap λx=>[f x])=l.map f:=by
 induction l with
 |nil=>rfl
 |cons x l ih=>rw[R6,ih];rfl
theorem AU{rs cs:List Nat}{W:Wy}{bd:D}(h:nq K a rs cs W bd){k:Nat}(b:k<=cs.length):(hU W rs k).length<=62:=by
 have:=LQ h.ok h.sm b;have:=h.wd;omega
theorem dk0{rs cs:List Nat}{W:Wy}{bd:D}(h:nq K a rs cs W bd){k:Nat}(b:k<=cs.length){os:List D}(e:os=(hU W rs k).map λr=> .tup [tN r,cv W cs.length k r]):lC Q9 os=on (pq W rs cs.length k):=by
 refine(xB (kvs:=(hU W rs k).map λr=>(((0:Int),nI r),cv W cs.length k r)) ⟨?_,?_,?_,?_⟩).trans ?_
 .rw[e,Rc];rfl
 .rw[Rc];exact qh (λx y q=>je (VQ.mp q).2) (u9 k)
 .rw[QX];exact aY (by have:=AU h b;omega)
 .rintro p c _
  obtain⟨r,_,rfl⟩:=Rp.mp c;rfl
 .rw[Rc,Rc];rfl
theorem P0{n:Nat}(h:n<=1000):tQ [.int (n:Int)]=on (iw n):=by
 simp only[tQ];rw[Rb (by simp only[RZ,R5];omega),SQ]
theorem P3{n i:Nat}{d:D}(h:(iw n)[i]?=on d):i<n/\d= .int ((n-1-i:Nat):Int):=by
 obtain⟨x,b,rfl⟩:=cS (f:=λ(i:Nat)=>D.int ((n:Int)-1-i)) (xs:=Re n) h;have c:=(Rj.mp b).1;rw[Ry]at c;rw[Se c]at b;cases b;exact⟨c,by congr 1;omega⟩
theorem zU{f:Nat->D}{n k:Nat}(h:k<n):((Re n).map f)[k]?=on (f k):=by rw[Q5,Se h];rfl
theorem BX{f:Nat->D}:∀n j,dj j ((List.range' j n).map f)=(List.range' j n).map λk=> .tup [.int (k:Int),f k]
 |0,_=>rfl
 |n+1,j=>by
  rw[List.range'_succ,Rk,Rk,<-BX n (j+1)];rfl
theorem Ll{f:Nat->D}(m:Nat):((Re (m+1)).map λj=>f (m-j)).reverse=(Re (m+1)).map f:=Tq (by simp) λi b c=>by
 simp only[Zy,QX,Ry]at b;simp only[Zo,TF,Uu,QX,Ry];congr 1;omega
abbrev Ph(W:Wy)(rs:List Nat)(m:Nat):List D:=(Re (m+1)).flatMap λk=>(hU W rs k).map (cv W m k)
abbrev rL(W:Wy)(rs:List Nat)(m:Nat):D:= .dct Q4 (kyW W rs (m+1)) (Ph W rs m)
theorem dk1{rs cs:List Nat}{W:Wy}{bd:D}(h:nq K a rs cs W bd){os:List D}(e:os=(Re (cs.length+1)).flatMap λ(k:Nat)=>(hU W rs k).map λr=> .tup [.tup [.int (k:Int),tN r],cv W cs.length k r]):lC Q4 os=on (rL W rs cs.length):=by
 refine(xB (kvs:=(Re (cs.length+1)).flatMap λ(k:Nat)=>(hU W rs k).map λr=>(((k:Int),nI r),cv W cs.length k r)) ⟨?_,?_,?_,?_⟩).trans ?_
 .rw[e,Tt];simp only[Rc];rfl
 .have:=BE (W:=W) (rs:=rs) (cs.length+1)
  unfold kyW at this;rw[Tt];simp only[Rc];exact this
 .refine aY (Ru (iK (n:=62) λk b=>?_) (by have:=h.c6;rw[Ry];omega))
  have:=Rz.mp b;rw[QX];exact AU h (by omega)
 .rintro p _ q
  cases q
 .unfold rL kyW
  rw[Tt,Tt];simp only[Rc];rfl
theorem yY{rs cs:List Nat}{W:Wy}{bd:D}(h:nq K a rs cs W bd):(eG K a).1 [nL rs,nL cs,bd] β=on (.ok (rL W rs cs.length),β):=by
 have c6:=h.c6;unfold eG
 dsimp only
 refine aC ?_;refine aG (d:= .lst ((Re (cs.length+1)).map (y2 W rs))) (β1:=β) (ar rfl (EN h)) ?_;refine aG (d:= .int (cs.length:Int)) (β1:=β) (ag rfl (cK (by rw[QX,QX]))) ?_;refine aG (d:=pq W rs cs.length cs.length) (β1:=β) (lD (hU W rs cs.length) tN (λr=>[.tup [tN r,.tup [.int 1,.int 1]]]) (bU (d_ rfl rfl (bR (zU (by omega)))) rfl) (λr _=>⟨[on (tN r)],rfl,xL rfl (ag rfl fR)⟩) (dk0 h (Rf _) (by rw[vF];simp only[cv,VW];rfl))) ?_;refine nk (ds:=[pq W rs cs.length cs.length]) (β1:=β) rfl (show 1<=RF by decide) ?_;refine ci (ds:=iw cs.length) (β1:=β) (bv rfl (P0 (by omega))) (λi δ b=>β=b/\∃c e,δ=[on (.sh (nL rs)),on (.sh (nL cs)),on (.sh (bd)),on (.sh (.lst ((Re (cs.length+1)).map (y2 W rs)))),on (.sh (.int (cs.length:Int))),on (.sh (pq W rs cs.length (cs.length-i))),on (.own ((Re (i+1)).map λj=>pq W rs cs.length (cs.length-j))),c,e]) ⟨rfl,QY,QY,rfl⟩ ?_ ?_
 .rintro i d δ _ hd ⟨rfl,c,e,rfl⟩
  obtain⟨o,rfl⟩:=P3 hd;have g:cs.length-1-i<cs.length:=by omega
  have m:cs.length-i=(cs.length-1-i)+1:=by omega
  have l:cs.length-(i+1)=cs.length-1-i:=by omega
  rw[m];refine⟨_,rfl,aG (d:=pq W rs cs.length (cs.length-1-i+1)) (β1:=β) rfl (aG (d:=pq W rs cs.length (cs.length-1-i)) (β1:=β) (lD (hU W rs (cs.length-1-i)) tN (λr=>[.tup [tN r,cv W cs.length (cs.length-1-i) r]]) (bU (d_ rfl rfl (bR (zU (by omega)))) rfl) (λr f=>⟨[on (tN r),on (nL cs),on (bd),on (.int ((cs.length-1-i:Nat):Int)),on (pq W rs cs.length (cs.length-1-i+1))],rfl,xL rfl (ar (aa rfl (aa (ar rfl (h.fl g (h.at (by omega) f).1 (h.at (by omega) f).2.1)) rfl)) (yo h g f))⟩) (dk0 h (by omega) (vF _ _))) (ak (np (cs:=(Re (i+1)).map λj=>pq W rs cs.length (cs.length-j)) (d:=pq W rs cs.length (cs.length-1-i)) rfl rfl (RH (show _<1000 by rw[QX,Ry];omega) (by decide)) (bu ⟨rfl,on (.sh (.int ((cs.length-1-i:Nat):Int))),on (.sh (pq W rs cs.length (cs.length-1-i+1))),?_⟩))))⟩;rw[Uc (n:=i+1),RU,l];show _=[_,_,_,_,_,_,on (Sl.own (_++[pq W rs cs.length (cs.length-(i+1))])),_,_];rw[l];rfl
 .rintro δ _ ⟨rfl,c,e,rfl⟩
  rw[show(iw cs.length).length=cs.length by unfold iw;rw[QX,Ry]];refine ak (aQ (lD (Re (cs.length+1)) (λk=> .tup [.int (k:Int),pq W rs cs.length k]) (λ(k:Nat)=>(hU W rs k).map λr=> .tup [.tup [.int (k:Int),tN r],cv W cs.length k r]) (bv (aa (d_ (y:= .int (-1)) rfl rfl rfl) rfl) ?_) (λk _=>⟨[on (.int (k:Int)),on (pq W rs cs.length k),QY,QY],rfl,?_⟩) (dk1 h rfl)) ⟨rfl,rfl⟩)
  .show on (dj 0 _)=_
   rw[Ll,List.range_eq_range',BX]
  .refine(Qg (hU W rs k) (λr=> .tup [tN r,cv W cs.length k r]) (λr=>[.tup [.tup [.int (k:Int),tN r],cv W cs.length k r]]) ?_ (λr _=>⟨[on (.int (k:Int)),on (pq W rs cs.length k),on (tN r),on (cv W cs.length k r)],rfl,xL (ag rfl fR) rfl⟩)).trans (by rw[vF])
   show on (SW (VP _ _ _),β)=_;rw[List.zipWith_map_left,List.zipWith_map_right,List.zipWith_self];rfl
theorem kC{r c:Nat}{a_:LI}(h:hL r c a_):(gI a_).length=r:=by rw[QX,h.1]
theorem MB{r c:Nat}{a_:LI}(sh:hL r c a_)(r0:1<=r)(r1:r<=30)(c1:c<=30){δ:Dn}(h:δ.getD 0 QY=on (aI a_)):bT 1 [0] (cU fS (ao (bt eV (ao (f2 ko (aj 0) (fC (.int 0))) (aN))) (aN))) (gs 0) (λ_=>M.ret Q4) (k_ (bT 1 [0] (cQ (aj 1)) (gs 0) (λ_=>M.ret Q4) (k_ (f2 ko (aj 0) (aj 1))))) δ β=on (.ok (aI (tp c a_)),β):=by
 obtain⟨b,d,g⟩:=sh.at (i:=0) (by omega);have k:(gI a_)[0]?=on (b.map D.int):=by rw[Q5,d];rfl
 have o:bt eV (ao (f2 ko (aj 0) (fC (.int 0))) (aN)) δ β=on (.ok (.int (c:Int)),β):=ag (aa (x:= .lst (b.map D.int)) (d_ (x:=aI a_) (tH h) rfl (jL k)) rfl) (cK (by rw[QX,g]));have e:=aS (nv:=1) (cw:=[0]) (it:=cU fS (ao (bt eV (ao (f2 ko (aj 0) (fC (.int 0))) (aN))) (aN))) (tg:=gs 0) (f:=bT 1 [0] (cQ (aj 1)) (gs 0) (λ_=>M.ret Q4) (k_ (f2 ko (aj 0) (aj 1)))) (δ:=δ) (β:=β) (Re c) (λi=>D.int (0+(i:Int))) (λj=>D.lst (a_.map λrow=>D.int (row.getD j 0))) (bv (ds:=bh 0 c) (aa o rfl) (v_ (by omega) (by omega))) ?_ (aY (by rw[Ry];omega))
 .rw[e]
  unfold tp vr;show _=on (SW (D.lst (Sj D.lst (Sj _ (Sj _ _)))),β);rw[Rc,Rc];congr 4;refine RE λj _=>?_;show _=D.lst ((a_.map λrow=>row.getD j 0).map D.int);rw[Rc];rfl
 .intro j p
  have q:=Rz.mp p;have m:lK 1 [0] δ=[QY,on (aI a_)]:=by
   unfold lK;simp only[Rk,Ue,h];rfl
  refine⟨[on (.int (0+(j:Int))),on (aI a_)],by rw[m];rfl,?_⟩;have hm:(gI a_).map D.lst=a_.map λrow=>D.lst (row.map D.int):=by rw[Rc];rfl
  refine aS (nv:=1) (cw:=[0]) a_ (λrow=>D.lst (row.map D.int)) _ (by show on (SW ((gI a_).map D.lst),β)=_;rw[hm]) (λrow t=>⟨_,rfl,d_ (x:= .lst (row.map D.int)) (y:= .int (0+(j:Int))) rfl rfl ?_⟩) (aY (by rw[sh.1];omega));have u:=sh.2 row t;obtain⟨x,n⟩:=KI (l:=row) (i:=j) (by omega);rw[UQ];refine bR ?_;rw[Q5,n,QZ,n];rfl
theorem qm{r c:Nat}{a_:LI}(sh:hL r c a_)(r0:1<=r)(r1:r<=30)(c1:c<=30):(kO K a).1 [aI a_] β=on (.ok (aI (tp c a_)),β):=
 aC (ak (aQ (MB sh r0 r1 c1 rfl) ⟨rfl,rfl⟩))
noncomputable abbrev iL(xs:List Int):D:= .lst (xs.map D.int)
theorem pM{a_:LI}(h:a_.length<=1000){f:FD}{δ:Dn}(e:f δ β=on (.ok (aI a_),β)):bT 1 [] (cQ f) (gs 0) (λ_=>M.ret Q4) (k_ (bt fI (ao (aj 0) (aN)))) δ β=on (.ok (iL (a_.map SF)),β):=by
 have hm:(gI a_).map D.lst=a_.map λrow=>D.lst (row.map D.int):=by rw[Rc];rfl
 have:=aS (nv:=1) (cw:=[]) (it:=cQ f) (tg:=gs 0) (f:=bt fI (ao (aj 0) (aN))) (δ:=δ) (β:=β) a_ (λrow=>D.lst (row.map D.int)) (λrow=>D.int row.sum) (by rw[<-hm];exact bU e rfl) (λrow _=>⟨_,rfl,ag rfl (dL row)⟩) (aY h);rw[this];show _=on (SW (D.lst ((a_.map SF).map D.int)),β);rw[Rc];rfl
theorem p0{a_:LI}(h:a_.length<=1000):(jR K a).1 [aI a_] β=on (.ok (iL (a_.map SF)),β):=
 aC (ak (aQ (pM h rfl) ⟨rfl,rfl⟩))
theorem lU{r c:Nat}{a_:LI}(sh:hL r c a_)(r0:1<=r)(r1:r<=30)(c1:c<=30):(gC K a).1 [aI a_] β=on (.ok (iL ((tp c a_).map SF)),β):=
 aC (ak (aQ (pM (by rw[(iE (d:=(0:Int)) (c:=c) sh.1).1];omega) (ar rfl (qm sh r0 r1 c1))) ⟨rfl,rfl⟩))
noncomputable def gp(G:LI)(i j:Nat):Int:=(G.getD i []).getD j 0
theorem QH{G:LI}{i j:Nat}{row:List Int}{x:Int}(b:G[i]?=on row)(c:row[j]?=on x):gp G i j=x:=by
 unfold gp;simp only[QZ,b,c,ZV]
theorem BS{G:LI}{i j:Nat}{row:List Int}(b:G[i]?=on row):row.getD j 0=gp G i j:=by
 unfold gp;rw[QZ (l:=G),b];rfl
theorem CW:∀(xs:List Int),S xs.length (λj=>xs.getD j 0)=xs.sum:=λxs=>by
 unfold S;congr 1;refine Tq (by simp) λi c b=>?_;rw[TF,Uu,QZ,Q2 b];rfl
theorem Po{r c i:Nat}{A:LI}(d:hL r c A)(e:i<r):S c (gp A i)=(A.map SF).getD i 0:=by
 obtain⟨f,b,g⟩:=d.at e;rw[QZ,Q5,b];show _=f.sum;rw[<-CW,g];exact dT λj _=>(BS b).symm
theorem Pp{r c j:Nat}{A:LI}(b:hL r c A)(f:j<c):S r (λp=>gp A p j)=((tp c A).map SF).getD j 0:=by
 have e:(tp c A)[j]?=on (A.map λrow=>row.getD j 0):=by
  show((Re c).map λj=>A.map λrow=>row.getD j 0)[j]?=_;rw[Q5,Se f];rfl
 rw[QZ,Q5,e];show _=(A.map λrow=>row.getD j 0).sum;rw[<-CW,QX,b.1];refine dT λp g=>?_;obtain⟨h,d,i⟩:=b.at g;rw[QZ (l:=A.map _),Q5,d];exact(BS d).symm
theorem n5{r c:Nat}{d:D}(e:r<=1000)(g:c<=1000):(uM K a).1 [.int (r:Int),.int (c:Int),d] β=on (.ok (lG (Rr r (Rr c d))),β):=by
 have b:∀x:Nat,bT 1 [1] (cU fS (ao (aj 2) (aN))) (gs 0) (λ_=>M.ret Q4) (k_ (aj 1)) [on (.int (0+(x:Int))),on d,on (.int (c:Int))] β=on (.ok (.lst (Rr c d)),β):=λx=>by
  have h:=aS (nv:=1) (cw:=[1]) (it:=cU fS (ao (aj 2) (aN))) (tg:=gs 0) (f:=aj 1) (δ:=[on (.int (0+(x:Int))),on d,on (.int (c:Int))]) (β:=β) (Re c) (λi=>D.int (0+(i:Int))) (λ_=>d)
   (bv rfl (v_ (by omega) (by omega))) (λx _=>⟨_,rfl,rfl⟩) (aY (by rw[Ry];omega))
  rw[eK]at h;exact h
 have h:=aS (nv:=1) (cw:=[2,1]) (it:=cU fS (ao (aj 0) (aN))) (tg:=gs 0) (f:=bT 1 [1] (cU fS (ao (aj 2) (aN))) (gs 0) (λ_=>M.ret Q4) (k_ (aj 1))) (δ:=[on (.int (r:Int)),on (.int (c:Int)),on d]) (β:=β) (Re r) (λi=>D.int (0+(i:Int))) (λ_=> .lst (Rr c d))
  (bv rfl (v_ (by omega) (by omega))) (λx _=>⟨_,rfl,b x⟩) (aY (by rw[Ry];omega))
 rw[eK]at h;unfold uM
 dsimp only
 refine aC (ak (aQ h ⟨rfl,?_⟩));simp only[lG,SJ]
theorem AN{rs:List Int}{b:List Nat}(c:∀i∈b,i<rs.length)(d:b.length<=1000):(mv K a).1 [iL rs,nL b] β=on (.ok (.int (qg rs b)),β):=by
 unfold mv
 dsimp only
 refine aC (ak (aQ (ag (aa (x:=iL (b.map λi=>rs.getD i 0)) ?_ rfl) (dL _)) ⟨rfl,rfl⟩));have:=aS (nv:=1) (cw:=[0]) (it:=cQ (aj 1)) (tg:=gs 0) (f:=f2 ko (aj 1) (aj 0)) (δ:=[on (iL rs),on (nL b)]) (β:=β) b (λi=>D.int (i:Int)) (λi=>D.int (rs.getD i 0)) (by show on (SW ((nI b).map D.int),β)=_;rw[Rc];rfl) (λi e=>⟨_,rfl,d_ rfl rfl (Kx (c i e))⟩) (aY d);refine this.trans ?_;show _=on (SW (D.lst ((b.map λi=>rs.getD i 0).map D.int)),β);rw[Rc];rfl
theorem sK{r c j:Nat}{cs:List Int}{b:LP}{g:List Nat}(sh:hL r c b)(n:cs.length=c)(k:r<=1000)(l:j<c):(dz K a).1 [iL cs,d9 b,nL g,.int (j:Int)] β=on (.ok (.int (ff cs b r g j)),β):=by
 unfold dz
 dsimp only
 refine aC ?_;refine aG (d:=iL (((Re r).filter λi=>!decide (i∈g)).map λi=>(bI b i j).1)) (β1:=β) ?_ ?_
 .have m:((gP b).map D.lst).length=r:=by rw[QX,QX,sh.1]
  have:=jj (nv:=2) (cw:=[2,3]) (it:=JY (ao (aj 1) aN)) (tg:=Q_ (gz (gs 0) (gz (gs 1) lX))) (tt:=fB (f2 (inD Q4) (aj 0) (aj 2))) (f:=f2 ko (f2 ko (aj 1) (aj 3)) (fC (.int 0))) (δ:=[on (iL cs),on (d9 b),on (nL g),on (.int (j:Int)),QY]) (β:=β) (Re r) (λi=>D.tup [.int (i:Int),.lst ((b.getD i []).map pD)]) (λi=>D.int (bI b i j).1) (λi=>!decide (i∈g)) ?_ (λi h=>⟨_,rfl,j_ (d_ rfl rfl vy),λ_=>d_ (d_ rfl rfl (vn sh (Rz.mp h) l).2) rfl vj⟩) (aY (by rw[Ry];exact k))
  .refine this.trans ?_
   show _=on (SW (D.lst ((((Re r).filter λi=>!decide (i∈g)).map λi=>(bI b i j).1).map D.int)),β);rw[Rc];rfl
  .show on (SW (dj 0 ((gP b).map D.lst)),β)=_
   rw[oH,m];congr 3;refine RE λi h=>?_;rw[Sn];congr 3;obtain⟨e,_⟩:=sh.getD (Rz.mp h);rw[QZ,Q5,Q5,e];rfl
 refine ak (aQ (d_ (x:= .int (cs.getD j 0)) (d_ rfl rfl (Kx (by omega))) (ag rfl (dL _)) rfl) ⟨rfl,?_⟩);have e:(Re r).map (λi=>if i∈g then(0:Int)else(bI b i j).1)=(Re r).map (λx=>if(!decide (x∈g))=Q4 then(bI b x j).1 else 0):=RE λi _=>by by_cases q:i∈g<;>simp[q]
 unfold ff S;rw[xp,e]
theorem s0{r c j:Nat}{b:LP}{d:List Nat}(sh:hL r c b)(e:∀i∈d,i<r)(k:d.length<=1000)(g:j<c):(dA K a).1 [d9 b,nL d,.int (j:Int)] β=on (.ok (.int (f6 b d j)),β):=by
 unfold dA
 dsimp only
 refine aC (ak (aQ (ag (aa (x:=iL (d.map λi=>(bI b i j).2)) ?_ rfl) (dL _)) ⟨rfl,rfl⟩));have:=aS (nv:=1) (cw:=[0,2]) (it:=cQ (aj 1)) (tg:=gs 0) (f:=f2 ko (f2 ko (f2 ko (aj 1) (aj 0)) (aj 2)) (fC (.int 1))) (δ:=[on (d9 b),on (nL d),on (.int (j:Int))]) (β:=β) d (λi=>D.int (i:Int)) (λi=>D.int (bI b i j).2) (by show on (SW ((nI d).map D.int),β)=_;rw[Rc];rfl) (λi h=>⟨_,rfl,d_ (d_ (d_ rfl rfl (vn sh (e i h) g).1) rfl (vn sh (e i h) g).2) rfl o8⟩) (aY k);refine this.trans ?_;show _=on (SW (D.lst ((d.map λi=>(bI b i j).2).map D.int)),β);rw[Rc];rfl
theorem zR{r c:Nat}{cs:List Int}{b:LP}{d e:List Nat}(sh:hL r c b)(k:cs.length=c)(l:r<=1000)(h:c<=1000)(m:∀i∈d,i<r)(n:d.length<=1000):(mr K a).1 [iL cs,d9 b,nL d,nL e] β=on (.ok (.int (tR cs b r c d e)),β):=by
 unfold mr
 dsimp only
 refine aC (ak (aQ (ag (aa (x:=iL ((Re c).map λj=>if j∈e then ff cs b r d j else f6 b d j)) ?_ rfl) (dL _)) ⟨rfl,rfl⟩));have:=aS (nv:=1) (cw:=[3,0,1,2]) (it:=cU fS (ao (bt eV (ao (aj 0) (aN))) (aN))) (tg:=gs 0) (f:=fIf (fB (f2 (inD Q9) (aj 0) (aj 1))) (fP (dz K a).1 (ao (aj 2) (ao (aj 3) (ao (aj 4) (ao (aj 0) (aN)))))) (fP (dA K a).1 (ao (aj 3) (ao (aj 4) (ao (aj 0) (aN)))))) (δ:=[on (iL cs),on (d9 b),on (nL d),on (nL e)]) (β:=β) (Re c) (λj=>D.int (0+(j:Int))) (λj=>D.int (if j∈e then ff cs b r d j else f6 b d j)) (bv (ds:=bh 0 c) (aa (ag rfl (cK (by rw[QX,k]))) rfl) (v_ (by omega) (by omega))) (λj o=>⟨[on (.int (j:Int)),on (nL e),on (iL cs),on (d9 b),on (nL d)],by rw[UQ];rfl,?_⟩) (aY (by rw[Ry];exact h))
 .refine this.trans ?_
  show _=on (SW (D.lst (((Re c).map λj=>if j∈e then ff cs b r d j else f6 b d j).map D.int)),β);rw[Rc];rfl
 .have g:=Rz.mp o
  by_cases q:j∈e
  .rw[Rb q]
   exact Pt (j_ (d_ rfl rfl (by rw[vy];simp[q]))) (ar rfl (sK sh k l g))
  .rw[Q8 q]
   exact Pw (j_ (d_ rfl rfl (by rw[vy];simp[q]))) (ar rfl (s0 sh m n g))
theorem AQ{r c:Nat}{cs:List Int}{b:LP}{d:List Nat}(sh:hL r c b)(g:cs.length=c)(l:r<=1000)(e:c<=1000)(m:∀i∈d,i<r)(n:d.length<=1000):(jQ K a).1 [iL cs,d9 b,nL d] β=on (.ok (nL (uZ cs b r c d)),β):=by
 unfold jQ
 dsimp only
 refine aC ?_;have h:=jj (nv:=1) (cw:=[0,1,2]) (it:=cU fS (ao (bt eV (ao (aj 0) (aN))) (aN))) (tg:=gs 0) (tt:=fB (f2 (Tm) (fP (dz K a).1 (ao (aj 1) (ao (aj 2) (ao (aj 3) (ao (aj 0) (aN)))))) (fP (dA K a).1 (ao (aj 2) (ao (aj 3) (ao (aj 0) (aN))))))) (f:=aj 0) (δ:=[on (iL cs),on (d9 b),on (nL d)]) (β:=β) (Re c) (λj=>D.int (0+(j:Int))) (λj=>D.int (j:Int)) (λj=>decide (ff cs b r d j<f6 b d j))
  (bv (ds:=bh 0 c) (aa (ag rfl (cK (by rw[QX,g]))) rfl) (v_ (by omega) (by omega)))
  (λj k=>⟨[on (.int (j:Int)),on (iL cs),on (d9 b),on (nL d)],by rw[UQ];rfl,j_ (d_ (ar rfl (sK sh g l (Rz.mp k))) (ar rfl (s0 sh m n (Rz.mp k))) rfl),λ_=>rfl⟩) (aY (by rw[Ry];exact e))
 refine ak (aQ h ⟨rfl,?_⟩);show SW (D.lst ((nI (uZ cs b r c d)).map D.int))=_;rw[Rc];rfl
theorem M2{n i:Nat}{d:D}(h:(bh 0 n)[i]?=on d):i<n/\d= .int (i:Int):=by
 obtain⟨x,b,rfl⟩:=cS (f:=λ(i:Nat)=>D.int (0+(i:Int))) (xs:=Re n) h;have c:=(Rj.mp b).1;rw[Ry]at c;rw[Se c]at b;cases b;exact⟨c,by rw[UQ]⟩
theorem y6{n:Nat}(hn:n<=6):(mw K a).1 [.int (n:Int)] β=on (.ok (.lst ((t_ n).map nL)),β):=by
 unfold mw
 dsimp only
 refine aC ?_;refine aG (d:= .lst [.lst []]) (β1:=β) (ag (aa (ag rfl EX) rfl) mG) ?_;refine ci (ds:=bh 0 n) (β1:=β) (bv rfl (v_ (by omega) (by omega))) (λi δ b=>β=b/\∃c,δ=[on (.sh (.int (n:Int))),on (.sh (.lst ((t_ i).map nL))),c]) ⟨rfl,QY,rfl⟩ ?_ ?_
 .rintro i d δ _ hd ⟨rfl,c,rfl⟩
  obtain⟨g,rfl⟩:=M2 hd;have j:(t_ i).length<=64:=by rw[xE];exact Ru (VB (by decide) (show i<=6 by omega)) (by decide)
  refine⟨[on (.sh (.int (n:Int))),on (.sh (.lst ((t_ i).map nL))),on (.sh (.int (i:Int)))],rfl,ak (aG (d:= .lst ((t_ (i+1)).map nL)) (β1:=β) ?_ (bu ⟨rfl,_,rfl⟩))⟩;have h:=aS (nv:=1) (cw:=[2]) (it:=cQ (aj 1)) (tg:=gs 0) (f:=f2 m6 (aj 0) (bt kZ (ao (aj 1) (aN)))) (δ:=vw [on (.sh (.int (n:Int))),on (.sh (.lst ((t_ i).map nL))),on (.sh (.int (i:Int)))]) (β:=β) (t_ i) nL (λl=>nL (l++[i])) rfl (λl e=>⟨[on (nL l),on (.int (i:Int))],rfl,by
   have k:l.length<=i:=by have:=(iN i l e).length_le;rwa[Ry]at this
   refine d_ rfl (ag rfl mG) ((oj ?_).trans ?_)
   .rw[QX,QX,Sd];omega
   .simp only[nL,nI,RU,Rk,Ue]⟩) (aY (by omega))
  refine d_ rfl h ((oj ?_).trans ?_)
  .rw[QX,QX];omega
  .rw[t_,RU,Rc];rfl
 .rintro δ _ ⟨rfl,c,rfl⟩
  rw[show(bh 0 n).length=n by unfold bh;rw[QX,Ry]];exact ak (aQ rfl ⟨rfl,rfl⟩)
theorem N8{r:Nat}{b:List Nat}(h:b∈t_ r):(∀i∈b,i<r)/\b.length<=r:=⟨λi c=>Rz.mp ((iN r b h).subset c),by have:=(iN r b h).length_le;rwa[Ry]at this⟩
theorem N0{r c:Nat}{rs cs:List Int}{b:LP}(sh:hL r c b)(l:rs.length=r)(m:cs.length=c)(n:r<=6)(p:c<=6)(ok:∀X Y,0<=slB rs cs b r c X Y):(fA K a).1 [iL rs,iL cs,d9 b] β=on (.ok .non,β):=by
 unfold fA
 dsimp only
 refine aC (ak (ci (ds:=(t_ r).map nL) (β1:=β) (bU (ar (aa (ag rfl (cK (r:=r) (by rw[QX,l]))) rfl) (y6 n)) rfl) (λi δ f=>β=f/\∃g h,δ=[on (.sh (iL rs)),on (.sh (iL cs)),on (.sh (d9 b)),g,h]) ⟨rfl,QY,QY,rfl⟩ ?_ ?_))
 .rintro i d δ _ hd ⟨rfl,g,h,rfl⟩
  obtain⟨e,q,rfl⟩:=cS hd;have hm:=RK q;obtain⟨k,t⟩:=N8 hm;refine⟨_,rfl,aG (d:=nL (uZ cs b r c e)) (β1:=β) (ar rfl (AQ sh m (by omega) (by omega) k (by omega))) ?_⟩;refine ak (kJ (j_ (d_ (ar rfl (AN (by rw[l];exact k) (by omega))) (ar rfl (zR sh m (by omega) (by omega) k (by omega))) ?_)) (bV (bu ⟨rfl,_,_,rfl⟩)));have o:=ok (λi=>decide (i∈e)) (λj=>decide (j∈uZ cs b r c e));have sub:(uZ cs b r c e).Sublist (Re c):=UT;rw[<-MR (iN r e hm) sub]at o;show on (D.bl (decide _))=_;rw[RY (by omega)]
 .rintro δ _ ⟨rfl,g,h,rfl⟩
  exact bu ⟨rfl,rfl⟩
theorem K3{r c:Nat}{a_:LI}{b:LP}(sh:hL r c a_)(m:hL r c b)(kp:Kp a_ b)(X Y:Nat->Bool):0<=slB (a_.map SF) ((tp c a_).map SF) b r c X Y:=by
 refine K9 (g:=gp a_) (λi f j h=>?_) (λi f=>(Po sh f).symm) (λj h=>(Pp sh h).symm) X Y;obtain⟨row,k,n⟩:=sh.at f;have ex:=oi (l:=row) (i:=j) (d:=0) (by omega);obtain⟨e,l⟩:=m.getD f;have ep:=oi (l:=b.getD i []) (i:=j) (d:=((0,0):Int×Int)) (by omega);rw[QH k ex];exact kp i j _ _ (CN k ex) (CN e ep)
variable{rs cs:List Nat}
theorem KA{g:G}{δ:Ds}{o:xr}(h:Gw g δ β (λc b=>c=o/\b=β)):g δ β=on (o,β):=by
 obtain⟨c,b,e,rfl,rfl⟩:=h;exact e
theorem eD{t:Dn->M Bool}{d b h:G}{δ:Ds}{β1:Bg}{c:Bool}{Q:xr->Bg->Prop}(e:t (hO δ) β=on (.ok c,β1))(f:c=Q9)(k:Gw (bo b h) δ β1 Q):Gw (bo (T_ t d b) h) δ β Q:=by
 subst f;exact kJ e k
theorem AK(l:List Nat){n:Nat}{δ:Dn}(b:l.length<=1000)(e:δ.getD n QY=on (nL l)):yV (bt v6 (ao (bT 1 [] (cQ (aj n)) (gs 0) (λ_=>M.ret Q4) (k_ (f2 (Tm) (aj 0) (fC (.int 0))))) (aN))) δ β=on (.ok Q9,β):=by
 have c:=aS (nv:=1) (cw:=[]) (it:=cQ (aj n)) (tg:=gs 0) (f:=f2 (Tm) (aj 0) (fC (.int 0))) (δ:=δ) (β:=β) (nI l) D.int (λx=>D.bl (decide (x<0))) (bU (tH e) rfl) (λx _=>⟨_,rfl,rfl⟩) (aY (by rw[QX];exact b));refine jp (ag (aa c rfl) (any_map _ _)) (R9 on (Xu.mpr λx d=>?_));obtain⟨n,_,rfl⟩:=Rp.mp d;simp
theorem mJ(l:List Nat):eV [nL l]=on (.int (l.length:Int)):=cK (by rw[QX,QX])
theorem Mj(h:Nt0 rs cs):(i6 K a).1 [nL rs,nL cs] β=on (.ok .non,β):=by
 obtain⟨b,c,d,e⟩:=h.nr;have c1:=h.c1;have c6:=h.c6;unfold i6
 dsimp only
 refine aC ?_;refine eD (jq (j_ (ng rfl (ag rfl (mJ rs)) rfl))) (by simp;omega) (bV ?_);refine eD (jq (j_ (ng rfl (ag rfl (mJ cs)) rfl))) (by simp;omega) (bV ?_);refine kJ (xK (AK rs (by omega) rfl) (AK cs (by omega) rfl)) (bV ?_);refine eD (j_ (d_ (ag rfl (qi rs)) (ag rfl (qi cs)) ne_int)) (by rw[h.sm];simp) (bV ?_);exact ak (eD (j_ (d_ (ag rfl (qi rs)) rfl gt_int)) (by simp;omega) (bV (bu ⟨rfl,rfl⟩)))
noncomputable abbrev s_(r c:Nat):List (List (Nat×Nat)):=Rr r (Rr c (0,40))
theorem yS(r c:Nat):oh (s_ r c)=lz r c:=by
 unfold oh s_ lz;rw[SJ,SJ];rfl
theorem Ld(h:Nt0 rs cs):(dY K a).1 [.non,.int (rs.length:Int),.int (cs.length:Int)] β=on (.ok (ot (s_ rs.length cs.length)),β):=by
 have b:=h.nr.2.1;have c6:=h.c6;unfold dY
 dsimp only
 refine aC ?_;refine xN (j_ (d_ rfl rfl rfl)) (aQ (KQ rfl (n5 (by omega) (by omega))) ⟨rfl,?_⟩);show SW (lG (gP _))=_;rw[yS];unfold lz gP;rw[SJ,SJ];rfl
theorem KR(h:y3 rs):(i5 K a).1 [nL rs] β=on (.ok .non,β):=by
 obtain⟨g,j,k,e⟩:=h;unfold i5
 dsimp only
 refine aC ?_;refine aG (d:= .int 1) (β1:=β) rfl ?_;refine ci (ds:=(nI rs).map D.int) (β1:=β) rfl (λi δ b=>β=b/\∃c,δ=[on (.sh (nL rs)),on (.sh (.int ((pr ((rs.take i).map (·+1)):Nat):Int))),c]) ⟨rfl,QY,rfl⟩ ?_ ?_
 .rintro i d δ _ hd ⟨rfl,c,rfl⟩
  obtain⟨n,hn,rfl⟩:=tX hd;have f:=iI (RK hn);have l:=Ru (tU rs i) e;refine⟨_,rfl,ak (f7 rfl (d_ (z:= .int ((n+1:Nat):Int)) rfl rfl rfl) (mE (smN (by omega)) (smN (by omega))) (bu ⟨rfl,on (.sh (.int (n:Int))),?_⟩))⟩;rw[nM hn];rfl
 .rintro δ _ ⟨rfl,c,rfl⟩
  rw[AS,TK];exact ak (eD (j_ (d_ rfl rfl gt_int)) (by simp;omega) (bV (bu ⟨rfl,rfl⟩)))
structure N_ (a_:LI) (B:List (List (Nat×Nat))) (rs cs:List Nat):Prop extends Nt0 rs cs where
 shp:hL rs.length cs.length a_
 rw1:a_.map SF=nI rs
 cl1:(tp cs.length a_).map SF=nI cs
 bok:BOk rs.length cs.length B
 kp:Kp a_ (oh B)
theorem tq{r c:Nat}{B:List (List (Nat×Nat))}(h:hL r c B):hL r c (oh B):=h.map
theorem N_.nt{a_:LI}{B:List (List (Nat×Nat))}(h:N_ a_ B rs cs):nq K a rs cs (wB B cs) (ot B):=⟨h.toNt0,xP B cs,λ{β k r} b c e=>Mo c (by rw[e];exact h.bok) (by rw[<-h.sm];exact h.nr.2.2.1) b⟩
theorem N_.fit{a_:LI}{B:List (List (Nat×Nat))}(h:N_ a_ B rs cs):(fA K a).1 [nL rs,nL cs,ot B] β=on (.ok .non,β):=by
 have b:=h.nr.2.1;have c6:=h.c6;refine N0 (tq h.bok.1) (QX _) (QX _) (by omega) (by omega) λX Y=>?_;rw[<-h.rw1,<-h.cl1];exact K3 h.shp (tq h.bok.1) h.kp X Y
abbrev nFs(B:List (List (Nat×Nat)))(rs cs:List Nat):List D:=[nL rs,nL cs,ot B,rL (wB B cs) rs cs.length]
theorem Qi{a_:LI}{B:List (List (Nat×Nat))}{d:D}(h:N_ a_ B rs cs)(hd:∀{β:Bg},(dY K a).1 [d,.int (rs.length:Int),.int (cs.length:Int)] β=on (.ok (ot B),β)):mF K a [nL rs,nL cs,d] β=on (.ok (nFs B rs cs),β):=vx λx=>by
 have sn:(dI K a).1 [nL rs,nL cs,d] β=on (.ok (ot B),β):=by
  unfold dI
  dsimp only
  refine aC ?_;exact jV (ar rfl (Mj h.toNt0)) (aG (ar (aa rfl (aa (ag rfl (mJ rs)) (aa (ag rfl (mJ cs)) rfl))) hd) (jV (ar rfl (KR h.nr)) (ak (aQ rfl ⟨rfl,rfl⟩))))
 unfold vt;refine vq (g:=mS 4 _) (δ1:=[on (.sh (.adr x)),on (.sh (nL rs)),on (.sh (nL cs)),on (.sh d),on (.sh (ot B))]) (β1:=β) (KA (ak (aG (ar rfl sn) (bu ⟨rfl,rfl⟩)))) rfl rfl ?_;refine vq (δ1:=[on (.sh (.adr x)),on (.sh (nL rs)),on (.sh (nL cs)),on (.sh d),on (.sh (ot B))]) (β1:=β) (KA (ak (jV (ar rfl h.fit) (bu ⟨rfl,rfl⟩)))) rfl rfl ?_;exact mQ (ag rfl rfl) (mQ (ag rfl rfl) (mQ rfl (mQ (ar rfl (yY h.nt)) rfl)))
theorem LL{a_:LI}(h:N_ a_ (s_ rs.length cs.length) rs cs):mF K a [nL rs,nL cs,.non] β=on (.ok (nFs (s_ rs.length cs.length) rs cs),β):=Qi h (Ld h.toNt0)
theorem Px{f:FD}{g:FL}{δ:Dn}{b:Bool}{ks:List f_}{vs:List D}{k z d:D}{y:f_}(c:f δ β=on (.ok (.dct b ks vs),β))(e:g δ β=on (.ok [k,z],β))(h:ii b k=on y)(i:lw ks vs y=on d):FZ f g δ β=on (.ok d,β):=by
 unfold FZ;rw[M.bind_ok c];simp only;rw[M.bind_ok e];simp only[h,i,SY,ZV,M.ofO]
variable{W:Wy}{bd:D}
abbrev sT(W:Wy)(cs:List Nat)(k:Nat)(r:List Nat):List (List Nat):=R_ W (cs.length-(k+1)) k r
abbrev tB(W:Wy)(cs:List Nat)(k:Nat)(r v:List Nat):Nat:=lk W (cs.length-(k+1)) (k+1) (less r v)
abbrev mB(W:Wy)(cs:List Nat)(k:Nat)(r v:List Nat):Nat:=mu v*ro W (cs.length-(k+1)) (k+1) (less r v)
abbrev dO(a:Ad)(W:Wy)(bd:D)(rs cs:List Nat):D:= .obj a.Ae ["row_list","column_list","pairs","counted"] [nL rs,nL cs,bd,rL W rs cs.length]
theorem LV{b d:List f_}{c e:List D}{y:f_}(h:b.length=c.length):lw (b++d) (c++e) y=(lw b c y).or (lw d e y):=by
 unfold lw;rw[List.zip_append h,List.find?_append];cases(b.zip c).find? λp=>decide (p.1=y)<;>rfl
theorem JZ{f:List Nat->D}{u:List Nat}{k:Int}:∀{L:List (List Nat)},u∈L->lw (L.map λr=>(k,nI r)) (L.map f) (k,nI u)=on (f u)
 |r::L,h=>by
  unfold lw;rw[Rk,Rk,Tk,UA];by_cases q:r=u
  .rw[q,Rv rfl];rfl
  .rw[RY λe=>q (je (VQ.mp e).2)]
   exact JZ ((Rq.mp h).resolve_left λe=>q e.symm)
theorem AX{f:List Nat->D}{y:f_}{k:Int}(h:k≠y.1):∀{L:List (List Nat)},lw (L.map λr=>(k,nI r)) (L.map f) y=QY
 |[]=>rfl
 |r::L=>by
  have ih:=AX (f:=f) h (L:=L);unfold lw at ih⊢;rw[Rk,Rk,Tk,UA,RY λe=>h (VQ.mp e).1];exact ih
theorem AZ{m k:Nat}{u:List Nat}(b:u∈hU W rs k):∀{L:List Nat},k∈L->lw (L.flatMap λk=>(hU W rs k).map λr=>((k:Int),nI r)) (L.flatMap λk=>(hU W rs k).map (cv W m k)) ((k:Int),nI u)=on (cv W m k u)
 |j::L,h=>by
  rw[R6,R6,LV (by rw[QX,QX])];by_cases q:j=k
  .subst q
   rw[JZ b];rfl
  .rw[AX (by show(j:Int)≠(k:Int);omega),Option.none_or]
   exact AZ b ((Rq.mp h).resolve_left λe=>q e.symm)
theorem A_{k:Nat}{u:List Nat}(c:k<=cs.length)(b:u∈hU W rs k):lw (kyW W rs (cs.length+1)) (Ph W rs cs.length) ((k:Int),nI u)=on (cv W cs.length k u):=AZ b (Rz.mpr (by omega))
theorem qM{k:Nat}{u:List Nat}(c:k<=cs.length)(d:u∈hU W rs k):(dC K a).1 [dO a W bd rs cs,.int (k:Int),tN u] β=on (.ok (cv W cs.length k u),β):=
 aC (ak (aQ (Px (eC rfl rfl) (aa (ag rfl fR) (aa (ag rfl fR) rfl)) (rC (b:=Q4) (k:=((k:Int),nI u)) λe=>(by cases e)) (A_ c d)) ⟨rfl,rfl⟩))
theorem NC{k:Nat}{u:List Nat}(b:k<=cs.length)(c:u∈hU W rs k):EO (.tup [.int (k:Int),tN u]) (rL W rs cs.length)=on (.bl Q9):=by
 show(ii Q4 (dK Q4 ((k:Int),nI u))).map _=_;rw[rC λe=>(by cases e),SY,A_ b c];rfl
theorem nq.nx{k:Nat}{r v:List Nat}(h:nq K a rs cs W bd)(b:r∈hU W rs k)(c:v∈W k r):less r v∈hU W rs (k+1):=nR.mpr ⟨r,b,v,c,rfl⟩
theorem JC{k:Nat}{r:List Nat}(h:nq K a rs cs W bd)(b:y3 r):(W k r).length<=500:=by
 have:=(h.ok k r).length_le;have:=iO r (cs.getD k 0);have:=tU r (r.length-1);rw[<-List.dropLast_eq_take]at this;have:=b.2.2.2;omega
theorem JN{k:Nat}{r:List Nat}(h:nq K a rs cs W bd)(b:y3 r):(sT W cs k r).length<=500:=Ru UT.length_le (JC h b)
theorem DP{k:Nat}{r:List Nat}(h:nq K a rs cs W bd)(d:k<cs.length)(b:r∈hU W rs k):(jU K a).1 [dO a W bd rs cs,.int (k:Int),tN r] β=on (.ok (.lst ((sT W cs k r).map tN)),β):=by
 obtain⟨c,f,g⟩:=h.at (by omega) b;unfold jU
 dsimp only
 refine aC ?_;refine eD (xK (j_ (d_ (ag rfl fR) (eC rfl rfl) (NC (by omega) b))) (j_ (d_ rfl (ag (aa (eC rfl rfl) rfl) (mJ cs)) eq_int))) (by simp;omega) (bV ?_);refine ak (aQ (jj (W k r) tN tN (λv=>decide ((0:Int)<((tB W cs k r v:Nat):Int))) (bU (ar (aa rfl (aa (eC rfl rfl) (aa (eC rfl rfl) (aa rfl rfl)))) (h.fl d c f)) rfl) (λv e=>⟨[on (tN v),on (dO a W bd rs cs),on (.int (k:Int)),on (tN r)],rfl,?_,λ_=>rfl⟩) (aY ?_)) ⟨rfl,rfl⟩)
 .exact j_ (d_ (d_ (cA rfl (aa (x:= .int ((k+1:Nat):Int)) (d_ rfl rfl rfl) (aa (ar rfl (nG (bq ((h.ok k r).subset e)) c.2.1)) rfl)) (qM d (h.nx b e))) rfl vj) rfl gt_int)
 .have:=JC (k:=k) h c
  omega
abbrev Z_(W:Wy)(j k:Nat)(r v:List Nat):D:= .tup [tN v,.int ((lk W j (k+1) (less r v):Nat):Int),.int ((mu v*ro W j (k+1) (less r v):Nat):Int)]
theorem tup3{x y z:D}:iz [x,y,z]=on (.tup [x,y,z]):=by
 unfold iz;rw[Rb (aY (by show 3<=1000;decide))]
theorem KG{k:Nat}{r:List Nat}(h:nq K a rs cs W bd)(b:k<=cs.length)(c:r∈hU W rs k):ro W (cs.length-k) k r<=2^160:=by
 refine Ru (vN h.ok _ _ _ (by omega)) ?_;rw[gm _ _ (jg h.ok h.sm k b r c).2];exact k4 (h.at b c).2.2
theorem zD{k:Nat}{r:List Nat}(h:nq K a rs cs W bd)(c:k<cs.length)(e:r∈hU W rs k):(eF K a).1 [dO a W bd rs cs,.int (k:Int),tN r] β=on (.ok (.lst ((sT W cs k r).map (Z_ W (cs.length-(k+1)) k r))),β):=by
 obtain⟨m,p,o⟩:=h.at (by omega) e;have q:=JN (k:=k) h m;unfold eF
 dsimp only
 refine aC ?_;refine nk (ds:=[]) (β1:=β) rfl (Ss _) ?_;refine ci (ds:=(sT W cs k r).map tN) (β1:=β) (bU (cA rfl rfl (DP h c e)) rfl) (λi δ f=>β=f/\∃g j l,δ=[on (.sh (dO a W bd rs cs)),on (.sh (.int (k:Int))),on (.sh (tN r)),on (.own (((sT W cs k r).take i).map (Z_ W (cs.length-(k+1)) k r))),g,j,l]) ⟨rfl,QY,QY,QY,rfl⟩ ?_ ?_
 .rintro i d δ _ hd ⟨rfl,g,j,l,rfl⟩
  obtain⟨v,n,rfl⟩:=cS hd;have hm:=(SI.mp (RK n)).1;have hn:=h.nx e hm;have b:v.sum<=40:=Ru (bq ((h.ok k r).subset hm)).sum o;refine⟨_,rfl,pG (d:=cv W cs.length (k+1) (less r v)) (β1:=β) (cA rfl (aa (x:= .int ((k+1:Nat):Int)) (d_ rfl rfl rfl) (aa (ar rfl (nG (bq ((h.ok k r).subset hm)) m.2.1)) rfl)) (qM c hn)) rfl (ak (np (cs:=((sT W cs k r).take i).map (Z_ W (cs.length-(k+1)) k r)) (d:=Z_ W (cs.length-(k+1)) k r v) rfl (aa (ag (aa rfl (aa rfl (aa (d_ (ar rfl (qT (.inr rfl) b)) rfl (mE (dD (pF b) (by decide)) (dD (KG h c hn) (by decide)))) rfl))) (tup3.trans (by rw[pE]))) rfl) (RH (show _<1000 by rw[QX,S6];omega) (by decide)) (bu ⟨rfl,on (.sh (tN v)),on (.sh (.int ((tB W cs k r v:Nat):Int))),on (.sh (.int ((ro W (cs.length-(k+1)) (k+1) (less r v):Nat):Int))),?_⟩)))⟩;rw[Vf,n,RU];rfl
 .rintro δ _ ⟨rfl,g,j,l,rfl⟩
  rw[QX,TK];exact ak (aQ rfl ⟨rfl,rfl⟩)
theorem FY(f:List Nat->Nat)(l:List (List Nat)){n:Nat}(hn:n<L2.Nt.sm l f):(kR K a).1 [.lst (l.map λv=> .tup [tN v,.int ((f v:Nat):Int)]),.int (n:Int)] β=on (.ok (.tup [tN (ri f l n).1,.int (((ri f l n).2:Nat):Int)]),β):=by
 unfold kR
 dsimp only
 refine aC ?_;refine aG (d:= .int 0) (β1:=β) rfl ?_;refine KS (λq δ g=>β=g/\∃i b:Nat,δ=[on (.sh (.lst (l.map λv=> .tup [tN v,.int ((f v:Nat):Int)]))),on (.sh (.int (b:Int))),on (.sh (.int (i:Int)))]/\q=l.length-i/\ri f (l.drop i) b=ri f l n/\b<L2.Nt.sm (l.drop i) f) ?_ l.length _ β ⟨rfl,0,n,rfl,rfl,rfl,hn⟩;rintro q δ _ ⟨rfl,i,b,rfl,rfl,e,hs⟩;have h:i<l.length:=by
  rcases VU i l.length with z|z
  .exact z
  .rw[S5 z]at hs;cases hs
 have c:(l.map λv=>D.tup [tN v,.int ((f v:Nat):Int)])[i]?=on (.tup [tN l[i],.int ((f l[i]:Nat):Int)]):=by rw[Q5,Q2 h];rfl
 rw[R7 h]at e hs;rw[aZ]at hs;have j:∀v l n,ri f (v::l) n=if n<f v then(v,n)else ri f l (n-f v):=λ_ _ _=>rfl;rw[j]at e;by_cases z:b<f l[i]
 .rw[Rb z]at e
  refine .inl ⟨β,?_,?_⟩
  .exact(j_ (d_ rfl (d_ (d_ rfl rfl (bR c)) rfl o8) ge_int)).trans (by rw[RY (by omega)])
  .rw[<-e]
   exact ak (aQ (ag (aa (d_ (d_ rfl rfl (bR c)) rfl vj) (aa rfl rfl)) fR) ⟨rfl,rfl⟩)
 .rw[Q8 z]at e
  refine .inr ⟨β,?_,?_⟩
  .exact(j_ (d_ rfl (d_ (d_ rfl rfl (bR c)) rfl o8) ge_int)).trans (by rw[Rv (by omega)])
  .refine f7 (z:= .int ((b-f l[i]:Nat):Int)) rfl (d_ (d_ rfl rfl (bR c)) rfl o8) (by show on (D.int _)=_;rw[Int.ofNat_sub (by omega)]) (ak (f7 (z:= .int ((i+1:Nat):Int)) rfl rfl rfl (bu ⟨_,rfl,l.length-(i+1),by omega,rfl,i+1,b-f l[i],rfl,rfl,e,by omega⟩)))
theorem M1{n:Nat}{vs:List (List Nat)}(g:1<=vs.length)(l:vs.length<=30)(hn:n<=30)(b:∀v∈vs,v.length=n):(cN K a).1 [.lst (vs.map tN)] β=on (.ok (aI (tp n (vs.map nI))),β):=by
 have c:(vs.map tN)[0]?=on (tN vs[0]):=by rw[Q5,Q2 (by omega)];rfl
 unfold cN
 dsimp only
 refine aC (ak (aQ (d:= .lst ((Re n).map λj=>D.lst (vs.map λv=> .int ((v.getD j 0:Nat):Int)))) (β1:=β) ?_ ⟨rfl,?_⟩))
 .refine aS (Re n) (λi=>D.int (0+(i:Int))) _ (bv (ds:=bh 0 n) (aa (ag (z:= .int (n:Int)) (aa (d_ rfl rfl (bR (k:=0) c)) rfl) ?_) rfl) (v_ (by omega) (by omega))) (λj e=>⟨[on (.int (0+(j:Int))),on (.lst (vs.map tN))],rfl,?_⟩) (aY (by rw[Ry];omega))
  .show on (D.int _)=_
   rw[QX,QX,b _ (R1 _)]
  .have f:=Rz.mp e
   refine aS (nv:=1) (cw:=[0]) vs tN _ rfl (λv h=>⟨[on (tN v),on (.int (0+(j:Int)))],rfl,d_ rfl rfl ?_⟩) (aY (by omega));rw[UQ];have m:=b v h;refine bR (xs:=(nI v).map D.int) ?_;rw[Q5,Q5,cg (by omega),Q2 (by omega)];rfl
 .unfold tp vr
  show SW (D.lst (Sj D.lst (Sj _ (Sj _ _))))=_;rw[Rc,Rc];congr 2;refine RE λj _=>?_;show D.lst (((vs.map nI).map λrow=>row.getD j 0).map D.int)=_;rw[Rc,Rc];congr 1;refine RE λv _=>?_;show D.int ((nI v).getD j 0)=_;rw[QZ,QZ,Q5];cases v[j]?<;>rfl
theorem eqI(i j:Int):VR (.int i) (.int j)=decide (i=j):=by unfold VR;exact Bool.beq_eq_decide_eq i j
theorem jM{α:Type} [DecidableEq α]{f:α->Y4}(b:∀x y,VR (f x) (f y)=decide (x=y)):∀xs ys:List α,UU (xs.map f) (ys.map f)=decide (xs=ys)
 |[],[]=>by simp[UU]
 |[],y::ys=>by simp[UU]
 |x::xs,[]=>by simp[UU]
 |x::xs,y::ys=>by
  rw[Rk,Rk,UU,b,jM b xs ys];by_cases h:x=y<;>by_cases q:xs=ys<;>simp[h,q]
theorem kM{α:Type}{f:α->D}{g:α->Y4}(h:∀x,l9 (f x)=on (g x)):∀l:List α,toPs (l.map f)=on (l.map g)
 |[]=>by simp[toPs]
 |x::l=>by
  rw[Rk,toPs,h x,kM h l];rfl
theorem sP{x y:D}{p q:Y4}(f:eqS x y=QY)(d:l9 x=on p)(e:l9 y=on q)(b:lF x=Q4)(c:lF y=Q4):ji x y=on (.bl (VR p q)):=by
 unfold ji mY;unfold lF at b c;rw[d]at b;rw[e]at c;simp only[f,d,e,b,c,Xa,SA,SY]
theorem QN(xs ys:List Int):ji (j0 xs) (j0 ys)=on (.bl (decide (xs=ys))):=by
 have t:∀l:List Int,l9 (j0 l)=on (.tuple (l.map .int)):=λl=>by
  unfold j0 l9;rw[kM (g:=WC) λx=>rfl];rfl
 have c:∀l:List Int,lF (j0 l)=Q4:=λl=>vX 1 (λx b=>by
  obtain⟨i,_,rfl⟩:=Rp.mp b;trivial) (by decide)
 rw[sP rfl (t xs) (t ys) (c xs) (c ys),VR,jM eqI]
theorem QL(u v:List Nat):ji (tN u) (tN v)=on (.bl (decide (u=v))):=by
 rw[QN];by_cases q:u=v
 .rw[q,Rv rfl,Rv rfl]
 .rw[RY q,RY λe=>q (je e)]
theorem rn:(d7 K a).1 [dO a W bd rs cs] β=on (.ok (nL rs),β):=aC (ak (aQ (ag (aa (eC rfl rfl) rfl) rfl) ⟨rfl,rfl⟩))
theorem w8:(fV K a).1 [dO a W bd rs cs] β=on (.ok (nL cs),β):=aC (ak (aQ (ag (aa (eC rfl rfl) rfl) rfl) ⟨rfl,rfl⟩))
theorem N7{n m:Nat}(h:n<m):(ki K a).1 [.int (n:Int),.int (m:Int)] β=on (.ok .non,β):=
 aC (ak (eD (jq (j_ (rR rfl rfl rfl))) (by simp;omega) (bV (bu ⟨rfl,rfl⟩))))
theorem zq(l:List Nat):uo [nL l]=on (tN l):=rfl
theorem wz:(i7 K a).1 [dO a W bd rs cs] β=on (.ok (.int ((lk W cs.length 0 rs:Nat):Int)),β):=
 aC (ak (aQ (d_ (cA rfl (aa rfl (aa (ag (aa (eC rfl rfl) rfl) rfl) rfl)) (qM (k:=0) (Ss _) (RP.mpr rfl))) rfl vj) ⟨rfl,rfl⟩))
theorem NM{b:Nat}(h:nq K a rs cs W bd)(hn:b<lk W cs.length 0 rs):(gJ K a).1 [dO a W bd rs cs,.int (b:Int)] β=on (.ok (aI (tp rs.length ((C_ W cs.length 0 rs b).map nI))),β):=by
 have c1:=h.c1;have c6:=h.c6;have B:=h.nr.2.1;unfold gJ
 dsimp only
 refine aC ?_;refine jV (ar (aa rfl (aa (cA rfl rfl wz) rfl)) (N7 hn)) ?_;refine aG (d:=tN rs) (β1:=β) (ag (aa (cA rfl rfl rn) rfl) (zq rs)) ?_;refine nk (ds:=[]) (β1:=β) rfl (Ss _) ?_;refine ci (ds:=bh 0 cs.length) (β1:=β) (bv (aa (ag (aa (cA rfl rfl w8) rfl) (mJ cs)) rfl) (v_ (by omega) (by omega))) (λi δ g=>β=g/\∃vs r,∃n:Nat,∃j l m,δ=[on (.sh (dO a W bd rs cs)),on (.sh (.int (n:Int))),on (.sh (tN r)),on (.own (vs.map tN)),j,l,m]/\vs.length=i/\r∈hU W rs i/\n<lk W (cs.length-i) i r/\vs++C_ W (cs.length-i) i r n=C_ W cs.length 0 rs b) ⟨rfl,[],rs,b,QY,QY,QY,rfl,rfl,RP.mpr rfl,hn,rfl⟩ ?_ ?_
 .rintro i d δ _ hd ⟨rfl,vs,r,n,j,l,m,rfl,o,f,hn,c⟩
  obtain⟨y,rfl⟩:=yd hd;have p:cs.length-i=(cs.length-(i+1))+1:=by omega
  rw[p,<-zF]at hn;rw[p]at c;obtain⟨A,p2⟩:=vI hn;have q:=(SI.mp A).1;have le:=bq ((h.ok i r).subset q);have t:=(h.at (by omega) f).1;have C:=JN (k:=i) h t;refine⟨_,rfl,aG (d:= .lst ((sT W cs i r).map λv=> .tup [tN v,.int ((tB W cs i r v:Nat):Int)])) (β1:=β) (aS (sT W cs i r) (Z_ W (cs.length-(i+1)) i r) _ (bU (ar rfl (zD h y f)) rfl) (λv _=>⟨[on (tN v),on (.int ((tB W cs i r v:Nat):Int)),on (.int ((mB W cs i r v:Nat):Int))],rfl,ag rfl fR⟩) (aY (by omega))) ?_⟩;refine pG (ar rfl (FY (tB W cs i r) (sT W cs i r) hn)) rfl ?_;refine np (cs:=vs.map tN) rfl rfl (RH (show _<1000 by rw[QX];omega) (by decide)) (ak (aG (ar rfl (nG le t.2.1)) (bu ⟨rfl,vs++[(ri (tB W cs i r) (sT W cs i r) n).1],less r (ri (tB W cs i r) (sT W cs i r) n).1,(ri (tB W cs i r) (sT W cs i r) n).2,_,_,_,by rw[RU];rfl,by rw[Ro,o];rfl,h.nx f q,p2,by rw[Sm];exact c⟩)))
 .rintro δ _ ⟨rfl,vs,r,n,j,l,m,rfl,o,f,_,c⟩
  rw[p9]at o c;rw[VW]at c;have e:vs=C_ W cs.length 0 rs b:=by rw[<-c];exact(RX vs).symm
  rw[<-e];have u:=(nh h.ok (yA hn) (by rw[vi,Sn]) h.sm).2.2;rw[<-e]at u;exact ak (aQ (ar rfl (M1 (by omega) (by omega) (by omega) u)) ⟨rfl,rfl⟩)
theorem iu{r c:Nat}{a_:LI}(sh:hL r c a_)(r0:1<=r)(r1:r<=30)(c1:c<=30):(cN K a).1 [aI a_] β=on (.ok (aI (tp c a_)),β):=
 aC (ak (aQ (MB sh r0 r1 c1 rfl) ⟨rfl,rfl⟩))
theorem IT{a_:LI}(h:Nt0 rs cs)(sh:hL rs.length cs.length a_):(ge K a).1 [dO a W bd rs cs,aI a_] β=on (.ok (.lst ((tp cs.length a_).map j0)),β):=by
 obtain⟨b,j,_,_⟩:=h.nr;have c1:=h.c1;have c6:=h.c6;unfold ge
 dsimp only
 refine aC ?_;refine aG (d:= .int (cs.length:Int)) (β1:=β) (ag (aa (cA rfl rfl w8) rfl) (mJ cs)) ?_;have e:f2 oZ (bt eV (ao (aj 1) aN)) (bt eV (ao (n6 a.Ae "rowsums" (d7 K a).1 (aj 0) aN []) aN)) (hO [on (.sh (dO a W bd rs cs)),on (.sh (aI a_)),on (.sh (.int (cs.length:Int)))]) β=on (.ok (.bl Q9),β):=d_ (ag rfl (cK (r:=rs.length) (by rw[QX,QX];exact sh.1))) (ag (aa (cA rfl rfl rn) rfl) (mJ rs)) (ne_int.trans (by rw[Rv rfl];rfl));have g:=aS (nv:=1) (cw:=[2]) (it:=cQ (aj 1)) (tg:=gs 0) (f:=f2 oZ (bt eV (ao (aj 0) aN)) (aj 1)) (δ:=hO [on (.sh (dO a W bd rs cs)),on (.sh (aI a_)),on (.sh (.int (cs.length:Int)))]) (β:=β) a_ (λrow=>D.lst (row.map D.int)) (λ_=>D.bl Q9) (bU rfl (by show on _=on _;rw[Rc];rfl)) (λrow i=>⟨[on (D.lst (row.map D.int)),on (.int (cs.length:Int))],rfl,d_ (ag rfl (cK (r:=cs.length) (by rw[QX];exact sh.2 row i))) rfl (ne_int.trans (by rw[Rv rfl];rfl))⟩) (aY (by rw[sh.1];omega));refine eD (xK (j_ e) (jp (ag (aa g rfl) (any_map a_ λ_=>Q9)) rfl)) (by simp) (bV ?_);refine ak (aQ (aS (tp cs.length a_) (λcol=>D.lst (col.map D.int)) j0 (bU (ar rfl (iu sh b (by omega) (by omega))) (by show on _=on _;rw[Rc];rfl)) (λcol _=>⟨[on (D.lst (col.map D.int))],rfl,rfl⟩) (aY (by rw[(iE (d:=(0:Int)) (c:=cs.length) sh.1).1];omega))) ⟨rfl,rfl⟩)
theorem Pi{k:Nat}{r v:List Nat}(h:nq K a rs cs W bd)(n:k<cs.length)(o:r∈hU W rs k)(p:v∈sT W cs k r):∃x,(eJ K a).1 [dO a W bd rs cs,.int (k:Int),tN r,tN v] β=on (.ok (.tup [x,.int ((wl (mB W cs k r) v (sT W cs k r):Nat):Int)]),β):=by
 suffices q:∃g b,(eJ K a).1 [dO a W bd rs cs,.int (k:Int),tN r,tN v] β=on (g,b)/\β=b/\∃x,g= .ok (.tup [x,.int ((wl (mB W cs k r) v (sT W cs k r):Nat):Int)]) by
  obtain⟨g,_,e,rfl,x,rfl⟩:=q;exact⟨x,e⟩
 unfold eJ
 dsimp only
 refine v4 ?_;refine aG (d:= .int 0) (β1:=β) rfl (aG (d:= .int 0) (β1:=β) rfl ?_);generalize A:(mB W cs k r)=f;refine ci (ds:=(sT W cs k r).map (Z_ W (cs.length-(k+1)) k r)) (β1:=β) (bU (ar rfl (zD h n o)) rfl) (λi δ b=>β=b/\∃t d:Nat,∃c j m,δ=[on (.sh (dO a W bd rs cs)),on (.sh (.int (k:Int))),on (.sh (tN r)),on (.sh (tN v)),on (.sh (.int (t:Int))),on (.sh (.int (d:Int))),c,j,m]/\d+wl f v ((sT W cs k r).drop i)=wl f v (sT W cs k r)/\v∈(sT W cs k r).drop i) ⟨rfl,0,0,QY,QY,QY,rfl,Sn _,p⟩ ?_ ?_
 .rintro i _ δ _ hd ⟨rfl,t,d,c,j,m,rfl,e,hm⟩
  obtain⟨u,B,rfl⟩:=cS hd;obtain⟨C,rfl⟩:=Rj.mp B;rw[R7 C]at e hm;have F:∀u l,wl f v (u::l)=if u=v then 0 else f u+wl f v l:=λ_ _=>rfl;rw[F]at e;refine⟨_,rfl,xO (β1:=β) (j_ (d_ rfl rfl (QL _ v))) ?_⟩;by_cases z:(sT W cs k r)[i]=v
  .rw[Rb z]at e
   rw[Rb (Rv z)];exact aQ (ag rfl fR) ⟨rfl,.int (t:Int),by rw[<-e];rfl⟩
  .rw[Q8 z]at e
   rw[Q8 (λy=>z (Sk y))];refine bV (f7 (z:= .int ((t+tB W cs k r (sT W cs k r)[i]:Nat):Int)) rfl rfl rfl (ak (f7 (z:= .int ((d+f (sT W cs k r)[i]:Nat):Int)) rfl rfl (by rw[<-A];rfl) (bu ⟨rfl,_,_,_,_,_,rfl,by omega,(Rq.mp hm).resolve_left λy=>z y.symm⟩))))
 .rintro δ _ ⟨rfl,t,d,c,j,m,rfl,e,hm⟩
  rw[QX,T1]at hm;cases hm
theorem CP{f:List Nat->Nat}{v:List Nat}:∀{l:List (List Nat)},wl f v l<=L2.Nt.sm l f
 |[]=>Rf _
 |u::l=>by
  rw[aZ];show(if u=v then 0 else f u+wl f v l)<=_;have:=CP (f:=f) (v:=v) (l:=l);split<;>omega
theorem MP{a_:LI}{vs:List (List Nat)}(h:nq K a rs cs W bd)(sh:hL rs.length cs.length a_)(F:tp cs.length a_=vs.map nI)(u:Wk W 0 rs vs)(y:vs.length=cs.length):(jF K a).1 [dO a W bd rs cs,aI a_] β=on (.ok (.tup [.int ((L3 W 0 rs vs:Nat):Int),.int ((L3 W 0 rs vs+pr (vs.map mu):Nat):Int)]),β):=by
 have c6:=h.c6;have f:∀v∈vs,v.sum<=40:=λv c=>by
  have:=(nh h.ok u (by rw[y,Sn]) h.sm).1;rw[List.drop_zero]at this;have q:v.sum∈cs:=by rw[<-this];exact Rp.mpr ⟨v,c,rfl⟩
  have:=iI q;have:=h.sm;have:=h.nr.2.2.1;omega
 have A:∀i,pr ((vs.take i).map mu)<2^1000:=λi=>dD (m:=160*6) (Ru (P7 (m:=160) λx l=>by
  obtain⟨v,c,rfl⟩:=Rp.mp l;exact k4 (f v (Zq c))) (VB (by decide) (by rw[QX,S6];omega))) (by decide)
 unfold jF
 dsimp only
 refine aC ?_;refine aG (d:=tN rs) (β1:=β) (ag (aa (cA rfl rfl rn) rfl) (zq rs)) ?_;refine aG (d:= .int 0) (β1:=β) rfl (aG (d:= .int 1) (β1:=β) rfl ?_);refine ci (ds:=dj 0 (vs.map tN)) (β1:=β) (bv (aa (ar rfl (IT h.toNt0 sh)) rfl) (by rw[F,Rc];rfl)) (λi δ n=>β=n/\∃r,∃fs:Nat,∃o p,δ=[on (.sh (dO a W bd rs cs)),on (.sh (aI a_)),on (.sh (tN r)),on (.sh (.int (fs:Int))),on (.sh (.int ((pr ((vs.take i).map mu):Nat):Int))),o,p]/\r∈hU W rs i/\Wk W i r (vs.drop i)/\fs+pr ((vs.take i).map mu)*L3 W i r (vs.drop i)=L3 W 0 rs vs) ⟨rfl,rs,0,QY,QY,rfl,RP.mpr rfl,u,by rw[W1,Ue,z7,ZB,Sn];rfl⟩ ?_ ?_
 .rintro i _ δ _ hd ⟨rfl,r,fs,o,p,rfl,j,b,e⟩
  obtain⟨_,l,rfl⟩:=xv hd;obtain⟨v,c,rfl⟩:=cS l;obtain⟨B,rfl⟩:=Rj.mp c;rw[R7 B]at e b;have C:(vs.drop (i+1)).length=cs.length-(i+1):=by rw[XE,y]
  have t:=Py b C;obtain⟨x,ha⟩:=Pi (β:=β) h (by omega) j t;have H:=(h.at (by omega) j).1;have le:=bq ((h.ok i r).subset b.1);have k:=f _ (R1 B);have I:wl (mB W cs i r) vs[i] (sT W cs i r)<=2^160:=Ru CP (Ru (jZ (g:=mB W cs i r) UT λ_ _=>Rf _) (by
   have:=KG h (by omega) j;rw[show cs.length-i=(cs.length-(i+1))+1 by omega]at this;exact this))
  have J:L3 W i r (vs[i]::vs.drop (i+1))=wl (mB W cs i r) vs[i] (sT W cs i r)+mu vs[i]*L3 W (i+1) (less r vs[i]) (vs.drop (i+1)):=by
   unfold mB sT;rw[<-C];rfl
  rw[J]at e;have pt:pr ((vs.take (i+1)).map mu)=pr ((vs.take i).map mu)*mu vs[i]:=by
   rw[Vf,c,RU,uP];show _*(mu vs[i]*1)=_;rw[Nat.mul_one]
  refine⟨_,rfl,f7 rfl (d_ rfl (d_ (ar rfl ha) rfl o8) (mE (A i) (dD I (by decide)))) rfl (f7 rfl (ar rfl (qT (.inr rfl) k)) (mE (A i) (dD (pF k) (by decide))) (ak (aG (ar rfl (nG le H.2.1)) (bu ⟨rfl,less r vs[i],fs+pr ((vs.take i).map mu)*wl (mB W cs i r) vs[i] (sT W cs i r),on (.sh (.int (i:Int))),on (.sh (tN vs[i])),?_,h.nx j b.1,b.2,?_⟩))))⟩
  .rw[pt,pE];rfl
  .rw[pt,<-e,ZA,Sx,Nat.add_assoc]
 .rintro δ _ ⟨rfl,r,fs,o,p,rfl,j,_,e⟩
  rw[jN,QX,T1,TK]at*;have z:L3 W vs.length r []=0:=rfl;rw[z,Nat.mul_zero,Ux]at e;subst e;exact ak (aQ (ag (aa rfl (aa (d_ rfl rfl rfl) rfl)) fR) ⟨rfl,rfl⟩)
theorem QV{l:List Nat}{c:Nat}(h:l.length<=100):m6 (nL l) (.lst [.int (c:Int)])=on (nL (l++[c])):=by
 refine(oj (by rw[QX,QX,Sd];omega)).trans ?_;show _=on (D.lst (Sj D.int (Sj _ (l++[c]))));rw[RU,RU];rfl
abbrev fiS(ps:List (Nat×Nat))(r:List Nat)(c:Nat)(f:D)(b d e g h:Option Sl):Ds:=[on (.sh (nL r)),on (.sh (.int (c:Int))),on (.sh (.lst (ps.map pN))),on (.sh f),b,d,e,g,h]
theorem P4{lo:Nat}{n i:Nat}{d:D}(h:((Re n).map λi=>D.int ((lo+i:Nat):Int))[i]?=on d):i<n/\d= .int ((lo+i:Nat):Int):=by
 obtain⟨x,b,rfl⟩:=cS h;have c:=(Rj.mp b).1;rw[Ry]at c;rw[Se c]at b;cases b;exact⟨c,rfl⟩
theorem jY{α:Type}{l:List α}{i:Nat}{x:α}(h:l[i]?=on x):l.take (i+1)=l.take i++[x]:=by rw[Vf,h];rfl
theorem LW{ps:List (Nat×Nat)}{r:List Nat}{c:Nat}(J:y3 r)(A:ps.length=r.length)(L:∀p∈ps,p.1<=40/\p.2<=40):(re K a).1 [nL r,.int (c:Int),.lst (ps.map pN)] β=on (.ok (.lst ((vB ps r c).map nL)),β):=by
 obtain⟨_,T,hs,N⟩:=J;have n:∀k,k<=r.length->(ly ps r k).length<=500:=λk B=>Ru (xj k B) (Ru (tU r k) N);unfold re
 dsimp only
 refine aC ?_;refine aG (d:= .lst ((ly ps r 0).map nL)) (β1:=β) (ag (aa (ag rfl EX) rfl) mG) ?_;refine ci (ds:=(r.zip ps).map λq=> .tup [.int (q.1:Int),pN q.2]) (β1:=β) ?_ (λk δ g=>β=g/\∃C F o m b,δ=fiS ps r c (.lst ((ly ps r k).map nL)) C F o m b) ⟨rfl,QY,QY,QY,QY,QY,rfl⟩ ?_ ?_
 .rw[<-gx (λx:Nat=>D.int (x:Int)) pN]
  refine pB (x:=nL r) (y:= .lst (ps.map pN)) rfl rfl ?_ rfl;show on _=on _;rw[Rc];rfl
 .rintro k d δ _ hd ⟨rfl,C,F,o,m,b,rfl⟩
  obtain⟨q,I,rfl⟩:=cS hd;have B:k<r.length:=by
   have:=(Rj.mp I).1;rw[Ua]at this;omega
  have t:k<ps.length:=by omega
  obtain rfl:q=(r[k],ps[k]):=by
   have:=(Rj.mp I).2;rw[List.getElem_zip]at this;exact this.symm
  have b40:=L _ (R1 t);have O:=iI (R1 B);refine⟨fiS ps r c (.lst ((ly ps r k).map nL)) (on (.sh (.int (r[k]:Int)))) (on (.sh (pN ps[k]))) o m b,rfl,?_⟩;refine nk (ds:=[]) (β1:=β) rfl (Ss _) ?_;have step:∀u:List Nat,((Re (UL ps[k].2 r[k]+1-ps[k].1)).map λi=>u++[ps[k].1+i]).length<=41:=λu=>by rw[QX,Ry];omega
  refine ci (ds:=(ly ps r k).map nL) (β1:=β) rfl (λi δ g=>β=g/\∃m b,δ=fiS ps r c (.lst ((ly ps r k).map nL)) (on (.sh (.int (r[k]:Int)))) (on (.sh (pN ps[k]))) (on (.own ((((ly ps r k).take i).flatMap λu=>(Re (UL ps[k].2 r[k]+1-ps[k].1)).map λj=>u++[ps[k].1+j]).map nL))) m b) ⟨rfl,m,b,rfl⟩ ?_ ?_
  .rintro i d δ _ hd ⟨rfl,m,b,rfl⟩
   obtain⟨u,H,rfl⟩:=cS hd;have U:=BR k u (RK H);have X:=(Rj.mp H).1;have Y:=n k (by omega);have Z:(((ly ps r k).take i).flatMap λu=>(Re (UL ps[k].2 r[k]+1-ps[k].1)).map λj=>u++[ps[k].1+j]).length<=500*41:=Ru (iK λu _=>step u) (VA _ (by rw[S6];omega));refine⟨_,rfl,ak (ci (ds:=(Re (UL ps[k].2 r[k]+1-ps[k].1)).map λj=>D.int ((ps[k].1+j:Nat):Int)) (β1:=β) (bv (as:=[.int (ps[k].1:Int),.int ((UL ps[k].2 r[k]:Nat)+1)]) (aa (d_ rfl rfl vj) (aa (d_ (x:= .int ((UL ps[k].2 r[k]:Nat):Int)) (ag (aa (d_ rfl rfl o8) (aa rfl rfl)) (ES.trans ?_)) rfl rfl) rfl)) ((M6 (by omega) (by omega) (by omega)).trans ?_)) (λj δ g=>β=g/\∃b,δ=fiS ps r c (.lst ((ly ps r k).map nL)) (on (.sh (.int (r[k]:Int)))) (on (.sh (pN ps[k]))) (on (.own ((((ly ps r k).take i).flatMap λu=>(Re (UL ps[k].2 r[k]+1-ps[k].1)).map λj=>u++[ps[k].1+j]).map nL++((Re (UL ps[k].2 r[k]+1-ps[k].1)).take j).map λj=>nL (u++[ps[k].1+j])))) (on (.sh (nL u))) b) ⟨rfl,b,by rw[W1,Ue,RX];rfl⟩ ?_ ?_)⟩
   .rw[show UL (ps[k].2:Int) (r[k]:Int)=((UL ps[k].2 r[k]:Nat):Int) by omega]
   .rw[show((UL ps[k].2 r[k]:Nat)+1-(ps[k].1:Int):Int).toNat=UL ps[k].2 r[k]+1-ps[k].1 by omega]
   .rintro j d δ _ hd ⟨rfl,b,rfl⟩
    obtain⟨Q,rfl⟩:=P4 hd;have e:(Re (UL ps[k].2 r[k]+1-ps[k].1))[j]?=on j:=Se Q;refine⟨_,rfl,ak (np (d:=nL (u++[ps[k].1+j])) rfl (aa (d_ rfl (ag rfl mG) (QV (by omega))) rfl) (RH (show _<50000 by rw[Ro,QX,QX,S6,Ry];omega) (by decide)) (bu ⟨rfl,on (.sh (.int ((ps[k].1+j:Nat):Int))),?_⟩))⟩;rw[jY e,RU];show[_,_,_,_,_,_,on (Sl.own (_++_++[_])),_,_]=[_,_,_,_,_,_,on (Sl.own (_++(_++[_]))),_,_];rw[Sm]
   .rintro δ _ ⟨rfl,b,rfl⟩
    rw[QX,Ry];refine bu ⟨rfl,on (.sh (nL u)),b,?_⟩;rw[jY H,S9,RU,R6,Vo,RX,Rc,TY (l:=Re (UL ps[k].2 r[k]+1-ps[k].1)) (by rw[Ry];exact Rf _)];rfl
  .rintro δ _ ⟨rfl,m,b,rfl⟩
   rw[QX,TK];refine JF (ak (aG (d:= .lst ((ly ps r (k+1)).map nL)) (β1:=β) ?_ (bu ⟨rfl,_,_,_,_,_,rfl⟩)));have R:ly ps r (k+1)=(ly ps r k).flatMap λu=>(Re (UL ps[k].2 r[k]+1-ps[k].1)).map λi=>u++[ps[k].1+i]:=by
    show YS _ _=_;rw[cg B,cg t]
   rw[R];rfl
 .rintro δ _ ⟨rfl,C,F,o,m,b,rfl⟩
  rw[QX,Ua,A,Xz,xk A];have h:=jj (nv:=1) (cw:=[1]) (it:=cQ (aj 3)) (tg:=gs 0) (tt:=fB (f2 (ji) (bt fI (ao (aj 0) (aN))) (aj 1))) (f:=aj 0) (δ:=hO (fiS ps r c (.lst ((D1 ps r).map nL)) C F o m b)) (β:=β) (D1 ps r) nL nL (λv=>decide (v.sum=c)) rfl (λv _=>⟨[on (nL v),on (.int (c:Int))],rfl,j_ (d_ (ag rfl (qi v)) rfl (eq_int.trans (by rw[decide_eq_decide.mpr (show((v.sum:Nat):Int)=(c:Int)↔v.sum=c by omega)]))),λ_=>rfl⟩) (aY (by rw[<-xk A];have:=n r.length (Rf _);omega));refine ak (aQ h ⟨rfl,?_⟩);rw[CK A]
theorem FA{r v:List Nat}(h:g8 v r)(b:r.length<=4):(oW K a).1 [nL r,nL v] β=on (.ok (nL (less r v)),β):=by
 unfold oW
 dsimp only
 refine aC (ak (aQ ?_ ⟨rfl,rfl⟩));unfold nL;rw[<-vd h];refine aS (r.zip v) (λp=>D.tup [.int (p.1:Int),.int (p.2:Int)]) _ ?_ (λp _=>⟨[on (.int (p.1:Int)),on (.int (p.2:Int))],rfl,rfl⟩) (aY (by rw[Ua];omega));rw[<-gx (λx:Nat=>D.int (x:Int)) (λx:Nat=>D.int (x:Int))];refine pB (x:=nL r) (y:=nL v) rfl rfl ?_ ?_
 .show on _=on _
  rw[Rc];rfl
 .show on _=on _
  rw[Rc];rfl
theorem Ml{r c k n:Nat}{B:List (List (Nat×Nat))}(hB:BOk r c B)(g:r<=4)(i:k<c){δ:Dn}(d:δ.getD 2 QY=on (ot B))(e:lK 1 [n] δ=[QY,on (.int (k:Int))]):bT 1 [n] (cQ (aj 2)) (gs 0) (λ_=>M.ret Q4) (k_ (f2 ko (aj 0) (aj 1))) δ β=on (.ok (.lst ((lE B k).map pN)),β):=by
 have h:=aS (nv:=1) (cw:=[n]) (it:=cQ (aj 2)) (tg:=gs 0) (f:=f2 ko (aj 0) (aj 1)) (δ:=δ) (β:=β) B (λrow=>D.lst (row.map pN)) (λrow=>pN (row.getD k (0,0))) (bU (tH d) (by
  show on _=on _;rw[Rc,Rc];exact R9 on (RE λrow _=>R9 D.lst (by show Sj pD (Sj _ row)=_;rw[Rc];rfl)))) (λrow b=>⟨[on (D.lst (row.map pN)),on (.int (k:Int))],by rw[e];rfl,d_ rfl rfl (bR (by
   have l:=hB.1.2 row b;rw[Q5,cg (by omega),Q2 (by omega)];rfl))⟩) (aY (by rw[hB.1.1];omega))
 refine h.trans ?_;unfold lE;rw[Rc];rfl
theorem mu_8{rs:List Nat}(h:rs.sum<=8):mu rs<=40320:=by
 have b:mu rs<=dc rs.sum:=by
  rw[<-fF];exact WE _ (nK rs)
 exact Ru b (Ru (vJ h) (by decide))
noncomputable abbrev eQ(q:List (List Nat)×List Nat):D:= .tup [.lst (q.1.map nL),nL q.2]
abbrev liS(rs cs:List Nat)(B:List (List (Nat×Nat)))(f:D)(b c d e g h:Option Sl):Ds:=[on (.sh (nL rs)),on (.sh (nL cs)),on (.sh (ot B)),on (.sh f),b,c,d,e,g,h]
abbrev nxQ(W:Wy)(k:Nat)(q:List (List Nat)×List Nat):List (List (List Nat)×List Nat):=(W k q.2).map λv=>(q.1++[v],less q.2 v)
theorem yx{rs cs:List Nat}{B:List (List (Nat×Nat))}(h:Nt0 rs cs)(F:rs.sum<=8)(hB:BOk rs.length cs.length B):(jS K a).1 [nL rs,nL cs,ot B] β=on (.ok (.lst ((lst (wB B cs) rs cs.length).map λq=> .lst (q.1.map nL))),β):=by
 have c6:=h.c6;obtain⟨O,H,Q,R⟩:=h.nr;have o:=xP B cs;have l:∀k,k<=cs.length->(lst (wB B cs) rs k).length<=40320:=λk m=>Ru (LR o h.sm m) (mu_8 F);unfold jS
 dsimp only
 refine aC ?_;refine aG (d:= .lst ((lst (wB B cs) rs 0).map eQ)) (β1:=β) (ag (aa (ag (aa (ag rfl EX) (aa (ag rfl rfl) rfl)) fR) rfl) mG) ?_;refine ci (ds:=dj 0 ((nI cs).map D.int)) (β1:=β) (bv rfl rfl) (λk δ e=>β=e/\∃p r t f g b,δ=liS rs cs B (.lst ((lst (wB B cs) rs k).map eQ)) p r t f g b) ⟨rfl,QY,QY,QY,QY,QY,QY,rfl⟩ ?_ ?_
 .rintro k d δ _ hd ⟨rfl,p,r,t,f,g,b,rfl⟩
  obtain⟨x,I,rfl⟩:=xv hd;obtain⟨n,hn,rfl⟩:=tX I;have m:=(Rj.mp hn).1;have J:cs.getD k 0=n:=by rw[QZ,hn];rfl
  obtain⟨cl,L⟩:=hB.col m;refine⟨_,rfl,nk (ds:=[]) (β1:=β) rfl (Ss _) ?_⟩;have A:∀i,(((lst (wB B cs) rs k).take i).flatMap (nxQ (wB B cs) k)).length<=40320:=λi=>by
   refine Ru ?_ (l (k+1) m);show _<=((lst (wB B cs) rs k).flatMap (nxQ (wB B cs) k)).length
   conv=>rhs;rw[<-T4 i (lst (wB B cs) rs k),S9,Ro]
   exact Uq _ _
  refine ci (ds:=(lst (wB B cs) rs k).map eQ) (β1:=β) rfl (λi δ e=>β=e/\∃f g b,δ=liS rs cs B (.lst ((lst (wB B cs) rs k).map eQ)) (on (.sh (.int (k:Int)))) (on (.sh (.int (n:Int)))) (on (.own ((((lst (wB B cs) rs k).take i).flatMap (nxQ (wB B cs) k)).map eQ))) f g b) ⟨rfl,f,g,b,rfl⟩ ?_ ?_
  .rintro i d δ _ hd ⟨rfl,f,g,b,rfl⟩
   obtain⟨q,u,rfl⟩:=cS hd;have hm:=RK u;obtain⟨q1,q2,q3⟩:=va o h.sm k (by omega) q hm;have ln:=q1.len;have sq:=q1.sum;have T:=q1.pr;have N:y3 q.2:=⟨by omega,by omega,by omega,by omega⟩;have U:(wB B cs k q.2).length<=40320:=by
    have:=A (i+1);rw[jY u,S9,R6,Vo,RX,Ro,QX]at this;omega
   refine⟨_,rfl,ak (ci (ds:=(wB B cs k q.2).map nL) (β1:=β) (bU (ar (aa rfl (aa rfl (aa (Ml hB H m rfl rfl) rfl))) (LW (c:=n) N (by rw[cl,ln]) L)) (by unfold wB;rw[J];rfl)) (λj δ e=>β=e/\∃b,δ=liS rs cs B (.lst ((lst (wB B cs) rs k).map eQ)) (on (.sh (.int (k:Int)))) (on (.sh (.int (n:Int)))) (on (.own ((((lst (wB B cs) rs k).take i).flatMap (nxQ (wB B cs) k)).map eQ++((wB B cs k q.2).take j).map λv=>eQ (q.1++[v],less q.2 v)))) (on (.sh (.lst (q.1.map nL)))) (on (.sh (nL q.2))) b) ⟨rfl,b,by rw[W1,Ue,RX];rfl⟩ ?_ ?_)⟩
   .rintro j d δ _ hd ⟨rfl,b,rfl⟩
    obtain⟨v,C,rfl⟩:=cS hd;have y:=(o k q.2).subset (RK C);have X:=A i;refine⟨_,rfl,ak (np (d:=eQ (q.1++[v],less q.2 v)) rfl (aa (ag (aa (d_ rfl (ag rfl mG) ((oj (by rw[QX,Sd];omega)).trans ?_)) (aa (ar rfl (FA (bq y) (by omega))) rfl)) fR) rfl) (RH (show _<100000 by rw[Ro,QX,QX,S6];omega) (by decide)) (bu ⟨rfl,on (.sh (nL v)),?_⟩))⟩
    .rw[RU];rfl
    .rw[jY C,RU]
     show[_,_,_,_,_,_,on (Sl.own (_++_++[_])),_,_,_]=[_,_,_,_,_,_,on (Sl.own (_++(_++[_]))),_,_,_];rw[Sm]
   .rintro δ _ ⟨rfl,b,rfl⟩
    rw[QX,TK];refine bu ⟨rfl,on (.sh (.lst (q.1.map nL))),on (.sh (nL q.2)),b,?_⟩;rw[jY u,S9,RU,R6,Vo,RX,Rc];rfl
  .rintro δ _ ⟨rfl,f,g,b,rfl⟩
   rw[QX,TK];exact JF (ak (aG (d:= .lst ((lst (wB B cs) rs (k+1)).map eQ)) (β1:=β) rfl (bu ⟨rfl,_,_,_,_,_,_,rfl⟩)))
 .rintro δ _ ⟨rfl,p,r,t,f,g,b,rfl⟩
  rw[jN,QX,QX];exact ak (aQ (aS (lst (wB B cs) rs cs.length) eQ (λq=> .lst (q.1.map nL)) rfl (λq _=>⟨[on (.lst (q.1.map nL)),on (nL q.2)],rfl,rfl⟩) (Ru (l _ (Rf _)) (by decide))) ⟨rfl,rfl⟩)
theorem CB{a_:List (List D)}(h:a_.length<=1000):(qb K a).1 [lG a_] β=on (.ok (lG a_),β):=
 aC (ak (aQ (aS a_ D.lst D.lst rfl (λx _=>⟨_,rfl,rfl⟩) (aY h)) ⟨rfl,rfl⟩))
theorem BC{c:Nat}(b:c<=1000){δ:Dn}{n:Nat}(e:δ.getD n QY=on (.int (c:Int))):bT 1 [] (cU fS (ao (aj n) (aN))) (gs 0) (λ_=>M.ret Q4) (k_ (bt iz (ao (fC (.int 0)) (ao (fC (.int 40)) (aN))))) δ β=on (.ok (.lst ((Rr c ((0:Int),(40:Int))).map pD)),β):=by
 have h:=aS (nv:=1) (cw:=[]) (it:=cU fS (ao (aj n) (aN))) (tg:=gs 0) (f:=bt iz (ao (fC (.int 0)) (ao (fC (.int 40)) (aN)))) (δ:=δ) (β:=β) (Re c) (λi=>D.int (0+(i:Int))) (λ_=>pD (0,40))
  (bv (as:=[.int (c:Int)]) (aa (x:= .int (c:Int)) (β1:=β) (by unfold aj;rw[e];rfl) rfl) (v_ (by omega) (by omega))) (λx _=>⟨_,rfl,ag rfl fR⟩) (aY (by rw[Ry];omega))
 rw[eK]at h;rw[SJ];exact h
theorem FE{r c:Nat}(d:r<=1000)(b:c<=1000):(oX K a).1 [.int (r:Int),.int (c:Int)] β=on (.ok (d9 (lz r c)),β):=by
 have h:=aS (nv:=1) (cw:=[1]) (it:=cU fS (ao (aj 0) (aN))) (tg:=gs 0) (f:=bT 1 [] (cU fS (ao (aj 1) (aN))) (gs 0) (λ_=>M.ret Q4) (k_ (bt iz (ao (fC (.int 0)) (ao (fC (.int 40)) (aN)))))) (δ:=[on (.int (r:Int)),on (.int (c:Int))]) (β:=β) (Re r) (λi=>D.int (0+(i:Int))) (λ_=> .lst ((Rr c ((0:Int),(40:Int))).map pD))
  (bv rfl (v_ (by omega) (by omega))) (λx _=>⟨_,rfl,BC b rfl⟩) (aY (by rw[Ry];omega))
 rw[eK]at h;unfold oX
 dsimp only
 refine aC (ak (aQ h ⟨rfl,?_⟩));simp only[d9,gP,lz,lG,SJ]
theorem zw:∀{xs:List Int},(∀x∈xs,0<=x)->∃l:List Nat,xs=nI l
 |[],_=>⟨[],rfl⟩
 |x::xs,h=>by
  obtain⟨l,e⟩:=zw λy b=>h y (Q1 _ b);have:=h x Q7;exact⟨x.toNat::l,by rw[e];show _=((x.toNat:Nat):Int)::_;rw[Int.toNat_of_nonneg this]⟩
abbrev gdS(r c t:Nat)(a_:LI)(b d e:Option Sl):Ds:=[on (.sh .bag),on (.sh (.int (r:Int))),on (.sh (.int (c:Int))),on (.sh (.int (t:Int))),on (.grd (gI a_)),b,d,e]
theorem Mb{r c t:Nat}(ok:β.ok)(r0:1<=r)(r1:r<=4)(c1:1<=c)(c6:c<=6)(F:t<=40):∃(a_:LI) (j:Bg),(kP K a).1 [.bag,.int (r:Int),.int (c:Int),.int (t:Int)] β=on (.ok (aI a_),j)/\(ul r c a_/\tot a_=(t:Int))/\j.ok:=by
 suffices h:∃g j,(kP K a).1 [.bag,.int (r:Int),.int (c:Int),.int (t:Int)] β=on (g,j)/\(∃(a_:LI),g= .ok (aI a_)/\(ul r c a_/\tot a_=(t:Int))/\j.ok) by
  obtain⟨g,j,e,a_,rfl,H,I⟩:=h;exact⟨a_,j,e,H,I⟩
 unfold kP
 dsimp only
 refine v4 ?_;refine PD (a_:=(Re r).map λ_=>Rr c (D.int 0)) (β1:=β) (CC (Re r) (λi=>D.int (0+(i:Int))) _ (bv (ds:=bh 0 r) rfl (v_ (by omega) (by omega))) (λx _=>⟨_,rfl,Qe (x:= .int 0) (c:=c) rfl rfl (by omega)⟩) (aY (by rw[Ry];omega))) ?_ ?_
 .rw[Vl]
  intro x k;obtain⟨_,_,rfl⟩:=Rp.mp k;rw[<-SJ (f:=D.int)];exact sG _
 have J:(Re r).map (λ_=>Rr c (D.int 0))=gI (Rr r (Rr c 0)):=by
  show _=Sj _ _;rw[SJ,XW,SJ,Ry]
 rw[J];refine ci (ds:=bh 0 t) (β1:=β) (bv rfl (v_ (by omega) (by omega))) (λi δ β=>β.ok/\∃a_ p q y,δ=gdS r c t a_ p q y/\hL r c a_/\(∀row∈a_,∀x∈row,0<=x)/\tot a_=(i:Int)) ⟨ok,Rr r (Rr c 0),QY,QY,QY,rfl,⟨by simp,λrow h=>?_⟩,λrow h x k=>?_,?_⟩ ?_ ?_
 .rw[(TH.mp h).2];simp
 .rw[(TH.mp h).2]at k
  rw[(TH.mp k).2];exact Zx _
 .unfold tot
  rw[SJ];have z:∀n:Nat,(Rr n (0:Int)).sum=0:=λn=>by
   induction n with
   |zero=>rfl
   |succ n ih=>rw[SN,Rh,ih];rfl
  rw[z,z];rfl
 .rintro i d δ j hd ⟨m,a_,p,q,y,rfl,sh,nn,F⟩
  obtain⟨v,β1,L,N,O,A⟩:=rh m (lot:=(r:Int)) (by omega) (by omega);obtain⟨u,β2,p2,Q,R,B⟩:=rh A (lot:=(c:Int)) (by omega) (by omega);obtain⟨v,rfl⟩:∃n:Nat,v=(n:Int):=⟨v.toNat,by omega⟩;obtain⟨u,rfl⟩:∃n:Nat,u=(n:Int):=⟨u.toNat,by omega⟩;obtain⟨row,b,o⟩:=sh.at (i:=v) (by omega);obtain⟨x,k⟩:=KI (l:=row) (i:=u) (by omega);refine⟨_,rfl,aG (ar rfl L) (aG (ar rfl p2) (ak (PC (d:= .int (x+1)) (β1:=β2) (β2:=β2) (β3:=β2) (a_:=gI a_) (ds:=row.map D.int) (ka:=v) (kb:=u) (ja:=v) (jb:=u) (d_ (d_ (d_ rfl rfl (jL (row:=row.map D.int) ?_)) rfl (bR (d:= .int x) ?_)) rfl rfl) rfl rfl rfl ?_ ?_ ?_ rfl (bu ⟨B,a_.set v (row.set u (x+1)),on (.sh d),on (.sh (.int (v:Int))),on (.sh (.int (u:Int))),?_,sh.set b,NB nn b ?_,?_⟩))))⟩
  .rw[Q5,b];rfl
  .rw[Q5,k];rfl
  .rw[QX,sh.1];exact mM (by omega) (by omega)
  .rw[Q5,b];rfl
  .rw[QX,o];exact mM (by omega) (by omega)
  .show[_,_,_,_,on (Sl.grd ((gI a_).set v ((row.map D.int).set u (.int (x+1))))),_,_,_]=_
   rw[show(gI a_).set v ((row.map D.int).set u (.int (x+1)))=gI (a_.set v (row.set u (x+1))) by show _=Sj _ _;rw[Uv,Uv]]
  .have:=nn row (RK b) x (RK k)
   omega
  .have:=K1 (v:=x+1) b k
   omega
 .rintro δ j ⟨m,a_,p,q,y,rfl,sh,nn,C⟩
  rw[p9]at C;exact ak (aQ rfl ⟨a_,rfl,⟨⟨sh,nn,by omega,r0,r1,c1,c6⟩,C⟩,m⟩)
theorem few1:∀x<9,(x+1)*1<=500/\1<63:=by decide
theorem few2:∀x<9,∀y<9-x,(x+1)*((y+1)*1)<=500/\(x+1)*1<63:=by decide
theorem few3:∀x<9,∀y<9-x,∀z<9-x-y,(x+1)*((y+1)*((z+1)*1))<=500/\(x+1)*((y+1)*1)<63:=by decide
theorem few4:∀x<9,∀y<9-x,∀z<9-x-y,∀w<9-x-y-z,(x+1)*((y+1)*((z+1)*((w+1)*1)))<=500/\(x+1)*((y+1)*((z+1)*1))<63:=by decide
theorem few:∀{rs:List Nat},1<=rs.length->rs.length<=4->rs.sum<=8->y3 rs/\pr (rs.dropLast.map (·+1))<63
 |[x],_,l,h=>by
  have q:=few1 x (by simp at h;omega);exact⟨⟨by show 1<=1;decide,l,by omega,q.1⟩,q.2⟩
 |[x,y],_,l,h=>by
  have q:=few2 x (by simp at h;omega) y (by simp at h;omega);exact⟨⟨by show 1<=2;decide,l,by omega,q.1⟩,q.2⟩
 |[x,y,z],_,l,h=>by
  have q:=few3 x (by simp at h;omega) y (by simp at h;omega) z (by simp at h;omega);exact⟨⟨by show 1<=3;decide,l,by omega,q.1⟩,q.2⟩
 |[x,y,z,w],_,l,h=>by
  have q:=few4 x (by simp at h;omega) y (by simp at h;omega) z (by simp at h;omega) w (by simp at h;omega);exact⟨⟨by show 1<=4;decide,l,by omega,q.1⟩,q.2⟩
 |[],h,_,_=>by simp at h
 |_::_::_::_::_::_,_,h,_=>by simp at h
abbrev cD(vs:List (List Nat)):D:= .lst (vs.map nL)
theorem cD_e(vs:List (List Nat)):cD vs=aI (vs.map nI):=by
 show D.lst _=D.lst (Sj _ (Sj _ (Sj _ _)));rw[Rc,Rc];rfl
theorem wy:∀{xs:LI},(∀row∈xs,∀x∈row,0<=x)->∃l:List (List Nat),xs=l.map nI
 |[],_=>⟨[],rfl⟩
 |x::xs,h=>by
  obtain⟨l,e⟩:=wy λy b=>h y (Q1 _ b);obtain⟨m,c⟩:=zw (h x Q7);exact⟨m::l,by rw[e,c];rfl⟩
theorem LY{a_:LI}{B:List (List (Nat×Nat))}{rs cs:List Nat}(h:N_ a_ B rs cs)(d:rs.sum<=8):(rf K a).1 [aI a_,ot B] β=on (.ok (.lst ((kl (wB B cs) cs.length 0 rs).map cD)),β):=by
 have r1:=h.nr.1;have e:=h.nr.2.1;have c6:=h.c6;have b:=p0 (K:=K) (a:=a) (β:=β) (a_:=a_) (by rw[h.shp.1];omega);have c:=lU (K:=K) (a:=a) (β:=β) h.shp r1 (by omega) (by omega);rw[h.rw1]at b;rw[h.cl1]at c;unfold rf
 dsimp only
 refine aC (ak (aQ (ar (aa (ar rfl b) (aa (ar rfl c) (aa rfl rfl))) (yx h.toNt0 d h.bok)) ⟨rfl,?_⟩));rw[<-Qj,Rc];rfl
theorem ur(a_:LI):l9 (aI a_)=on (.list (a_.map λr=> .list (r.map WC))):=by
 have b:∀r:List Int,l9 (D.lst (r.map D.int))=on (.list (r.map WC)):=λr=>by
  show(toPs (r.map D.int)).map V7=_;rw[kM (f:=D.int) (g:=WC) λi=>by unfold l9;rfl];rfl
 show(toPs ((a_.map λr=>r.map D.int).map D.lst)).map V7=_;rw[Rc];have c:=kM (f:=λr:List Int=>D.lst (r.map D.int)) (g:=λr=>V7 (r.map WC)) b a_;show(toPs (a_.map λr=>D.lst (r.map D.int))).map V7=_;rw[c];rfl
theorem vW(a_:LI):lF (aI a_)=Q4:=vX 2 (λx b=>by
 obtain⟨y,c,rfl⟩:=Rp.mp b;obtain⟨row,_,rfl⟩:=Rp.mp c;intro z d;obtain⟨i,_,rfl⟩:=Rp.mp d;trivial) (by decide)
theorem vR{W:Wy}{bd:D}{rs cs:List Nat}:(kj K a).1 [dO a W bd rs cs] β=on (.ok (.int ((ro W cs.length 0 rs:Nat):Int)),β):=
 aC (ak (aQ (d_ (cA rfl (aa rfl (aa (ag (aa (eC rfl rfl) rfl) rfl) rfl)) (qM (k:=0) (Ss _) (RP.mpr rfl))) rfl o8) ⟨rfl,rfl⟩))
theorem DH{n m:Nat}(h:n<m):(ie K a).1 [.int (n:Int),.int (m:Int)] β=on (.ok .non,β):=
 aC (ak (eD (jq (j_ (rR rfl rfl rfl))) (by simp;omega) (bV (bu ⟨rfl,rfl⟩))))
theorem Lj{r c:Nat}{a_:LI}(t:ul r c a_):(gf K a).1 [aI a_] β=on (.ok .non,β):=by
 have r0:=t.r0;have r1:=t.r1;have c0:=t.c0;have c1:=t.c1;have m:=t.shp.1;have hm:(gI a_).map D.lst=a_.map λrow=>D.lst (row.map D.int):=by rw[Rc];rfl
 obtain⟨g,b,e⟩:=t.shp.at (i:=0) (by omega);unfold gf
 dsimp only
 refine aC ?_;refine eD (β1:=β) (jq (j_ (ng rfl (ag rfl (mI (r:=r) (by rw[QX,m]))) rfl))) (by simp;omega) (bV ?_);refine aG (d:= .int (c:Int)) (β1:=β) (ag (aa (x:= .lst (g.map D.int)) (d_ rfl rfl (jL (k:=0) (by rw[Q5,b];rfl))) rfl) (cK (by rw[QX,e]))) ?_;refine eD (β1:=β) (jq (j_ (ng rfl rfl rfl))) (by simp;omega) (bV ?_);have o:bT 1 [1] (cQ (aj 0)) (gs 0) (λ_=>M.ret Q4) (k_ (f2 (oZ) (bt eV (ao (aj 0) (aN))) (aj 1))) [on (aI a_),on (.int (c:Int))] β=on (.ok (.lst (a_.map λ_=>D.bl Q9)),β):=
  aS (nv:=1) (cw:=[1]) a_ (λrow=>D.lst (row.map D.int)) _ (by show on (SW ((gI a_).map D.lst),β)=_;rw[hm]) (λrow h=>⟨[on (D.lst (row.map D.int)),on (.int (c:Int))],rfl,d_ (ag rfl (cK (r:=c) (by rw[QX];exact t.shp.2 row h))) rfl (ne_int.trans (by rw[Rv rfl];rfl))⟩) (aY (by omega))
 refine eD (β1:=β) (jp (ag (aa o rfl) (any_map a_ λ_=>Q9)) rfl) (by simp) (bV ?_);have p:bT 2 [] (cQ (aj 0)) (gs 0) (λ_=>M.ret Q4) (U_ (cQ (aj 0)) (gs 1) (λ_=>M.ret Q4) (k_ (f2 (Tm) (aj 1) (fC (.int 0))))) [on (aI a_),on (.int (c:Int))] β=on (.ok (.lst (a_.flatMap λrow=>row.map λx=>D.bl (decide (x<0)))),β):=by
  refine xC (nv:=2) (cw:=[]) a_ (λrow=>D.lst (row.map D.int)) _ (by show on (SW ((gI a_).map D.lst),β)=_;rw[hm]) (λrow _=>⟨_,rfl,uV row D.int _ rfl (λx _=>⟨_,rfl,rfl⟩)⟩) (aY ?_);have:=BU (f:=λrow:List Int=>row.map λx=>D.bl (decide (x<0))) (n:=30) (l:=a_) λx j=>by rw[QX,t.shp.2 x j];omega
  omega
 refine eD (β1:=β) (jp (ag (aa p rfl) (Pg _ _ _)) rfl) (by
  rw[Xu];intro row h;simp only[XD,R5,not_exists,not_and];intro x j;have:=t.nn row h x j;omega) (bV (ak ?_))
 have q:bT 1 [] (cQ (aj 0)) (gs 0) (λ_=>M.ret Q4) (k_ (bt fI (ao (aj 0) (aN)))) [on (aI a_),on (.int (c:Int))] β=on (.ok (.lst (a_.map λrow=>D.int row.sum)),β):=
  aS (nv:=1) (cw:=[]) a_ (λrow=>D.lst (row.map D.int)) _ (by show on (SW ((gI a_).map D.lst),β)=_;rw[hm]) (λrow _=>⟨_,rfl,ag rfl (dL row)⟩) (aY (by omega))
 have u:fI [.lst (a_.map λrow=>D.int row.sum)]=on (.int (tot a_)):=by
  have:=dL (a_.map SF);rw[Rc]at this;exact this
 have:=t.tot;exact eD (β1:=β) (j_ (d_ (ag (aa q rfl) u) rfl gt_int)) (by simp;omega) (bV (bu ⟨rfl,rfl⟩))
abbrev iP(a:Ad)(a_:LI):D:= .obj a.Af ["counts"] [aI a_]
theorem vb{a_:LI}(h:a_.length<=1000){f:FD}{δ:Dn}(e:f δ β=on (.ok (aI a_),β)):bT 1 [] (cQ f) (gs 0) (λ_=>M.ret Q4) (k_ (bt nS (ao (aj 0) (aN)))) δ β=on (.ok (aI a_),β):=
 aS (gI a_) D.lst D.lst (bU e rfl) (λx _=>⟨_,rfl,rfl⟩) (aY (by rw[QX];exact h))
theorem LO{r c:Nat}{a_:LI}(t:ul r c a_):k6 K a [aI a_] β=on (.ok [aI a_],β):=by
 refine vx λx=>?_;unfold pe;refine vq (δ:=[on (.sh (.adr x)),on (.sh (aI a_))]) (δ1:=[on (.sh (.adr x)),on (.sh (aI a_))]) (β1:=β) (x:=x) ?_ rfl rfl (mQ (d:=aI a_) (β1:=β) (vb (by rw[t.shp.1];have:=t.r1;omega) rfl) rfl);unfold li;rw[ar (aa rfl rfl) (Lj t)]
theorem ql{r c:Nat}{a_:LI}(t:ul r c a_){g:FL}{δ:Dn}{b:Bg}(e:g δ b=on (.ok [aI a_],β)):qF a.Af ["counts"] (k6 K a) g [] δ b=on (.ok (iP a a_),β):=
 zh e (by rw[RX];exact LO t)
theorem Me(a_:LI)(i j:Nat)(x y:List Int)(b:a_[i]?=on x)(c:a_[j]?=on y):((gI a_).set i ((dh x y).map D.int)).eraseIdx j=gI (e9 a_ i j):=by
 have ex:a_.getD i []=x:=by rw[QZ,b];rfl
 have d:a_.getD j []=y:=by rw[QZ,c];rfl
 unfold e9 gI;rw[ex,d,dP,Uv]
theorem sI{r c i j:Nat}{a_:LI}(sh:hL r c a_)(r1:r<=30)(c1:c<=30)(b:i<r)(e:j<r)(l:i≠j):(iZ K a).1 [aI a_,.int (i:Int),.int (j:Int)] β=on (.ok (aI (e9 a_ i j)),β):=by
 unfold iZ
 dsimp only
 refine aC ?_;obtain⟨x,f,n⟩:=sh.at b;obtain⟨y,g,o⟩:=sh.at e;have tj:∀{k:Nat},k<r->(ie K a).1 [.int (k:Int),.int (r:Int)] β=on (.ok .non,β):=λh=>DH h;refine jV (β1:=β) (d:= .non) (ar (aa rfl (aa (ag rfl (mI (kC sh))) rfl)) (tj b)) ?_;refine jV (β1:=β) (d:= .non) (ar (aa rfl (aa (ag rfl (mI (kC sh))) rfl)) (tj e)) ?_;refine kJ (β1:=β) (j_ (c:=Q9) (d_ rfl rfl (by rw[eq_int];congr 2;rw[decide_eq_false_iff_not];omega))) (bV ?_);refine Ms (ds:=(gI a_).map D.lst) (β1:=β) rfl ?_;refine Mt (d:= .lst ((dh x y).map D.int)) (cs:=(gI a_).map D.lst) (ka:=i) (ja:=i) (β1:=β) (β2:=β) ?_ rfl rfl ?_ ?_
 .have m:(x.zip y).map (λp=>D.int (p.1+p.2))=(dh x y).map D.int:=by
   unfold dh;rw[Rc];rfl
  rw[<-m];refine aS (nv:=2) (cw:=[]) (x.zip y) (λp=>D.tup [.int p.1,.int p.2]) (λp=>D.int (p.1+p.2)) (Ps (u:=D.int) (v:=D.int) (d_ rfl rfl (jL (by rw[Q5,f];rfl))) (d_ rfl rfl (jL (by rw[Q5,g];rfl)))) (λp _=>⟨_,rfl,rfl⟩) (aY (by rw[Ua];omega))
 .rw[QX,kC sh];exact mM (by omega) (by omega)
 refine PF (cs:=((gI a_).map D.lst).set i (.lst ((dh x y).map D.int))) (k:=j) (j:=j) (β1:=β) rfl rfl ?_ ?_
 .rw[RV,QX,kC sh];exact mM (by omega) (by omega)
 refine ak (aQ (d:=aI (e9 a_ i j)) (β1:=β) ?_ ⟨rfl,rfl⟩);have:aI (e9 a_ i j)=D.lst ((((gI a_).set i ((dh x y).map D.int)).map D.lst).eraseIdx j):=by
  show D.lst (Sj D.lst (gI (e9 a_ i j)))=_;rw[<-Me a_ i j x y f g,dP]
 rw[this,Uv];rfl
theorem wc{r c i j:Nat}{a_:LI}(t:ul r c a_)(d:i<r)(e:j<r)(b:i≠j):(c5 K a).1 [iP a a_,.int (i:Int),.int (j:Int),.bl Q4] β=on (.ok (iP a (e9 a_ i j)),β):=by
 have r0:=t.r0;have r1:=t.r1;have c0:=t.c0;have c1:=t.c1;unfold c5
 dsimp only
 refine aC ?_;refine xN (β1:=β) (jp (x:= .bl Q4) rfl rfl) (aQ (β1:=β) (ql ((t.gd.join d e b).tab (by omega) (by omega) c0 c1) ?_) ⟨rfl,rfl⟩);exact aa (ar (aa (eC rfl rfl) rfl) (sI t.shp (by omega) (by omega) d e b)) rfl
theorem we{r c i j:Nat}{a_:LI}(t:ul r c a_)(d:i<c)(e:j<c)(b:i≠j):(c5 K a).1 [iP a a_,.int (i:Int),.int (j:Int),.bl Q9] β=on (.ok (iP a (tp r (e9 (tp c a_) i j))),β):=by
 have r0:=t.r0;have r1:=t.r1;have c0:=t.c0;have c1:=t.c1;unfold c5
 dsimp only
 refine aC ?_;have g:=t.gd.tp.join d e b;refine kJ (β1:=β) (jp (x:= .bl Q9) rfl rfl) (bV (ak (aQ (β1:=β) (ql (g.tp.tab (by omega) (by omega) (by omega) (by omega)) ?_) ⟨rfl,rfl⟩)));exact aa (ar (aa (ar (aa (ar (aa (eC rfl rfl) rfl) (iu t.shp (by omega) (by omega) (by omega))) rfl) (sI t.gd.tp.shp (by omega) (by omega) d e b)) rfl) (iu g.shp (by omega) (by omega) (by omega))) rfl
theorem GD{a_:LI}(h:a_.length<=1000):(lS K a).1 [iP a a_] β=on (.ok (aI a_),β):=
 aC (ak (aQ (vb h (eC rfl rfl)) ⟨rfl,rfl⟩))
theorem wb{a_:LI}(h:a_.length<=1000):(jG K a).1 [iP a a_] β=on (.ok (iL (a_.map SF)),β):=
 aC (ak (aQ (pM h (eC rfl rfl)) ⟨rfl,rfl⟩))
theorem qW{r c:Nat}{a_:LI}(sh:hL r c a_)(r0:1<=r)(r1:r<=30)(c1:c<=30):(gX K a).1 [iP a a_] β=on (.ok (iL ((tp c a_).map SF)),β):=
 aC (ak (aQ (pM (by rw[(iE (d:=(0:Int)) (c:=c) sh.1).1];omega) (ar (aa (eC rfl rfl) rfl) (iu sh r0 r1 c1))) ⟨rfl,rfl⟩))
variable{n:Nat}{vs:List (List Nat)}
structure j2 (n:Nat) (vs:List (List Nat)):Prop where
 l1:1<=vs.length
 l6:vs.length<=6
 ln:∀v∈vs,v.length=n
 nr:y3 (et n vs)
 wd:pr ((et n vs).dropLast.map (·+1))<63
abbrev fy(vs:List (List Nat)):List Nat:=vs.map SF
abbrev js(n:Nat)(vs:List (List Nat)):LI:=tp n (vs.map nI)
theorem JX(v:List Nat)(j:Nat):(nI v).getD j 0=((v.getD j 0:Nat):Int):=by
 rw[QZ,QZ,Q5];cases v[j]?<;>rfl
theorem j2.len(h:j2 n vs):(et n vs).length=n:=cZ h.ln
theorem oR(c:∀v∈vs,v.length=n):(js n vs).map SF=nI (et n vs):=by
 have e:et n vs=(Re n).map λj=>(et n vs).getD j 0:=Tq (by rw[cZ c,QX,Ry]) λi d f=>by
  rw[TF,Uu,cg d]
 rw[e];unfold js tp vr;show Sj _ (Sj _ _)=Sj _ (Sj _ _);rw[Rc,Rc];refine RE λj b=>?_;have b:=Rz.mp b;show((vs.map nI).map λrow=>row.getD j 0).sum=(((et n vs).getD j 0:Nat):Int);rw[gc c b,<-jd,Rc];show _=(Sj _ (Sj _ _)).sum;rw[Rc];exact R9 SF (RE λv _=>JX v j)
theorem DR(b:∀v∈vs,v.length=n):hL vs.length n (vs.map nI):=⟨QX _,λrow c=>by
 obtain⟨v,d,rfl⟩:=Rp.mp c;rw[QX];exact b v d⟩
theorem iY(b:∀v∈vs,v.length=n):tp vs.length (js n vs)=vs.map nI:=JJ (DR b)
theorem iG:hL n vs.length (js n vs):=iE (QX _)
theorem qj(vs:List (List Nat)):(vs.map nI).map SF=nI (fy vs):=by
 show _=Sj _ (Sj _ _);rw[Rc,Rc];exact RE λv _=>jd v
theorem j2.nt0(h:j2 n vs):Nt0 (et n vs) (fy vs):=⟨h.nr,h.wd,gB h.ln,by rw[QX];exact h.l1,by rw[QX];exact h.l6⟩
theorem j2.tab(h:j2 n vs):ul n vs.length (js n vs):=by
 obtain⟨d,e,f,_⟩:=h.nr;have l:=h.len;refine⟨iG,xU λrow b x c=>?_,?_,by omega,by omega,h.l1,h.l6⟩
 .obtain⟨v,_,rfl⟩:=Rp.mp b
  obtain⟨y,_,rfl⟩:=Rp.mp c;omega
 .rw[pJ (DR h.ln).2]
  unfold tot;rw[qj,jd,<-gB h.ln];omega
theorem j2.ntb(h:j2 n vs):N_ (js n vs) (s_ (et n vs).length (fy vs).length) (et n vs) (fy vs):=by
 have l:=h.len;have b:(fy vs).length=vs.length:=QX _;refine⟨h.nt0,?_,oR h.ln,?_,⟨⟨by simp,λrow h=>by rw[(TH.mp h).2];simp⟩,λrow h q c=>by
  rw[(TH.mp h).2]at c;rw[(TH.mp c).2];decide⟩,?_⟩
 .rw[l,b];exact iG
 .rw[b,iY h.ln,qj]
 .rw[l,b,yS];exact Kp.free h.tab
abbrev wC(n:Nat)(vs:List (List Nat)):Wy:=wB (s_ (et n vs).length (fy vs).length) (fy vs)
theorem N6{r c k:Nat}(b:k<c):lE (s_ r c) k=Rr r (0,40):=by
 unfold lE s_;rw[SJ,QZ,Ts,Rb b];rfl
theorem Qb{r v:List Nat}{m:Nat}(e:r.length=m)(s:r.sum<=40)(le:g8 v r):H_ (Rr m (0,40)) v=Q4:=by
 have:=uU s le;rw[XW,e]at this;exact this
theorem j2.vec(h:j2 n vs){k:Nat}{r:List Nat}(b:k<(fy vs).length)(e:r.length=n)(s:r.sum<=40):wC n vs k r=bc r ((fy vs).getD k 0):=List.filter_eq_self.mpr λv c=>by
 rw[N6 b];exact Qb (e.trans h.len.symm) s (bq c)
theorem j2.dl(h:j2 n vs):ro (wC n vs) (fy vs).length 0 (et n vs)=mu (et n vs):=by
 rw[BZ (λk r b e s=>h.vec b e s) _ 0 _ (Sn _) h.len h.nr.2.2.1,List.drop_zero,gm _ _ h.nt0.sm]
abbrev ntC(a:Ad)(n:Nat)(vs:List (List Nat)):D:=dO a (wC n vs) (ot (s_ (et n vs).length (fy vs).length)) (et n vs) (fy vs)
variable{i j:Nat}{us:List (List Nat)}
theorem M0{i:Nat}(b:i<n):(js n vs)[i]?=on (nI (vs.map λv=>v.getD i 0)):=by
 rw[MC b];congr 1;show _=Sj _ (Sj _ _);rw[Rc,Rc];exact RE λv _=>JX v i
theorem tP{k:Nat}(b:k<n):(js n vs).getD k []=nI (vs.map λv=>v.getD k 0):=by rw[QZ,M0 b];rfl
theorem tu{α:Type}(f g:α->Nat):∀l:List α,dh (nI (l.map f)) (nI (l.map g))=nI (l.map λx=>f x+g x)
 |[]=>rfl
 |x::l=>R9 (_::·) (tu f g l)
theorem v8:∀u v:List Nat,dh (nI u) (nI v)=nI (bG u v)
 |[],_=>rfl
 |_::_,[]=>rfl
 |x::u,y::v=>R9 (_::·) (v8 u v)
theorem rowJ(ln:∀v∈vs,v.length=n)(d:i<n)(g:j<n):e9 (js n vs) i j=js (n-1) (vs.map (jv i j)):=by
 have f:(js n vs).length=n:=iG.1;show jn dh [] i j (js n vs)=_;refine lB [] (by rw[cE (by omega),f];exact iG.1.symm) λk c=>?_;rw[cE (by omega),f]at c;rw[dE (by omega),tP c,tP d,tP g,tP (x9 c),Rc,tu];have e:∀v∈vs,(jv i j v).getD k 0=if qk j k=i then v.getD i 0+v.getD j 0 else v.getD (qk j k) 0:=λv b=>dE (by rw[ln v b];exact d);split
 .rename_i q
  refine R9 nI (RE λv b=>?_);show _=(jv i j v).getD k 0;rw[e v b,Rb q]
 .rename_i q
  refine R9 nI (RE λv b=>?_);show _=(jv i j v).getD k 0;rw[e v b,Q8 q]
theorem colJ(ln:∀v∈vs,v.length=n):tp n (e9 (tp vs.length (js n vs)) i j)=js n (jc i j vs):=by
 rw[iY ln];show tp n _=tp n ((jn bG [] i j vs).map nI);congr 1;unfold e9 jn;rw[dP,Uv,<-v8];have e:∀k,(vs.map nI).getD k []=nI (vs.getD k []):=λk=>(vC nI [] vs k).symm;rw[e,e]
theorem Kv(ln:∀v∈vs,v.length=n)(c:i<n)(d:j<n)(ne:i≠j):fy (vs.map (jv i j))=fy vs:=by
 show Sj _ (Sj _ _)=_;rw[Rc];exact RE λv b=>qu (by rw[ln v b];exact c) (by rw[ln v b];exact d) ne
theorem yB(ln:∀v∈vs,v.length=n)(c:j<n):∀v∈vs.map (jv i j),v.length=n-1:=λv d=>by
 obtain⟨w,b,rfl⟩:=Rp.mp d;rw[cE (by rw[ln w b];exact c),ln w b]
theorem Ku(ln:∀v∈vs,v.length=n)(f:i<n)(h:j<n):et (n-1) (vs.map (jv i j))=jv i j (et n vs):=by
 have l1:=cZ ln;have c:=yB (i:=i) ln h;refine lB 0 (by rw[cZ c,cE (by omega),l1]) λk d=>?_;rw[cZ c]at d;rw[gc c d,dE (by omega),gc ln f,gc ln h,gc ln (x9 d),Rc];have e:∀v∈vs,(jv i j v).getD k 0=if qk j k=i then v.getD i 0+v.getD j 0 else v.getD (qk j k) 0:=λv b=>dE (by rw[ln v b];exact f);split
 .rename_i q
  rw[RE (g:=λv=>v.getD i 0+v.getD j 0) λv b=>by
   show(jv i j v).getD k 0=_;rw[e v b,Rb q]]
  exact L2.Nt.sm_add
 .rename_i q
  rw[RE (g:=λv=>v.getD (qk j k) 0) λv b=>by
   show(jv i j v).getD k 0=_;rw[e v b,Q8 q]]
theorem v7:∀{u v:List Nat},u.length=v.length->(bG u v).sum=u.sum+v.sum
 |[],[],_=>rfl
 |x::u,y::v,h=>by
  show((x+y)::bG u v).sum=_;rw[Rh,Rh,Rh,v7 (by simpa using h)];omega
 |[],_::_,h=>by simp at h
 |_::_,[],h=>by simp at h
theorem QA(ln:∀v∈vs,v.length=n)(b:i<vs.length)(c:j<vs.length):fy (jc i j vs)=jv i j (fy vs):=by
 have e:∀k,(vs.map SF).getD k 0=(vs.getD k []).sum:=λk=>(vC SF [] vs k).symm;show(jn bG [] i j vs).map SF=jn (·+·) 0 i j (vs.map SF);rw[FK];unfold jn;rw[e,e,v7 ((ln _ (gL b)).trans (ln _ (gL c)).symm)]
theorem qK(l1:1<=vs.length)(l6:vs.length<=6)(ln:∀v∈vs,v.length=n)(b:1<=n)(c:n<=4)(s:(fy vs).sum<=8):j2 n vs:=by
 have l:=cZ ln;obtain⟨q1,q2⟩:=few (rs:=et n vs) (by omega) (by omega) (by rw[gB ln];exact s);exact⟨l1,l6,ln,q1,q2⟩
theorem zZ(h:j2 n vs):∀(m k:Nat) (r:List Nat),k+m=(fy vs).length->r.length=n->r.sum<=40->kl (wC n vs) m k r=kl (W0 (fy vs)) m k r
 |0,_,_,_,_,_=>rfl
 |m+1,k,r,hk,hl,hs=>by
  show(wC n vs k r).flatMap _=(W0 (fy vs) k r).flatMap _;rw[h.vec (by omega) hl hs];refine cV λv b=>?_;have le:=bq b;have:=le.less.sum;rw[zZ h m (k+1) (less r v) (by omega) (by rw[le.less.len];exact hl) (by omega)]
abbrev pC(n:Nat)(vs:List (List Nat)):List (List (List Nat)):=kl (wC n vs) (fy vs).length 0 (et n vs)
theorem EI(h:j2 n vs):pC n vs=kl (W0 (fy vs)) (fy vs).length 0 (et n vs):=zZ h _ _ _ (Sn _) h.len h.nr.2.2.1
theorem i9(h:j2 n vs){b:List (List Nat)}:b∈pC n vs↔Gv n (et n vs) (fy vs) b:=by
 rw[EI h];exact qD h.len h.nt0.sm
theorem La(h:j2 n vs)(b:i<n)(c:j<n)(ne:i≠j)(h':j2 (n-1) (vs.map (jv i j)))(e:us∈pC (n-1) (vs.map (jv i j))):L2.Nt.sm ((pC n vs).filter λf=>decide (f.map (jv i j)=us)) wt*mu (et (n-1) (vs.map (jv i j)))=wt us*mu (et n vs):=by
 have g:=(i9 h').mp e;rw[Kv h.ln b c ne,Ku h.ln b c]at g;have d:=h.len;have k:(fy vs).length=us.length:=by rw[g.len]
 have l:Wk (W0 (fy vs)) 0 (jv i j (et n vs)) us:=by
  have:=kn ((qD (n:=n-1) (rs:=jv i j (et n vs)) (by rw[cE (by omega),d]) (by rw[qu (by omega) (by omega) ne];exact h.nt0.sm)).mpr g);exact this.1
 rw[EI h,k,wM b c ne d l,Ku h.ln b c];have m:(p2 i j (et n vs)).sum=(us.map λu=>u.getD (ni j i) 0).sum:=by
  rw[<-gc g.ln (tL b c ne),g.rw,dE (by omega),su ne,Rb rfl];show[_,_].sum=_;rw[Rh,Rh,VO,Ux]
 rw[gm _ _ m,u3 (v:=et n vs) (i:=i) (j:=j) (by omega) (by omega) ne];simp only[Sx,TW,SD]
theorem Lb(h:j2 n vs)(b:i<vs.length)(c:j<vs.length)(ne:i≠j)(h':j2 n (jc i j vs))(d:us∈pC n (jc i j vs)):L2.Nt.sm ((pC n vs).filter λe=>decide (jc i j e=us)) wt*mu (et n (jc i j vs))=wt us*mu (et n vs):=by
 have g:=(i9 h').mp d;rw[QA h.ln b c,pZ h.ln b c ne]at g;have f:(fy vs).length=vs.length:=QX _;rw[EI h,Mn h.len h.nt0.sm (by omega) (by omega) ne g,pZ h.ln b c ne]
theorem mC(h:j2 n vs)(s:(fy vs).sum<=8){b:List (List Nat)}(c:b∈pC n vs):j2 n b/\b.length=vs.length:=by
 have g:=(i9 h).mp c;have l:=g.len;rw[QX]at l;have t:=h.tab;exact⟨qK (by rw[l];exact h.l1) (by rw[l];exact h.l6) g.ln t.r0 t.r1 (by show(b.map SF).sum<=8;rw[g.cl];exact s),l⟩
structure JnO (K:RB) (a:Ad) (n m:Nat) (vs:List (List Nat)) (J:List (List Nat)->List (List Nat)) (dn:Bool) (i j:Nat):Prop where
 clm:j2 m (J vs)
 tj:∀β,∀ws∈pC n vs,(c5 K a).1 [iP a (js n ws),.int (i:Int),.int (j:Int),.bl dn] β=on (.ok (iP a (js m (J ws))),β)
 ln:∀ws∈pC n vs,(∀v∈J ws,v.length=m)/\(J ws).length=(J vs).length
 sh:∀us∈pC m (J vs),L2.Nt.sm ((pC n vs).filter λws=>decide (J ws=us)) wt*mu (et m (J vs))=wt us*mu (et n vs)
theorem NO(h:j2 n vs)(s:(fy vs).sum<=8)(m:2<=n)(d:i<n)(b:j<n)(ne:i≠j):JnO K a n (n-1) vs (λf=>f.map (jv i j)) Q4 i j:=by
 have t:=h.tab;have r1:=t.r1;have c:j2 (n-1) (vs.map (jv i j)):=qK (by rw[QX];exact h.l1) (by rw[QX];exact h.l6) (yB h.ln b) (by omega) (by omega) (by rw[Kv h.ln d b ne];exact s);refine⟨c,λβ f g=>?_,λf g=>?_,λus k=>La h d b ne c k⟩
 .obtain⟨e,_⟩:=mC h s g
  rw[wc e.tab d b ne,rowJ e.ln d b]
 .obtain⟨e,l⟩:=mC h s g
  exact⟨yB e.ln b,by rw[QX,QX,l]⟩
theorem NP(h:j2 n vs)(s:(fy vs).sum<=8)(o:2<=vs.length)(d:i<vs.length)(b:j<vs.length)(ne:i≠j):JnO K a n n vs (jc i j) Q9 i j:=by
 have t:=h.tab;have l6:=h.l6;have c:j2 n (jc i j vs):=qK (by rw[cE b];omega) (by rw[cE b];omega) (tZ h.ln d b) t.r0 t.r1 (by rw[<-gB (tZ h.ln d b),pZ h.ln d b ne,gB h.ln];exact s);refine⟨c,λβ g f=>?_,λg f=>?_,λus k=>Lb h d b ne c k⟩
 .obtain⟨e,l⟩:=mC h s f
  have m:=e.tab;rw[we m (by omega) (by omega) ne,colJ e.ln]
 .obtain⟨e,l⟩:=mC h s f
  exact⟨tZ e.ln (by omega) (by omega),by rw[cE (by omega),cE b,l]⟩
theorem QO(A B:LI):ji (aI A) (aI B)=on (.bl (decide (A=B))):=by
 rw[sP rfl (ur A) (ur B) (vW A) (vW B)];congr 2;show UU _ _=_;exact jM (f:=λr:List Int=>V7 (r.map WC)) (λx y=>by
  show UU _ _=_;exact jM (λi j=>eqI i j) x y) A B
theorem Lh{A B:List (List Nat)}(ha:∀v∈A,v.length=n)(b:∀v∈B,v.length=n)(l:A.length=B.length):js n A=js n B↔A=B:=by
 refine⟨λe=>?_,λe=>by rw[e]⟩;have:=R9 (tp A.length) e;rw[iY ha,l,iY b]at this;exact V0 (λ_ _ h=>je h)|>.mp this
theorem DJ{r c:Nat}{a_:LI}(t:ul r c a_)(h:tot a_<=8):∃vs,a_=js r vs/\vs.length=c/\(∀v∈vs,v.length=r)/\(fy vs).sum<=8:=by
 obtain⟨vs,e⟩:=wy (xU (c:=c) t.nn);have sh:=iE (d:=(0:Int)) (c:=c) t.shp.1;have b:vs.length=c:=by rw[<-QX (f:=nI),<-e];exact sh.1
 refine⟨vs,by rw[<-JJ t.shp,e],b,λv g=>?_,?_⟩
 .rw[<-QX (f:=λ(i:Nat)=>(i:Int))]
  refine sh.2 (nI v) ?_;show nI v∈tp c a_;rw[e];exact Rp.mpr ⟨v,g,rfl⟩
 .have q:tot (tp c a_)=tot a_:=pJ t.shp.2
  unfold tot at q h;rw[e,qj,jd]at q;omega
abbrev l53(a:Ad)(n m:Nat)(vs:List (List Nat))(J:List (List Nat)->List (List Nat))(h:Bool)(lot i j:Nat)(bl:D)(f b t:Nat)(c d e g:Option Sl):Ds:=[QY,on (.sh .bag),on (.sh (aI (js n vs))),on (.sh (.bl h)),on (.sh (.int (lot:Int))),on (.sh (.int (i:Int))),on (.sh (.int (j:Int))),on (.sh (iP a (js m (J vs)))),on (.sh (ntC a n vs)),on (.sh (ntC a m (J vs))),on (.sh bl),on (.sh (.int (f:Int))),on (.sh (.int (b:Int))),on (.sh (.int (t:Int))),c,d,e,g]
theorem AM{n:Nat}{vs:List (List Nat)}(h:j2 n vs){g:FL}{δ:Dn}{b:Bg}(e:g δ b=on (.ok [nL (et n vs),nL (fy vs)],β)):qF a.Ae ["row_list","column_list","pairs","counted"] (mF K a) g [.non] δ b=on (.ok (ntC a n vs),β):=zh e (LL h.ntb)
theorem JM{n:Nat}{vs b:List (List Nat)}(h:j2 n vs)(c:b∈pC n vs):∃s:Nat,(jF K a).1 [ntC a n vs,aI (js n b)] β=on (.ok (.tup [.int (s:Int),.int ((s+wt b:Nat):Int)]),β):=by
 obtain⟨q1,q2⟩:=kn c;have g:=(i9 h).mp c;have sh:hL (et n vs).length (fy vs).length (js n b):=by rw[h.len,<-q2];exact iG
 exact⟨_,MP h.ntb.nt sh (by rw[<-q2,iY g.ln]) q1 q2⟩
theorem FH(β:Bg)(ok:β.ok):∃l,(qa K a).1 [QY,on (.sh .bag),QY,QY,QY,QY,QY,QY,QY,QY,QY,QY,QY,QY,QY,QY,QY,QY] β=on (.rt (.bl Q4),l):=by
 suffices h:Gw (qa K a).1 [QY,on (.sh .bag),QY,QY,QY,QY,QY,QY,QY,QY,QY,QY,QY,QY,QY,QY,QY,QY] β (λo _=>o= .rt (.bl Q4)) by
  obtain⟨o,l,e,rfl⟩:=h;exact⟨l,e⟩
 have pn:∀{β:Bg} (ok:β.ok) {lot:Nat} (h0:0<lot) (h1:lot<1073741824),∃(v:Nat) (l:Bg),jJ [.bag,.int (lot:Int)] β=on (.ok (.int (v:Int)),l)/\v<lot/\l.ok:=λ{β} ok {lot} h0 h1=>by
  obtain⟨v,l,p,v0,v1,Y⟩:=rh ok (lot:=(lot:Int)) (by omega) (by omega);obtain⟨v,rfl⟩:∃n:Nat,v=(n:Int):=⟨v.toNat,by omega⟩;exact⟨v,l,p,by omega,Y⟩
 have ad:∀(k n:Nat),m6 (.int (k:Int)) (.int (n:Int))=on (.int ((k+n:Nat):Int)):=λk n=>rfl;obtain⟨x,β1,p1,x1,Y⟩:=pn ok (lot:=2) (by decide) (by decide);obtain⟨y,β2,p2,y1,ok2⟩:=pn Y (lot:=2) (by decide) (by decide);obtain⟨t,β3,p3,t1,ok3⟩:=pn ok2 (lot:=8) (by decide) (by decide);obtain⟨a_,β4,e4,⟨N,tt⟩,ok4⟩:=Mb (K:=K) (a:=a) (r:=2+x) (c:=2+y) (t:=t) ok3 (by omega) (by omega) (by omega) (by omega) (by omega);obtain⟨vs,rfl,lv,ln,s8⟩:=DJ N (by omega);obtain⟨d,C,p5,d1,ok5⟩:=pn ok4 (lot:=2) (by decide) (by decide);generalize hn:2+x=n at*;have c:=qK (n:=n) (by omega) (by omega) ln (by omega) (by omega) s8;unfold qa
 dsimp only
 refine aG (ar (aa rfl (aa (d_ rfl (ar rfl p1) ((ad 2 x).trans (by rw[hn]))) (aa (d_ rfl (ar rfl p2) (ad 2 y)) (aa (ar rfl p3) rfl)))) e4) ?_;refine aG (d:= .bl (decide (d=0))) (β1:=C) (d_ (ar rfl p5) rfl (eq_int.trans (by rw[decide_eq_decide.mpr (show(d:Int)=0↔d=0 by omega)]))) ?_;refine aG (d:= .int (n:Int)) (β1:=C) (ag rfl (mI (r:=n) (kC N.shp))) ?_;obtain⟨X,F,I⟩:=N.shp.at (i:=0) (by omega);have l0:∀{δ:Dn},δ.getD 2 QY=on (aI (js n vs))->bt eV (ao (f2 ko (aj 2) (fC (.int 0))) aN) δ C=on (.ok (.int ((2+y:Nat):Int)),C):=λ{δ} e=>ag (aa (x:= .lst (X.map D.int)) (d_ (tH e) rfl (jL (k:=0) (by rw[Q5,F];rfl))) rfl) (cK (by rw[QX,I]));refine Pz (λδ l=>C=l/\δ=[QY,on (.sh .bag),on (.sh (aI (js n vs))),on (.sh (.bl (decide (d=0)))),on (.sh (.int ((if d=0 then n else 2+y:Nat):Int))),QY,QY,QY,QY,QY,QY,QY,QY,QY,QY,QY,QY,QY]) ?_ ?_
 .by_cases q:d=0
  .exact ak (kJ (jq (c:=Q4) (jp rfl (by rw[Rv q];rfl))) (bV (zj ⟨rfl,by rw[Rb q];rfl⟩)))
  .exact ak (xN (jq (c:=Q9) (jp rfl (by rw[RY q];rfl))) (aG (l0 rfl) (zj ⟨rfl,by rw[Q8 q];rfl⟩)))
 rintro δ _ ⟨rfl,rfl⟩;generalize hm:(if d=0 then n else 2+y)=lot;have m2:2<=lot/\lot<=6:=by
  subst hm;split<;>omega
 obtain⟨i,β6,p6,i1,ok6⟩:=pn ok5 (lot:=lot) (by omega) (by omega);obtain⟨o,L,p7,o1,ok7⟩:=pn ok6 (lot:=lot-1) (by omega) (by omega);refine aG (ar rfl p6) ?_;refine aG (d:= .int (((i+1+o) % lot:Nat):Int)) (β1:=L) (d_ (d_ (d_ rfl rfl rfl) (ar (aa rfl (aa (d_ (z:= .int ((lot-1:Nat):Int)) rfl rfl ?_) rfl)) p7) rfl) rfl ?_) ?_
 .show on (D.int _)=on (D.int _)
  rw[show((lot:Int)-1)=((lot-1:Nat):Int) by omega]
 .show(if decide ((0:Int)<(lot:Int))=Q4 then _ else _)=_
  rw[Rb (Rv (by omega))];rfl
 have j1:(i+1+o) % lot<lot:=Xk _ (by omega);have ne:i≠(i+1+o) % lot:=by
  rcases VU (i+1+o) lot with z|z
  .rw[Nat.mod_eq_of_lt z];omega
  .rw[Nat.mod_eq_sub_mod z,Nat.mod_eq_of_lt (by omega)];omega
 generalize (i+1+o) % lot=j at*;obtain⟨m,J,H⟩:∃m J,JnO K a n m vs J (decide (d=0)) i j:=by
  by_cases q:d=0
  .rw[Rb q]at hm
   subst hm;rw[Rv q];exact⟨_,_,NO c s8 (by omega) i1 j1 ne⟩
  .rw[Q8 q]at hm
   subst hm;rw[RY q];exact⟨_,_,NP c s8 (by omega) (by omega) (by omega) ne⟩
 have hv:vs∈pC n vs:=(i9 c).mpr ⟨ln,rfl,rfl⟩;have A:=H.clm;have tw:=A.tab;have tr1:=tw.r1;have tc1:=tw.c1;have tbr:=N.r1;have x1:=p0 (K:=K) (a:=a) (β:=L) (a_:=js n vs) (by rw[N.shp.1];omega);have x2:=lU (K:=K) (a:=a) (β:=L) N.shp (by omega) (by omega) (by omega);rw[oR ln]at x1;rw[<-lv,iY ln,qj]at x2;have x3:=wb (K:=K) (a:=a) (β:=L) (a_:=js m (J vs)) (by rw[tw.shp.1];omega);have x4:=qW (K:=K) (a:=a) (β:=L) tw.shp tw.r0 (by omega) (by omega);rw[oR A.ln]at x3;rw[iY A.ln,qj]at x4;refine aG (wr (ks:=[.bl (decide (d=0))]) (ql N (aa (ar rfl (CB (by rw[QX,N.shp.1];omega))) rfl)) rfl rfl (H.tj _ vs hv)) ?_;refine aG (AM c (aa (ar rfl x1) (aa (ar rfl x2) rfl))) ?_;refine aG (AM A (aa (cA rfl rfl x3) (aa (cA rfl rfl x4) rfl))) ?_;have n1:nq K a (et m (J vs)) (fy (J vs)) (wC m (J vs)) (ot (s_ (et m (J vs)).length (fy (J vs)).length)):=A.ntb.nt;have pl:(pC m (J vs)).length=lk (wC m (J vs)) (fy (J vs)).length 0 (et m (J vs)):=wR _ _ _;have hJ:J vs∈pC m (J vs):=(i9 A).mpr ⟨A.ln,rfl,rfl⟩;have tp0:0<(pC m (J vs)).length:=YU hJ;have tle:lk (wC m (J vs)) (fy (J vs)).length 0 (et m (J vs))<1073741824:=by
  have lc:=A.nt0.c6;have lc1:=A.nt0.c1;obtain⟨q,hq⟩:∃q,(fy (J vs)).length=q+1:=⟨(fy (J vs)).length-1,by omega⟩;rw[hq];have:=JK (xP (s_ (et m (J vs)).length (fy (J vs)).length) (fy (J vs))) A.wd q 0 (et m (J vs)) (by rw[hq,Sn]) A.nt0.sm (g8.refl _);exact Tl (Ru this (VB (by decide) (show q<=5 by omega))) (by decide)
 obtain⟨u,b,p8,u1,ok8⟩:=pn ok7 (lot:=lk (wC m (J vs)) (fy (J vs)).length 0 (et m (J vs))) (by omega) (by omega);have hu:C_ (wC m (J vs)) (fy (J vs)).length 0 (et m (J vs)) u∈pC m (J vs):=by
  have:=rp (yA u1);rw[vi]at this;exact this
 generalize hus:C_ (wC m (J vs)) (fy (J vs)).length 0 (et m (J vs)) u=us at hu;have kt0:=NM (K:=K) (a:=a) (β:=b) n1 u1;rw[hus]at kt0;have kt:(gJ K a).1 [ntC a m (J vs),.int (u:Int)] b=on (.ok (aI (js m us)),b):=kt0.trans (by
  show on (SW (aI (tp (et m (J vs)).length (us.map nI))),b)=_;rw[A.len])
 obtain⟨f,st⟩:=JM (K:=K) (a:=a) (β:=b) A hu;refine aG (ar (aa rfl (aa (ar (aa rfl (aa (cA rfl rfl wz) rfl)) p8) rfl)) kt) ?_;refine pG (ar rfl st) rfl (aG (d:= .int 0) (β1:=b) rfl ?_);show Gw _ (l53 a n m vs J (decide (d=0)) lot i j (aI (js m us)) f (f+wt us) 0 QY QY QY QY) b _;have gu:=(i9 A).mp hu;have lu:us.length=(J vs).length:=by rw[gu.len,QX]
 have hfr:ot (s_ (et n vs).length (fy vs).length)=d9 (lz n (2+y)):=by
  show d9 (oh _)=_;rw[yS,c.len,QX,lv]
 have la:=LY (K:=K) (a:=a) (β:=b) c.ntb (by rw[gB ln];exact s8);rw[hfr]at la;have l8:bt eV (ao (f2 ko (aj 2) (fC (.int 0))) aN) (vw (l53 a n m vs J (decide (d=0)) lot i j (aI (js m us)) f (f+wt us) 0 QY QY QY QY)) b=on (.ok (.int ((2+y:Nat):Int)),b):=ag (aa (x:= .lst (X.map D.int)) (d_ rfl rfl (jL (k:=0) (by rw[Q5,F];rfl))) rfl) (cK (by rw[QX,I]));refine ci (ds:=(pC n vs).map cD) (β1:=b) (bU (ar (aa rfl (aa (ar (aa (ag rfl (mI (r:=n) (kC N.shp))) (aa l8 rfl)) (FE (by omega) (by omega))) rfl)) la) rfl) (λk δ l=>b=l/\∃Z s15 O Q,δ=l53 a n m vs J (decide (d=0)) lot i j (aI (js m us)) f (f+wt us) (L2.Nt.sm (((pC n vs).take k).filter λB=>decide (J B=us)) wt) Z s15 O Q) ⟨rfl,QY,QY,QY,QY,rfl⟩ ?_ ?_
 .rintro k dd δ _ hd ⟨rfl,Z,s15,O,Q,rfl⟩
  obtain⟨B,hw,rfl⟩:=cS hd;have R:=RK hw;obtain⟨U,lws⟩:=mC c s8 R;have tws:=U.tab;have l1:=tws.r1;have shc:hL B.length n (B.map nI):=DR U.ln;have lt:=qm (K:=K) (a:=a) (β:=b) shc U.l1 (by have:=U.l6;omega) (by omega);rw[<-cD_e]at lt;obtain⟨g,sw⟩:=JM (K:=K) (a:=a) (β:=b) c R;obtain⟨lJ1,lJ2⟩:=H.ln B R;have tk:(pC n vs).take (k+1)=(pC n vs).take k++[B]:=by rw[Vf,hw];rfl
  refine⟨_,rfl,aG (ar rfl lt) ?_⟩;refine ak (xO (β1:=b) (j_ (d_ (cA (wr (ks:=[.bl (decide (d=0))]) (ql tws (aa rfl rfl)) rfl rfl (H.tj _ B R)) rfl (GD (by rw[iG.1];omega))) rfl (QO _ _))) ?_);have iff:=Lh lJ1 gu.ln (lJ2.trans lu.symm);by_cases q:J B=us
  .rw[Rb (Rv (iff.mpr q))]
   refine KU (pG (ar rfl sw) rfl (aG (d:= .int ((L2.Nt.sm (((pC n vs).take (k+1)).filter λB=>decide (J B=us)) wt:Nat):Int)) (β1:=b) (d_ (d_ rfl rfl rfl) rfl ?_) (bu ⟨rfl,_,_,_,_,rfl⟩)));rw[tk,ZP,l7,Ul,Rb (Rv q),List.filter_nil,aZ,pP];have e:∀t g w:Nat,((t:Int)+((g+w:Nat):Int)-(g:Int))=((t+(w+0):Nat):Int):=λt g w=>by omega
   exact R9 (λz:Int=>on (D.int z)) (e _ g _)
  .rw[Q8 (λz=>q (iff.mp (Sk z)))]
   refine bV (bu ⟨rfl,on (.sh (cD B)),on (.sh (aI (tp n (B.map nI)))),O,Q,?_⟩);rw[tk,ZP,l7,Ul,Q8 (λz=>q (Sk z)),List.filter_nil,pP,Ux];rfl
 .rintro δ _ ⟨rfl,Z,s15,O,Q,rfl⟩
  rw[QX,TK];have sh:=H.sh us hu;have b1:L2.Nt.sm ((pC n vs).filter λB=>decide (J B=us)) wt<=2^160:=Ru (jZ (g:=wt) UT λ_ _=>Rf _) (by rw[wQ,c.dl];exact k4 c.nr.2.2.1);have b2:wt us<=2^160:=Ru (JE (kn hu).1 (kn hu).2) (by rw[A.dl];exact k4 A.nr.2.2.1);generalize L2.Nt.sm ((pC n vs).filter λB=>decide (J B=us)) wt=T at sh b1;have dl1:=vR (K:=K) (a:=a) (β:=b) (W:=wC m (J vs)) (bd:=ot (s_ (et m (J vs)).length (fy (J vs)).length)) (rs:=et m (J vs)) (cs:=fy (J vs));have dl2:=vR (K:=K) (a:=a) (β:=b) (W:=wC n vs) (bd:=ot (s_ (et n vs).length (fy vs).length)) (rs:=et n vs) (cs:=fy vs);rw[A.dl]at dl1;rw[c.dl]at dl2;refine ak (aQ (d_ (d_ rfl (cA rfl rfl dl1) (mE (dD b1 (by decide)) (dD (k4 A.nr.2.2.1) (by decide)))) (d_ (d_ (z:= .int ((wt us:Nat):Int)) rfl rfl ?_) (cA rfl rfl dl2) (mE (dD b2 (by decide)) (dD (k4 c.nr.2.2.1) (by decide)))) (by rw[eq_int,Rv (by rw[sh])])) rfl);have e:∀g w:Nat,(((g+w:Nat):Int)-(g:Int))=(w:Int):=λg w=>by omega
  exact R9 (λz:Int=>on (D.int z)) (e f _)
noncomputable abbrev E(P:Yp)(n:String)(t:Nat)(v:Ra):U3:=⟨PyData.keyHash P (TU n),.str (TU n) t,v⟩
noncomputable abbrev FN(x q:R3)(s:Sy)(c d b e:Ra)(f:Option Q6)(cd ct:Ra):RG:=Va x q (iM s) (c8 s) (ae s) c d b e f cd ct
noncomputable abbrev fO(f:RG):RA:=⟨.type "function",QY,.func f,#[]⟩
noncomputable abbrev tO(l:List Ra):RA:=⟨.type "tuple",QY,.seq l.toArray 0,#[]⟩
noncomputable abbrev cO(l:List Ra):RA:=⟨.type "code",QY,.fields l.toArray,#[]⟩
noncomputable abbrev eB(P:Yp)(n:String)(t:Nat):U3:=E P n t (.builtin n)
noncomputable abbrev eT(P:Yp)(n:String)(t:Nat):U3:=E P n t (.type n)
noncomputable abbrev eR(P:Yp)(n:String)(t r:Nat):U3:=E P n t (.ref r)
noncomputable abbrev nO(l:List Ra):RA:=⟨.none,QY,.fields l.toArray,#[]⟩
noncomputable abbrev fB(x q:R3)(s:Sy):RA:=⟨.none,QY,.func ⟨x,q,iM s,.stmts (c8 s),ae s,0,[],.none,.none,.none,.none,QY,.none,.none,0⟩,#[]⟩
noncomputable abbrev cC(n q:R3)(t l a po c fl r:Nat)(b:Bool)(d e:Nat)(x y z w:Ra)(u f v:Nat):RA:=cO [.str n t,.str q (t+1),.str "/claim/cut.py" (t+2),.int l 0,.int a 0,.int po 0,.int c 0,.int fl 0,.ref r,.bool b,.int d 0,.ref e,x,y,z,w,.int u 0,.int f 0,.str "/claim/cut.py" v]
noncomputable abbrev cF(n:R3)(t l a b r c u:Nat):RA:=cC n n t l a 0 b 3 r Q4 c (r+1) .none .none .none (.ref (r+2)) u l (u+1)
noncomputable abbrev cG(n:R3)(t l a b r c u:Nat):RA:=cC n n t l a 0 b 3 r Q4 c (r+1) .none (.ref (r+2)) (.ref (r+3)) (.ref (r+4)) u l (u+1)
noncomputable abbrev fM(m:R3)(t:Nat)(x:R3)(i c:Nat):RA:=fO (FN x x (c4 i) .none .none .none (.str m t) QY (.ref c) .none)
abbrev eTt:List Ra:=[(.ref 38),(.type "ValueError"),(.type "Exception"),(.type "BaseException"),(.type "object")]
noncomputable abbrev KX(x:R3)(a d b t u:Nat):RA:=⟨(.type "type"),QY,(.cls ⟨x,[(.ref 38)],(.ref a)::eTt,d,x,Q4,[],[],Q9,QY,Q9⟩),#[(on (.ref b)),QY,(on (.str x t)),(on (.str x u)),(on (.builtin "ValueError.__new__")),(on (.bool Q4))]⟩
noncomputable abbrev B3(n:Nat):RA:=⟨(.type "builtin_function_or_method"),QY,(.fields #[(.builtin "object.__init_subclass__"),(.ref n)]),#[]⟩
noncomputable abbrev h8:Ra:= .str "edgetally.errors" 194
noncomputable abbrev p_:Ra:= .str "edgetally.table" 810
noncomputable abbrev ss:Ra:= .str "edgetally.net" 569
noncomputable abbrev tx3:Ra:= .str "__main__" 164
noncomputable abbrev tx4:Ra:= .str "EdgeError" 204
noncomputable abbrev fL(x q:R3)(i c:Nat):RA:=fO (FN x q (c4 i) .none .none .none (.str "law_edgetally_k53_whole_joined_shares" 941) QY (.ref c) .none)
noncomputable def trL:List Nat->List Ra
 |a::b::c::l=> .int a 0:: .int b 0:: .ref c::trL l
 |_=>[]
noncomputable abbrev nT(l:List Nat):RA:=nO (trL l)
noncomputable def stL:Nat->List R3->List Ra
 |_,[]=>[]
 |t,x::l=> .str x t::stL (t+1) l
noncomputable abbrev tS(t:Nat)(l:List R3):RA:=tO (stL t l)
noncomputable def fD(o:RA):RG:=match o.data with
 | .func f=>f
 |_=>FN "" "" (c4 0) .none .none .none .none QY .none .none
end
section
variable(P:Yp)
def b0:RA:=⟨(.type "dict"),QY,(.dict #[(E P "__name__" 1 (.str "builtins" 160)),(E P "__doc__" 2 (.builtin "builtins.__doc__:str#opaque")),(E P "__package__" 3 (.builtin "builtins.__package__:str#opaque")),(E P "__loader__" 4 (.builtin "builtins.__loader__:shared#opaque")),(E P "__spec__" 5 (.builtin "builtins.__spec__#opaque")),(eB P "__build_class__" 6),(eB P "__import__" 7),(eB P "abs" 8),(eB P "all" 9),(eB P "any" 10),(eB P "ascii" 11),(eB P "bin" 12),(eB P "breakpoint" 13),(eB P "callable" 14),(eB P "chr" 15),(eB P "compile" 16),(eB P "delattr" 17),(eB P "dir" 18),(eB P "divmod" 19),(eB P "eval" 20),(eB P "exec" 21),(eB P "format" 22),(eB P "getattr" 23),(eB P "globals" 24),(eB P "hasattr" 25),(eB P "hash" 26),(eB P "hex" 27),(eB P "id" 28),(eB P "input" 29),(eB P "isinstance" 30),(eB P "issubclass" 31),(eB P "iter" 32),(eB P "aiter" 33),(eB P "len" 34),(eB P "locals" 35),(eB P "max" 36),(eB P "min" 37),(eB P "next" 38),(eB P "anext" 39),(eB P "oct" 40),(eB P "ord" 41),(eB P "pow" 42),(eB P "print" 43),(eB P "repr" 44),(eB P "round" 45),(eB P "setattr" 46),(eB P "sorted" 47),(eB P "sum" 48),(eB P "vars" 49),(E P "None" 50 .none),(E P "Ellipsis" 51 .ellipsis),(E P "NotImplemented" 52 .notImplemented),(E P "False" 53 (.bool Q9)),(E P "True" 54 (.bool Q4)),(eT P "bool" 55),(eT P "memoryview" 56),(eT P "bytearray" 57),(eT P "bytes" 58),(eT P "classmethod" 59),(eT P "complex" 60),(eT P "dict" 61),(eT P "enumerate" 62),(eT P "filter" 63),(eT P "float" 64),(eT P "frozenset" 65),(eT P "property" 66),(eT P "int" 67),(eT P "list" 68),(eT P "map" 69),(eT P "object" 70),(eT P "range" 71),(eT P "reversed" 72),(eT P "set" 73),(eT P "slice" 74),(eT P "staticmethod" 75),(eT P "str" 76),(eT P "super" 77),(eT P "tuple" 78),(eT P "type" 79),(eT P "zip" 80),(E P "__debug__" 81 (.bool Q4)),(eT P "BaseException" 82),(eT P "BaseExceptionGroup" 83),(eT P "Exception" 84),(eT P "GeneratorExit" 85),(eT P "KeyboardInterrupt" 86),(eT P "SystemExit" 87),(eT P "ArithmeticError" 88),(eT P "AssertionError" 89),(eT P "AttributeError" 90),(eT P "BufferError" 91),(eT P "EOFError" 92),(eT P "ImportError" 93),(eT P "LookupError" 94),(eT P "MemoryError" 95),(eT P "NameError" 96),(eT P "OSError" 97),(eT P "ReferenceError" 98),(eT P "RuntimeError" 99),(eT P "StopAsyncIteration" 100),(eT P "StopIteration" 101),(eT P "SyntaxError" 102),(eT P "SystemError" 103),(eT P "TypeError" 104),(eT P "ValueError" 105),(eT P "Warning" 106),(eT P "FloatingPointError" 107),(eT P "OverflowError" 108),(eT P "ZeroDivisionError" 109),(eT P "BytesWarning" 110),(eT P "DeprecationWarning" 111),(eT P "EncodingWarning" 112),(eT P "FutureWarning" 113),(eT P "ImportWarning" 114),(eT P "PendingDeprecationWarning" 115),(eT P "ResourceWarning" 116),(eT P "RuntimeWarning" 117),(eT P "SyntaxWarning" 118),(eT P "UnicodeWarning" 119),(eT P "UserWarning" 120),(eT P "BlockingIOError" 121),(eT P "ChildProcessError" 122),(eT P "ConnectionError" 123),(eT P "FileExistsError" 124),(eT P "FileNotFoundError" 125),(eT P "InterruptedError" 126),(eT P "IsADirectoryError" 127),(eT P "NotADirectoryError" 128),(eT P "PermissionError" 129),(eT P "ProcessLookupError" 130),(eT P "TimeoutError" 131),(eT P "IndentationError" 132),(eT P "_IncompleteInputError" 133),(eT P "IndexError" 134),(eT P "KeyError" 135),(eT P "ModuleNotFoundError" 136),(eT P "NotImplementedError" 137),(eT P "PythonFinalizationError" 138),(eT P "RecursionError" 139),(eT P "UnboundLocalError" 140),(eT P "UnicodeError" 141),(eT P "BrokenPipeError" 142),(eT P "ConnectionAbortedError" 143),(eT P "ConnectionRefusedError" 144),(eT P "ConnectionResetError" 145),(eT P "TabError" 146),(eT P "UnicodeDecodeError" 147),(eT P "UnicodeEncodeError" 148),(eT P "UnicodeTranslateError" 149),(eT P "ExceptionGroup" 150),(E P "EnvironmentError" 151 (.type "OSError")),(E P "IOError" 152 (.type "OSError")),(eB P "open" 153),(E P "quit" 154 (.builtin "builtins.quit#opaque")),(E P "exit" 155 (.builtin "builtins.exit#opaque")),(E P "copyright" 156 (.builtin "builtins.copyright#opaque")),(E P "credits" 157 (.builtin "builtins.credits#opaque")),(E P "license" 158 (.builtin "builtins.license#opaque")),(E P "help" 159 (.builtin "builtins.help#opaque"))] 159),#[]⟩
def b1:RA:=⟨(.type "dict"),QY,(.dict #[(eR P "builtins" 162 4),(eR P "__main__" 163 5)] 2),#[]⟩
noncomputable def b2:RA:=⟨.none,QY,(.dict #[] 0),#[]⟩
def mL:List U3:=[(E P "__name__" 165 (.str "law_edgetally_k53_whole_joined_shares" 941)),(E P "__doc__" 166 .none),(E P "__package__" 167 .none),(E P "__loader__" 168 (.builtin "__main__.__loader__#opaque")),(E P "__spec__" 169 .none),(eR P "__annotations__" 170 6),(eR P "__builtins__" 171 4),(E P "__file__" 173 (.str "/claim/cut.py" 172)),(E P "__cached__" 174 .none),(eR P "_wall" 193 21),(eR P "EdgeError" 223 38),(eR P "BadTable" 248 59),(eR P "BadSums" 273 79),(eR P "BadBounds" 298 99),(eR P "TooWide" 323 118),(eR P "Barred" 350 137),(eR P "BadCell" 375 157),(eR P "BadNumber" 400 177),(eR P "NoTable" 425 197),(E P "MOST" 429 (.int 40 428)),(E P "MOST_ROWS" 431 (.int 4 430)),(E P "MOST_COLUMNS" 433 (.int 6 432)),(eR P "FREE" 435 200),(eR P "free" 442 206),(eR P "check_rows" 448 211),(eR P "check_sums" 454 216),(eR P "check_there" 462 223),(eR P "check_cell" 472 230),(eR P "check_pair" 481 237),(eR P "settled_bounds" 487 242),(eR P "rows_turned" 493 247),(eR P "factorial" 504 254),(eR P "ways" 513 261),(eR P "fillings" 519 266),(eR P "need_of" 527 271),(eR P "room_inside" 533 276),(eR P "room_beside" 539 281),(eR P "room_of" 545 286),(eR P "narrowest" 551 291),(eR P "choices" 557 296),(eR P "check_fit" 568 303),(E P "WIDE" 572 (.int 500 571)),(eR P "check_wide" 581 310),(eR P "settled_for_net" 591 317),(eR P "column_fillings" 597 322),(eR P "rests_behind" 603 327),(eR P "nodes_by_level" 609 332),(eR P "node_counts" 623 339),(eR P "counted_nodes" 629 344),(eR P "Net" 737 428),(eR P "check_number" 747 439),(eR P "steps_counted" 760 446),(eR P "falls_to" 769 453),(eR P "kth_table" 775 458),(eR P "columns_asked" 781 463),(eR P "counted_ahead" 796 470),(eR P "stretch" 809 477),(eR P "two_joined" 817 482),(eR P "Table" 940 576),(eR P "_law_bag" 948 585),(eR P "_law_pull" 959 592),(eR P "_law_grid" 965 597),(eR P "_law_turned" 971 602),(eR P "_law_rowsums" 977 607),(eR P "_law_columnsums" 983 612),(eR P "_law_free" 989 617),(eR P "_law_copied" 995 622),(eR P "_law_fit" 1001 627),(eR P "_law_less" 1007 632),(eR P "_law_listing" 1013 637),(eR P "_law_all" 1021 644),(eR P "law" 1045 651)]
noncomputable def b3:RA:=⟨(.type "dict"),QY,(.dict (mL P).toArray 72),#[]⟩
noncomputable def b4:RA:=⟨(.type "module"),(on 0),.plain,#[]⟩
noncomputable def b5:RA:=⟨(.type "module"),(on 3),.plain,#[]⟩
noncomputable def b6:RA:=⟨(.type "dict"),QY,(.dict #[] 0),#[]⟩
def b7:RA:=tO []
def b8:RA:=nO []
def b9:RA:=cC "<module>" "<module>" 176 1 0 0 0 0 7 Q9 175 8 .none .none .none .none 179 1 180
def b10:RA:=⟨(.type "frame"),QY,.plain,#[(on (.ref 9)),(on (.ref 3)),(on (.ref 3)),QY,(on tx3),QY,(on (.ref 0))]⟩
def b12:RA:=nT [1,0,20,5,0,27,10,0,47,14,0,67,18,0,87,22,0,107,27,0,126,33,0,145,37,0,165,41,0,185,50,0,205,52,0,210,64,0,215,75,0,222,78,0,229,81,0,236,85,0,241,94,0,246,97,0,253,102,0,260,110,0,265,120,0,270,122,0,275,125,0,280,127,0,285,129,0,290,131,0,295,136,0,302,143,0,309,149,0,316,154,0,321,156,0,326,158,0,331,166,0,338,174,0,343,184,0,350,226,0,438,229,0,445,235,0,452,241,0,457,251,0,462,256,0,469,265,0,476,275,0,481,284,0,488,331,0,584,333,0,591,343,0,596,350,0,601,352,0,606,354,0,611,356,0,616,358,0,621,360,0,626,369,0,631,371,0,636,380,0,643,382,0,650]
def b13:RA:=cC "<module>" "<module>" 182 1 0 0 0 0 11 Q9 181 12 .none .none .none .none 185 1 186
def b14:RA:=⟨(.type "frame"),QY,.plain,#[(on (.ref 13)),(on (.ref 3)),(on (.ref 3)),QY,(on tx3),QY,(on (.ref 0))]⟩
def b17:RA:=tS 190 ["k"]
def b19:RA:=fB "_wall" "_wall" (c4 0)
def b20:RA:=cG "_wall" 187 1 1 0 15 181 191
def b21:RA:=fM "__main__" 164 "_wall" 0 20
def b22:RA:=tO [(.type "ValueError")]
noncomputable def B6:RA:=⟨(.type "builtin_function_or_method"),QY,(.fields #[(.builtin "type.__prepare__"),(.type "type")]),#[]⟩
def b24:RA:=⟨(.type "dict"),QY,(.dict #[(E P "__module__" 203 h8),(E P "__qualname__" 205 tx4),(E P "__firstlineno__" 207 (.int 5 206)),(eR P "__init__" 216 35),(eR P "__static_attributes__" 218 36)] 5),#[]⟩
def b26:RA:=nT [7,4,34]
def b27:RA:=cC "EdgeError" "EdgeError" 198 5 0 0 0 0 25 Q9 181 26 .none .none .none .none 201 5 202
def b28:RA:=⟨(.type "frame"),QY,.plain,#[(on (.ref 27)),(on (.ref 3)),(on (.ref 24)),QY,(on h8),QY,(on (.ref 0))]⟩
def b31:RA:=tS 211 ["self","word","why"]
def b33:RA:=fB "__init__" "EdgeError.__init__" (af (c4 2) 0)
def b34:RA:=cC "__init__" "EdgeError.__init__" 208 7 3 0 0 3 29 Q4 181 30 .none (.ref 31) (.ref 32) (.ref 33) 214 7 215
def b35:RA:=fO (FN "__init__" "EdgeError.__init__" (af (c4 2) 0) .none .none .none h8 QY (.ref 34) .none)
def b36:RA:=tS 217 ["word"]
def b37:RA:=⟨(.type "dict"),QY,(.dict #[(E P "__module__" 203 h8),(E P "__firstlineno__" 207 (.int 5 206)),(eR P "__init__" 216 35),(eR P "__static_attributes__" 218 36),(eR P "__weakref__" 220 39),(E P "__doc__" 221 .none)] 3),#[]⟩
def b38:RA:=⟨(.type "type"),QY,(.cls ⟨"EdgeError",[(.type "ValueError")],[(.ref 38),(.type "ValueError"),(.type "Exception"),(.type "BaseException"),(.type "object")],37,"EdgeError",Q4,[],[(.ref 59),(.ref 79),(.ref 99),(.ref 118),(.ref 137),(.ref 157),(.ref 177),(.ref 197)],Q9,QY,Q9⟩),#[(on (.ref 22)),QY,(on (.str "EdgeError" 196)),(on tx4),(on (.builtin "ValueError.__new__")),(on (.bool Q4))]⟩
noncomputable def b39:RA:=⟨(.type "getset_descriptor"),QY,(.fields #[(.str "__weakref__" 219),(.ref 38),(.builtin "ExceptionGroup.__weakref__"),.none]),#[]⟩
noncomputable def b40:RA:=⟨(.type "super"),QY,(.fields #[(.ref 38),(.ref 38),(.ref 38)]),#[]⟩
def b41:RA:=B3 38
def L_:RA:=tO [(.ref 38)]
def b44:RA:=⟨(.type "dict"),QY,(.dict #[(E P "__module__" 231 h8),(E P "__qualname__" 233 (.str "BadTable" 232)),(E P "__firstlineno__" 235 (.int 10 234)),(eR P "__init__" 244 56),(eR P "__static_attributes__" 245 57)] 5),#[]⟩
def b46:RA:=nT [12,4,55]
def b47:RA:=cC "BadTable" "BadTable" 226 10 0 0 0 0 45 Q9 181 46 .none .none .none .none 229 10 230
def b48:RA:=⟨(.type "frame"),QY,.plain,#[(on (.ref 47)),(on (.ref 3)),(on (.ref 44)),QY,(on h8),QY,(on (.ref 0))]⟩
def b49:RA:=tS 236 ["these rows are no table's"]
def b52:RA:=tS 240 ["self","why"]
def b54:RA:=fB "__init__" "BadTable.__init__" (af (c4 3) 0)
def b55:RA:=cC "__init__" "BadTable.__init__" 237 12 2 0 0 3 50 Q4 181 51 .none (.ref 52) (.ref 53) (.ref 54) 242 12 243
def b56:RA:=fO (FN "__init__" "BadTable.__init__" (af (c4 3) 0) (.ref 49) .none .none h8 QY (.ref 55) .none)
def b58:RA:=⟨(.type "dict"),QY,(.dict #[(E P "__module__" 231 h8),(E P "__firstlineno__" 235 (.int 10 234)),(eR P "__init__" 244 56),(eR P "__static_attributes__" 245 57),(E P "__doc__" 246 .none)] 2),#[]⟩
def b59:RA:=KX "BadTable" 59 58 42 224 232
noncomputable def b60:RA:=⟨(.type "super"),QY,(.fields #[(.ref 59),(.ref 59),(.ref 59)]),#[]⟩
def b61:RA:=B3 59
def b64:RA:=⟨(.type "dict"),QY,(.dict #[(E P "__module__" 256 h8),(E P "__qualname__" 258 (.str "BadSums" 257)),(E P "__firstlineno__" 260 (.int 14 259)),(eR P "__init__" 269 76),(eR P "__static_attributes__" 270 77)] 5),#[]⟩
def b66:RA:=nT [16,4,75]
def b67:RA:=cC "BadSums" "BadSums" 251 14 0 0 0 0 65 Q9 181 66 .none .none .none .none 254 14 255
def b68:RA:=⟨(.type "frame"),QY,.plain,#[(on (.ref 67)),(on (.ref 3)),(on (.ref 64)),QY,(on h8),QY,(on (.ref 0))]⟩
def b69:RA:=tS 261 ["these sums are no table's"]
def b72:RA:=tS 265 ["self","why"]
def b74:RA:=fB "__init__" "BadSums.__init__" (af (c4 4) 0)
def b75:RA:=cC "__init__" "BadSums.__init__" 262 16 2 0 0 3 70 Q4 181 71 .none (.ref 72) (.ref 73) (.ref 74) 267 16 268
def b76:RA:=fO (FN "__init__" "BadSums.__init__" (af (c4 4) 0) (.ref 69) .none .none h8 QY (.ref 75) .none)
def b78:RA:=⟨(.type "dict"),QY,(.dict #[(E P "__module__" 256 h8),(E P "__firstlineno__" 260 (.int 14 259)),(eR P "__init__" 269 76),(eR P "__static_attributes__" 270 77),(E P "__doc__" 271 .none)] 2),#[]⟩
def b79:RA:=KX "BadSums" 79 78 62 249 257
noncomputable def b80:RA:=⟨(.type "super"),QY,(.fields #[(.ref 79),(.ref 79),(.ref 79)]),#[]⟩
def b81:RA:=B3 79
def b84:RA:=⟨(.type "dict"),QY,(.dict #[(E P "__module__" 281 h8),(E P "__qualname__" 283 (.str "BadBounds" 282)),(E P "__firstlineno__" 285 (.int 18 284)),(eR P "__init__" 294 96),(eR P "__static_attributes__" 295 97)] 5),#[]⟩
def b86:RA:=nT [20,4,95]
def b87:RA:=cC "BadBounds" "BadBounds" 276 18 0 0 0 0 85 Q9 181 86 .none .none .none .none 279 18 280
def b88:RA:=⟨(.type "frame"),QY,.plain,#[(on (.ref 87)),(on (.ref 3)),(on (.ref 84)),QY,(on h8),QY,(on (.ref 0))]⟩
def b89:RA:=tS 286 ["these bounds are no table's"]
def b92:RA:=tS 290 ["self","why"]
def b94:RA:=fB "__init__" "BadBounds.__init__" (af (c4 5) 0)
def b95:RA:=cC "__init__" "BadBounds.__init__" 287 20 2 0 0 3 90 Q4 181 91 .none (.ref 92) (.ref 93) (.ref 94) 292 20 293
def b96:RA:=fO (FN "__init__" "BadBounds.__init__" (af (c4 5) 0) (.ref 89) .none .none h8 QY (.ref 95) .none)
def b98:RA:=⟨(.type "dict"),QY,(.dict #[(E P "__module__" 281 h8),(E P "__firstlineno__" 285 (.int 18 284)),(eR P "__init__" 294 96),(eR P "__static_attributes__" 295 97),(E P "__doc__" 296 .none)] 2),#[]⟩
def b99:RA:=KX "BadBounds" 99 98 82 274 282
noncomputable def b100:RA:=⟨(.type "super"),QY,(.fields #[(.ref 99),(.ref 99),(.ref 99)]),#[]⟩
def b101:RA:=B3 99
def b104:RA:=⟨(.type "dict"),QY,(.dict #[(E P "__module__" 306 h8),(E P "__qualname__" 308 (.str "TooWide" 307)),(E P "__firstlineno__" 310 (.int 22 309)),(eR P "__init__" 318 115),(eR P "__static_attributes__" 320 116)] 5),#[]⟩
def b106:RA:=nT [24,4,114]
def b107:RA:=cC "TooWide" "TooWide" 301 22 0 0 0 0 105 Q9 181 106 .none .none .none .none 304 22 305
def b108:RA:=⟨(.type "frame"),QY,.plain,#[(on (.ref 107)),(on (.ref 3)),(on (.ref 104)),QY,(on h8),QY,(on (.ref 0))]⟩
def b111:RA:=tS 314 ["self","wide"]
def b113:RA:=fB "__init__" "TooWide.__init__" (af (c4 6) 0)
def b114:RA:=cC "__init__" "TooWide.__init__" 311 24 2 0 0 3 109 Q4 181 110 .none (.ref 111) (.ref 112) (.ref 113) 316 24 317
def b115:RA:=fO (FN "__init__" "TooWide.__init__" (af (c4 6) 0) .none .none .none h8 QY (.ref 114) .none)
def b116:RA:=tS 319 ["wide"]
def b117:RA:=⟨(.type "dict"),QY,(.dict #[(E P "__module__" 306 h8),(E P "__firstlineno__" 310 (.int 22 309)),(eR P "__init__" 318 115),(eR P "__static_attributes__" 320 116),(E P "__doc__" 321 .none)] 2),#[]⟩
def b118:RA:=KX "TooWide" 118 117 102 299 307
noncomputable def b119:RA:=⟨(.type "super"),QY,(.fields #[(.ref 118),(.ref 118),(.ref 118)]),#[]⟩
def b120:RA:=B3 118
def b123:RA:=⟨(.type "dict"),QY,(.dict #[(E P "__module__" 331 h8),(E P "__qualname__" 333 (.str "Barred" 332)),(E P "__firstlineno__" 335 (.int 27 334)),(eR P "__init__" 344 134),(eR P "__static_attributes__" 347 135)] 5),#[]⟩
def b125:RA:=nT [29,4,133]
def b126:RA:=cC "Barred" "Barred" 326 27 0 0 0 0 124 Q9 181 125 .none .none .none .none 329 27 330
def b127:RA:=⟨(.type "frame"),QY,.plain,#[(on (.ref 126)),(on (.ref 3)),(on (.ref 123)),QY,(on h8),QY,(on (.ref 0))]⟩
def b130:RA:=tS 339 ["self","over","into"]
def b132:RA:=fB "__init__" "Barred.__init__" (af (c4 7) 0)
def b133:RA:=cC "__init__" "Barred.__init__" 336 29 3 0 0 3 128 Q4 181 129 .none (.ref 130) (.ref 131) (.ref 132) 342 29 343
def b134:RA:=fO (FN "__init__" "Barred.__init__" (af (c4 7) 0) .none .none .none h8 QY (.ref 133) .none)
def b135:RA:=tS 345 ["into","over"]
def b136:RA:=⟨(.type "dict"),QY,(.dict #[(E P "__module__" 331 h8),(E P "__firstlineno__" 335 (.int 27 334)),(eR P "__init__" 344 134),(eR P "__static_attributes__" 347 135),(E P "__doc__" 348 .none)] 2),#[]⟩
def b137:RA:=KX "Barred" 137 136 121 324 332
noncomputable def b138:RA:=⟨(.type "super"),QY,(.fields #[(.ref 137),(.ref 137),(.ref 137)]),#[]⟩
def b139:RA:=B3 137
def b142:RA:=⟨(.type "dict"),QY,(.dict #[(E P "__module__" 358 h8),(E P "__qualname__" 360 (.str "BadCell" 359)),(E P "__firstlineno__" 362 (.int 33 361)),(eR P "__init__" 371 154),(eR P "__static_attributes__" 372 155)] 5),#[]⟩
def b144:RA:=nT [35,4,153]
def b145:RA:=cC "BadCell" "BadCell" 353 33 0 0 0 0 143 Q9 181 144 .none .none .none .none 356 33 357
def b146:RA:=⟨(.type "frame"),QY,.plain,#[(on (.ref 145)),(on (.ref 3)),(on (.ref 142)),QY,(on h8),QY,(on (.ref 0))]⟩
def b147:RA:=tS 363 ["there is no such cell"]
def b150:RA:=tS 367 ["self","why"]
def b152:RA:=fB "__init__" "BadCell.__init__" (af (c4 8) 0)
def b153:RA:=cC "__init__" "BadCell.__init__" 364 35 2 0 0 3 148 Q4 181 149 .none (.ref 150) (.ref 151) (.ref 152) 369 35 370
def b154:RA:=fO (FN "__init__" "BadCell.__init__" (af (c4 8) 0) (.ref 147) .none .none h8 QY (.ref 153) .none)
def b156:RA:=⟨(.type "dict"),QY,(.dict #[(E P "__module__" 358 h8),(E P "__firstlineno__" 362 (.int 33 361)),(eR P "__init__" 371 154),(eR P "__static_attributes__" 372 155),(E P "__doc__" 373 .none)] 2),#[]⟩
def b157:RA:=KX "BadCell" 157 156 140 351 359
noncomputable def b158:RA:=⟨(.type "super"),QY,(.fields #[(.ref 157),(.ref 157),(.ref 157)]),#[]⟩
def b159:RA:=B3 157
def b162:RA:=⟨(.type "dict"),QY,(.dict #[(E P "__module__" 383 h8),(E P "__qualname__" 385 (.str "BadNumber" 384)),(E P "__firstlineno__" 387 (.int 37 386)),(eR P "__init__" 396 174),(eR P "__static_attributes__" 397 175)] 5),#[]⟩
def b164:RA:=nT [39,4,173]
def b165:RA:=cC "BadNumber" "BadNumber" 378 37 0 0 0 0 163 Q9 181 164 .none .none .none .none 381 37 382
def b166:RA:=⟨(.type "frame"),QY,.plain,#[(on (.ref 165)),(on (.ref 3)),(on (.ref 162)),QY,(on h8),QY,(on (.ref 0))]⟩
def b167:RA:=tS 388 ["this number is out of its bounds"]
def b170:RA:=tS 392 ["self","why"]
def b172:RA:=fB "__init__" "BadNumber.__init__" (af (c4 9) 0)
def b173:RA:=cC "__init__" "BadNumber.__init__" 389 39 2 0 0 3 168 Q4 181 169 .none (.ref 170) (.ref 171) (.ref 172) 394 39 395
def b174:RA:=fO (FN "__init__" "BadNumber.__init__" (af (c4 9) 0) (.ref 167) .none .none h8 QY (.ref 173) .none)
def b176:RA:=⟨(.type "dict"),QY,(.dict #[(E P "__module__" 383 h8),(E P "__firstlineno__" 387 (.int 37 386)),(eR P "__init__" 396 174),(eR P "__static_attributes__" 397 175),(E P "__doc__" 398 .none)] 2),#[]⟩
def b177:RA:=KX "BadNumber" 177 176 160 376 384
noncomputable def b178:RA:=⟨(.type "super"),QY,(.fields #[(.ref 177),(.ref 177),(.ref 177)]),#[]⟩
def b179:RA:=B3 177
def b182:RA:=⟨(.type "dict"),QY,(.dict #[(E P "__module__" 408 h8),(E P "__qualname__" 410 (.str "NoTable" 409)),(E P "__firstlineno__" 412 (.int 41 411)),(eR P "__init__" 421 194),(eR P "__static_attributes__" 422 195)] 5),#[]⟩
def b184:RA:=nT [43,4,193]
def b185:RA:=cC "NoTable" "NoTable" 403 41 0 0 0 0 183 Q9 181 184 .none .none .none .none 406 41 407
def b186:RA:=⟨(.type "frame"),QY,.plain,#[(on (.ref 185)),(on (.ref 3)),(on (.ref 182)),QY,(on h8),QY,(on (.ref 0))]⟩
def b187:RA:=tS 413 ["the net has no such table"]
def b190:RA:=tS 417 ["self","why"]
def b192:RA:=fB "__init__" "NoTable.__init__" (af (c4 10) 0)
def b193:RA:=cC "__init__" "NoTable.__init__" 414 43 2 0 0 3 188 Q4 181 189 .none (.ref 190) (.ref 191) (.ref 192) 419 43 420
def b194:RA:=fO (FN "__init__" "NoTable.__init__" (af (c4 10) 0) (.ref 187) .none .none h8 QY (.ref 193) .none)
def b196:RA:=⟨(.type "dict"),QY,(.dict #[(E P "__module__" 408 h8),(E P "__firstlineno__" 412 (.int 41 411)),(eR P "__init__" 421 194),(eR P "__static_attributes__" 422 195),(E P "__doc__" 423 .none)] 2),#[]⟩
def b197:RA:=KX "NoTable" 197 196 180 401 409
noncomputable def b198:RA:=⟨(.type "super"),QY,(.fields #[(.ref 197),(.ref 197),(.ref 197)]),#[]⟩
def b199:RA:=B3 197
def Pf:RA:=tO [(.int 0 434),(.int 40 428)]
def Pe:RA:=⟨(.type "dict"),QY,(.dict #[(eR P "pair" 436 200)] 1),#[]⟩
def b204:RA:=fB "free" "free" (c4 16)
def Pd:RA:=cF "free" 437 50 2 1 202 181 440
def IS:RA:=fO (FN "free" "free" (c4 16) .none (.ref 201) .none (.str "edgetally.bounds" 426) QY (.ref 205) .none)
def b209:RA:=fB "check_rows" "check_rows" (c4 17)
def Pc:RA:=cF "check_rows" 443 52 1 0 207 181 446
def IR:RA:=fM "edgetally.bounds" 426 "check_rows" 17 210
def b214:RA:=fB "check_sums" "check_sums" (c4 18)
def Pb:RA:=cF "check_sums" 449 64 2 0 212 181 452
def IQ:RA:=fM "edgetally.bounds" 426 "check_sums" 18 215
def b219:RA:=tS 458 ["place","many"]
def b221:RA:=fB "check_there" "check_there" (c4 19)
def Pa:RA:=cG "check_there" 455 75 2 0 217 181 460
def IO:RA:=fM "edgetally.bounds" 426 "check_there" 19 222
def b226:RA:=tS 466 ["row","column","rows","columns"]
def b228:RA:=fB "check_cell" "check_cell" (c4 20)
def b229:RA:=cG "check_cell" 463 78 4 0 224 181 470
def b230:RA:=fM "edgetally.bounds" 426 "check_cell" 20 229
def b233:RA:=tS 476 ["pair","low","high"]
def b235:RA:=fB "check_pair" "check_pair" (c4 21)
def O9:RA:=cG "check_pair" 473 81 1 0 231 181 479
def IN:RA:=fM "edgetally.bounds" 426 "check_pair" 21 236
def b240:RA:=fB "settled_bounds" "settled_bounds" (c4 22)
def O8:RA:=cF "settled_bounds" 482 85 3 0 238 181 485
def IM:RA:=fM "edgetally.bounds" 426 "settled_bounds" 22 241
def b245:RA:=fB "rows_turned" "rows_turned" (c4 23)
def O7:RA:=cF "rows_turned" 488 94 1 0 243 181 491
def IL:RA:=fM "edgetally.bounds" 426 "rows_turned" 23 246
def b250:RA:=tS 499 ["number","product","factor"]
def b252:RA:=fB "factorial" "factorial" (c4 25)
def O6:RA:=cG "factorial" 496 97 1 0 248 181 502
def IK:RA:=fM "edgetally.counts" 494 "factorial" 25 253
def b257:RA:=tS 508 ["parts","part","told"]
def b259:RA:=fB "ways" "ways" (c4 26)
def O5:RA:=cG "ways" 505 102 1 0 255 181 511
def IJ:RA:=fM "edgetally.counts" 494 "ways" 26 260
def b264:RA:=fB "fillings" "fillings" (c4 27)
def O4:RA:=cF "fillings" 514 110 3 0 262 181 517
def II:RA:=fM "edgetally.counts" 494 "fillings" 27 265
def b269:RA:=fB "need_of" "need_of" (c4 29)
def O3:RA:=cF "need_of" 522 120 2 0 267 181 525
def IH:RA:=fM "edgetally.fits" 520 "need_of" 29 270
def b274:RA:=fB "room_inside" "room_inside" (c4 30)
def O1:RA:=cF "room_inside" 528 122 4 0 272 181 531
def IG:RA:=fM "edgetally.fits" 520 "room_inside" 30 275
def b279:RA:=fB "room_beside" "room_beside" (c4 31)
def O0:RA:=cF "room_beside" 534 125 3 0 277 181 537
def IF:RA:=fM "edgetally.fits" 520 "room_beside" 31 280
def b284:RA:=fB "room_of" "room_of" (c4 32)
def OZ:RA:=cF "room_of" 540 127 4 0 282 181 543
def IE:RA:=fM "edgetally.fits" 520 "room_of" 32 285
def b289:RA:=fB "narrowest" "narrowest" (c4 33)
def OY:RA:=cF "narrowest" 546 129 3 0 287 181 549
def ID:RA:=fM "edgetally.fits" 520 "narrowest" 33 290
def b294:RA:=fB "choices" "choices" (c4 34)
def OX:RA:=cF "choices" 552 131 1 0 292 181 555
def IC:RA:=fM "edgetally.fits" 520 "choices" 34 295
def b299:RA:=tS 561 ["rowsums","columnsums","bounds","over","into"]
def b301:RA:=fB "check_fit" "check_fit" (c4 35)
def OW:RA:=cG "check_fit" 558 136 3 0 297 181 566
def IB:RA:=fM "edgetally.fits" 520 "check_fit" 35 302
def b306:RA:=tS 576 ["rowsums","wide","many"]
def b308:RA:=fB "check_wide" "check_wide" (c4 38)
def OV:RA:=cG "check_wide" 573 143 1 0 304 181 579
def IA:RA:=fM "edgetally.net" 569 "check_wide" 38 309
def b313:RA:=tS 585 ["rowsums","columnsums","bounds","settled"]
def b315:RA:=fB "settled_for_net" "settled_for_net" (c4 39)
def OU:RA:=cG "settled_for_net" 582 149 3 0 311 181 589
def HZ:RA:=fM "edgetally.net" 569 "settled_for_net" 39 316
def b320:RA:=fB "column_fillings" "column_fillings" (c4 40)
def OT:RA:=cF "column_fillings" 592 154 4 0 318 181 595
def HY:RA:=fM "edgetally.net" 569 "column_fillings" 40 321
def b325:RA:=fB "rests_behind" "rests_behind" (c4 41)
def OS:RA:=cF "rests_behind" 598 156 2 0 323 181 601
def HX:RA:=fM "edgetally.net" 569 "rests_behind" 41 326
def b330:RA:=fB "nodes_by_level" "nodes_by_level" (c4 42)
def OR:RA:=cF "nodes_by_level" 604 158 3 0 328 181 607
def HW:RA:=fM "edgetally.net" 569 "nodes_by_level" 42 331
def b335:RA:=tS 613 ["rests","filled","behind","tables","dealings","counts","tables_behind","dealings_behind"]
def b337:RA:=fB "node_counts" "node_counts" (c4 43)
def OQ:RA:=cG "node_counts" 610 166 3 0 333 181 621
def HV:RA:=fM "edgetally.net" 569 "node_counts" 43 338
def b342:RA:=fB "counted_nodes" "counted_nodes" (c4 44)
def OP:RA:=cF "counted_nodes" 624 174 3 0 340 181 627
def HU:RA:=fM "edgetally.net" 569 "counted_nodes" 44 343
def b347:RA:=⟨(.type "dict"),QY,(.dict #[(E P "__module__" 637 ss),(E P "__qualname__" 639 (.str "Net" 638)),(E P "__firstlineno__" 641 (.int 184 640)),(eR P "__init__" 653 359),(eR P "__eq__" 661 366),(eR P "__len__" 668 373),(eR P "rowsums" 675 380),(eR P "columnsums" 682 387),(eR P "bounds" 688 392),(eR P "counts_at" 697 399),(eR P "tables" 704 406),(eR P "dealings" 711 413),(eR P "steps" 717 418),(eR P "paper" 724 425),(eR P "__static_attributes__" 729 426)] 15),#[]⟩
def b349:RA:=nT [186,4,358,194,4,365,197,4,372,200,4,379,203,4,386,206,4,391,209,4,398,212,4,405,215,4,412,218,4,417,223,4,424]
def b350:RA:=cC "Net" "Net" 632 184 0 0 0 0 348 Q9 181 349 .none .none .none .none 635 184 636
def b351:RA:=⟨(.type "frame"),QY,.plain,#[(on (.ref 350)),(on (.ref 3)),(on (.ref 347)),QY,(on ss),QY,(on (.ref 0))]⟩
def OO:RA:=⟨(.type "dict"),QY,(.dict #[(E P "bounds" 642 .none)] 1),#[]⟩
def b355:RA:=tS 646 ["self","rowsums","columnsums","bounds","settled"]
def b357:RA:=fB "__init__" "Net.__init__" (af (c4 45) 0)
def ON:RA:=cC "__init__" "Net.__init__" 643 186 3 0 1 3 353 Q4 181 354 .none (.ref 355) (.ref 356) (.ref 357) 651 186 652
def HS:RA:=fO (FN "__init__" "Net.__init__" (af (c4 45) 0) .none (.ref 352) .none ss QY (.ref 358) .none)
def b362:RA:=tS 657 ["self","other"]
def b364:RA:=fB "__eq__" "Net.__eq__" (af (c4 45) 1)
def b365:RA:=cC "__eq__" "Net.__eq__" 654 194 2 0 0 3 360 Q4 181 361 .none (.ref 362) (.ref 363) (.ref 364) 659 194 660
def b366:RA:=fO (FN "__eq__" "Net.__eq__" (af (c4 45) 1) .none .none .none ss QY (.ref 365) .none)
def b369:RA:=tS 665 ["self"]
def b371:RA:=fB "__len__" "Net.__len__" (af (c4 45) 2)
def b372:RA:=cC "__len__" "Net.__len__" 662 197 1 0 0 3 367 Q4 181 368 .none (.ref 369) (.ref 370) (.ref 371) 666 197 667
def b373:RA:=fO (FN "__len__" "Net.__len__" (af (c4 45) 2) .none .none .none ss QY (.ref 372) .none)
def b376:RA:=tS 672 ["self"]
def b378:RA:=fB "rowsums" "Net.rowsums" (af (c4 45) 3)
def OM:RA:=cC "rowsums" "Net.rowsums" 669 200 1 0 0 3 374 Q4 181 375 .none (.ref 376) (.ref 377) (.ref 378) 673 200 674
def HR:RA:=fO (FN "rowsums" "Net.rowsums" (af (c4 45) 3) .none .none .none ss QY (.ref 379) .none)
def b383:RA:=tS 679 ["self"]
def b385:RA:=fB "columnsums" "Net.columnsums" (af (c4 45) 4)
def OL:RA:=cC "columnsums" "Net.columnsums" 676 203 1 0 0 3 381 Q4 181 382 .none (.ref 383) (.ref 384) (.ref 385) 680 203 681
def HQ:RA:=fO (FN "columnsums" "Net.columnsums" (af (c4 45) 4) .none .none .none ss QY (.ref 386) .none)
def b390:RA:=fB "bounds" "Net.bounds" (af (c4 45) 5)
def b391:RA:=cC "bounds" "Net.bounds" 683 206 1 0 0 3 388 Q4 181 389 .none .none .none (.ref 390) 686 206 687
def b392:RA:=fO (FN "bounds" "Net.bounds" (af (c4 45) 5) .none .none .none ss QY (.ref 391) .none)
def b395:RA:=tS 692 ["self","level","rests"]
def b397:RA:=fB "counts_at" "Net.counts_at" (af (c4 45) 6)
def OK:RA:=cC "counts_at" "Net.counts_at" 689 209 3 0 0 3 393 Q4 181 394 .none (.ref 395) (.ref 396) (.ref 397) 695 209 696
def HP:RA:=fO (FN "counts_at" "Net.counts_at" (af (c4 45) 6) .none .none .none ss QY (.ref 398) .none)
def b402:RA:=tS 701 ["self"]
def b404:RA:=fB "tables" "Net.tables" (af (c4 45) 7)
def OJ:RA:=cC "tables" "Net.tables" 698 212 1 0 0 3 400 Q4 181 401 .none (.ref 402) (.ref 403) (.ref 404) 702 212 703
def HN:RA:=fO (FN "tables" "Net.tables" (af (c4 45) 7) .none .none .none ss QY (.ref 405) .none)
def b409:RA:=tS 708 ["self"]
def b411:RA:=fB "dealings" "Net.dealings" (af (c4 45) 8)
def OI:RA:=cC "dealings" "Net.dealings" 705 215 1 0 0 3 407 Q4 181 408 .none (.ref 409) (.ref 410) (.ref 411) 709 215 710
def HM:RA:=fO (FN "dealings" "Net.dealings" (af (c4 45) 8) .none .none .none ss QY (.ref 412) .none)
def b416:RA:=fB "steps" "Net.steps" (af (c4 45) 9)
def OH:RA:=cC "steps" "Net.steps" 712 218 3 0 0 3 414 Q4 181 415 .none .none .none (.ref 416) 715 218 716
def HL:RA:=fO (FN "steps" "Net.steps" (af (c4 45) 9) .none .none .none ss QY (.ref 417) .none)
def b421:RA:=tS 721 ["self"]
def b423:RA:=fB "paper" "Net.paper" (af (c4 45) 10)
def b424:RA:=cC "paper" "Net.paper" 718 223 1 0 0 3 419 Q4 181 420 .none (.ref 421) (.ref 422) (.ref 423) 722 223 723
def b425:RA:=fO (FN "paper" "Net.paper" (af (c4 45) 10) .none .none .none ss QY (.ref 424) .none)
def b426:RA:=tS 725 ["column_list","counted","pairs","row_list"]
def OG:RA:=⟨(.type "dict"),QY,(.dict #[(E P "__module__" 637 ss),(E P "__firstlineno__" 641 (.int 184 640)),(eR P "__init__" 653 359),(eR P "__eq__" 661 366),(eR P "__len__" 668 373),(eR P "rowsums" 675 380),(eR P "columnsums" 682 387),(eR P "bounds" 688 392),(eR P "counts_at" 697 399),(eR P "tables" 704 406),(eR P "dealings" 711 413),(eR P "steps" 717 418),(eR P "paper" 724 425),(eR P "__static_attributes__" 729 426),(eR P "__dict__" 731 429),(eR P "__weakref__" 733 430),(E P "__doc__" 734 .none),(E P "__hash__" 735 .none)] 5),#[]⟩
noncomputable def OF:RA:=⟨(.type "type"),QY,(.cls ⟨"Net",[(.type "object")],[(.ref 428),(.type "object")],427,"Net",Q4,[],[],Q9,QY,Q9⟩),#[QY,QY,(on (.str "Net" 630)),(on (.str "Net" 638)),(on (.builtin "object.__new__")),(on (.bool Q4))]⟩
noncomputable def b429:RA:=⟨(.type "getset_descriptor"),QY,(.fields #[(.str "__dict__" 730),(.ref 428),(.builtin "function.__dict__"),(.builtin "function.__dict__#set")]),#[]⟩
noncomputable def b430:RA:=⟨(.type "getset_descriptor"),QY,(.fields #[(.str "__weakref__" 732),(.ref 428),(.builtin "ExceptionGroup.__weakref__"),.none]),#[]⟩
noncomputable def b431:RA:=⟨(.type "super"),QY,(.fields #[(.ref 428),(.ref 428),(.ref 428)]),#[]⟩
def b432:RA:=B3 428
def b435:RA:=tS 743 ["k","many"]
def b437:RA:=fB "check_number" "check_number" (c4 47)
def OE:RA:=cG "check_number" 740 226 2 0 433 181 745
def HK:RA:=fM "edgetally.order" 738 "check_number" 47 438
def b442:RA:=tS 751 ["net","level","rests","told","counts","tables","dealings"]
def b444:RA:=fB "steps_counted" "steps_counted" (c4 48)
def OD:RA:=cG "steps_counted" 748 229 3 0 440 181 758
def HJ:RA:=fM "edgetally.order" 738 "steps_counted" 48 445
def b449:RA:=tS 764 ["numbered","k","at"]
def b451:RA:=fB "falls_to" "falls_to" (c4 49)
def OC:RA:=cG "falls_to" 761 235 2 0 447 181 767
def HI:RA:=fM "edgetally.order" 738 "falls_to" 49 452
def b456:RA:=fB "kth_table" "kth_table" (c4 50)
def OB:RA:=cF "kth_table" 770 241 2 0 454 181 773
def HH:RA:=fM "edgetally.order" 738 "kth_table" 50 457
def b461:RA:=fB "columns_asked" "columns_asked" (c4 51)
def OA:RA:=cF "columns_asked" 776 251 2 0 459 181 779
def HG:RA:=fM "edgetally.order" 738 "columns_asked" 51 462
def b466:RA:=tS 785 ["net","level","rests","filling","tables_ahead","dealings_ahead","counts","tables","dealings"]
def b468:RA:=fB "counted_ahead" "counted_ahead" (c4 52)
def Oz:RA:=cG "counted_ahead" 782 256 4 0 464 181 794
def HF:RA:=fM "edgetally.order" 738 "counted_ahead" 52 469
def b473:RA:=tS 800 ["net","rows","rests","first","many","level","filling"]
def b475:RA:=fB "stretch" "stretch" (c4 53)
def Oy:RA:=cG "stretch" 797 265 2 0 471 181 807
def HE:RA:=fM "edgetally.order" 738 "stretch" 53 476
def b480:RA:=fB "two_joined" "two_joined" (c4 55)
def Ox:RA:=cF "two_joined" 812 275 3 0 478 181 815
def HD:RA:=fM "edgetally.table" 810 "two_joined" 55 481
def b485:RA:=⟨(.type "dict"),QY,(.dict #[(E P "__module__" 825 p_),(E P "__qualname__" 827 (.str "Table" 826)),(E P "__firstlineno__" 829 (.int 284 828)),(eR P "__init__" 835 494),(eR P "__eq__" 843 501),(eR P "__len__" 850 508),(eR P "__str__" 856 513),(eR P "__repr__" 863 520),(eR P "cells" 869 525),(eR P "rowsums" 875 530),(eR P "columnsums" 881 535),(eR P "total" 888 542),(eR P "turned" 895 549),(eR P "joined" 906 557),(eR P "parted" 917 565),(eR P "more" 930 573),(eR P "__static_attributes__" 932 574)] 17),#[]⟩
def b487:RA:=nT [286,4,493,290,4,500,293,4,507,296,4,512,299,4,519,302,4,524,305,4,529,308,4,534,311,4,541,314,4,548,317,4,556,322,4,564,325,4,572]
def b488:RA:=cC "Table" "Table" 820 284 0 0 0 0 486 Q9 181 487 .none .none .none .none 823 284 824
def b489:RA:=⟨(.type "frame"),QY,.plain,#[(on (.ref 488)),(on (.ref 3)),(on (.ref 485)),QY,(on p_),QY,(on (.ref 0))]⟩
def b492:RA:=fB "__init__" "Table.__init__" (af (c4 56) 0)
def Ov:RA:=cC "__init__" "Table.__init__" 830 286 2 0 0 3 490 Q4 181 491 .none .none .none (.ref 492) 833 286 834
def HC:RA:=fO (FN "__init__" "Table.__init__" (af (c4 56) 0) .none .none .none p_ QY (.ref 493) .none)
def b497:RA:=tS 839 ["self","other"]
def b499:RA:=fB "__eq__" "Table.__eq__" (af (c4 56) 1)
def b500:RA:=cC "__eq__" "Table.__eq__" 836 290 2 0 0 3 495 Q4 181 496 .none (.ref 497) (.ref 498) (.ref 499) 841 290 842
def b501:RA:=fO (FN "__eq__" "Table.__eq__" (af (c4 56) 1) .none .none .none p_ QY (.ref 500) .none)
def b504:RA:=tS 847 ["self"]
def b506:RA:=fB "__len__" "Table.__len__" (af (c4 56) 2)
def b507:RA:=cC "__len__" "Table.__len__" 844 293 1 0 0 3 502 Q4 181 503 .none (.ref 504) (.ref 505) (.ref 506) 848 293 849
def b508:RA:=fO (FN "__len__" "Table.__len__" (af (c4 56) 2) .none .none .none p_ QY (.ref 507) .none)
def b511:RA:=fB "__str__" "Table.__str__" (af (c4 56) 3)
def b512:RA:=cC "__str__" "Table.__str__" 851 296 1 0 0 3 509 Q4 181 510 .none .none .none (.ref 511) 854 296 855
def b513:RA:=fO (FN "__str__" "Table.__str__" (af (c4 56) 3) .none .none .none p_ QY (.ref 512) .none)
def b516:RA:=tS 860 ["self"]
def b518:RA:=fB "__repr__" "Table.__repr__" (af (c4 56) 4)
def b519:RA:=cC "__repr__" "Table.__repr__" 857 299 1 0 0 3 514 Q4 181 515 .none (.ref 516) (.ref 517) (.ref 518) 861 299 862
def b520:RA:=fO (FN "__repr__" "Table.__repr__" (af (c4 56) 4) .none .none .none p_ QY (.ref 519) .none)
def b523:RA:=fB "cells" "Table.cells" (af (c4 56) 5)
def Ou:RA:=cC "cells" "Table.cells" 864 302 1 0 0 3 521 Q4 181 522 .none .none .none (.ref 523) 867 302 868
def HB:RA:=fO (FN "cells" "Table.cells" (af (c4 56) 5) .none .none .none p_ QY (.ref 524) .none)
def b528:RA:=fB "rowsums" "Table.rowsums" (af (c4 56) 6)
def Ot:RA:=cC "rowsums" "Table.rowsums" 870 305 1 0 0 3 526 Q4 181 527 .none .none .none (.ref 528) 873 305 874
def HA:RA:=fO (FN "rowsums" "Table.rowsums" (af (c4 56) 6) .none .none .none p_ QY (.ref 529) .none)
def b533:RA:=fB "columnsums" "Table.columnsums" (af (c4 56) 7)
def Os:RA:=cC "columnsums" "Table.columnsums" 876 308 1 0 0 3 531 Q4 181 532 .none .none .none (.ref 533) 879 308 880
def GZ:RA:=fO (FN "columnsums" "Table.columnsums" (af (c4 56) 7) .none .none .none p_ QY (.ref 534) .none)
def b538:RA:=tS 885 ["self"]
def b540:RA:=fB "total" "Table.total" (af (c4 56) 8)
def b541:RA:=cC "total" "Table.total" 882 311 1 0 0 3 536 Q4 181 537 .none (.ref 538) (.ref 539) (.ref 540) 886 311 887
def b542:RA:=fO (FN "total" "Table.total" (af (c4 56) 8) .none .none .none p_ QY (.ref 541) .none)
def b545:RA:=tS 892 ["self"]
def b547:RA:=fB "turned" "Table.turned" (af (c4 56) 9)
def b548:RA:=cC "turned" "Table.turned" 889 314 1 0 0 3 543 Q4 181 544 .none (.ref 545) (.ref 546) (.ref 547) 893 314 894
def b549:RA:=fO (FN "turned" "Table.turned" (af (c4 56) 9) .none .none .none p_ QY (.ref 548) .none)
def Oq:RA:=⟨(.type "dict"),QY,(.dict #[(E P "rows" 896 (.bool Q4))] 1),#[]⟩
def b553:RA:=tS 900 ["self","one","other","rows"]
def b555:RA:=fB "joined" "Table.joined" (af (c4 56) 10)
def Op:RA:=cC "joined" "Table.joined" 897 317 3 0 1 3 551 Q4 181 552 .none (.ref 553) (.ref 554) (.ref 555) 904 317 905
def GY:RA:=fO (FN "joined" "Table.joined" (af (c4 56) 10) .none (.ref 550) .none p_ QY (.ref 556) .none)
def b558:RA:=⟨(.type "dict"),QY,(.dict #[(E P "rows" 907 (.bool Q4))] 1),#[]⟩
def b561:RA:=tS 911 ["self","one","taken","rows"]
def b563:RA:=fB "parted" "Table.parted" (af (c4 56) 11)
def b564:RA:=cC "parted" "Table.parted" 908 322 3 0 1 3 559 Q4 181 560 .none (.ref 561) (.ref 562) (.ref 563) 915 322 916
def b565:RA:=fO (FN "parted" "Table.parted" (af (c4 56) 11) .none (.ref 558) .none p_ QY (.ref 564) .none)
def b566:RA:=⟨(.type "dict"),QY,(.dict #[(E P "many" 919 (.int 1 918))] 1),#[]⟩
def b569:RA:=tS 923 ["self","row","column","many","told"]
def b571:RA:=fB "more" "Table.more" (af (c4 56) 12)
def b572:RA:=cC "more" "Table.more" 920 325 3 0 1 3 567 Q4 181 568 .none (.ref 569) (.ref 570) (.ref 571) 928 325 929
def b573:RA:=fO (FN "more" "Table.more" (af (c4 56) 12) .none (.ref 566) .none p_ QY (.ref 572) .none)
def b574:RA:=tS 931 ["counts"]
def Oo:RA:=⟨(.type "dict"),QY,(.dict #[(E P "__module__" 825 p_),(E P "__firstlineno__" 829 (.int 284 828)),(eR P "__init__" 835 494),(eR P "__eq__" 843 501),(eR P "__len__" 850 508),(eR P "__str__" 856 513),(eR P "__repr__" 863 520),(eR P "cells" 869 525),(eR P "rowsums" 875 530),(eR P "columnsums" 881 535),(eR P "total" 888 542),(eR P "turned" 895 549),(eR P "joined" 906 557),(eR P "parted" 917 565),(eR P "more" 930 573),(eR P "__static_attributes__" 932 574),(eR P "__dict__" 934 577),(eR P "__weakref__" 936 578),(E P "__doc__" 937 .none),(E P "__hash__" 938 .none)] 5),#[]⟩
noncomputable def On:RA:=⟨(.type "type"),QY,(.cls ⟨"Table",[(.type "object")],[(.ref 576),(.type "object")],575,"Table",Q4,[],[],Q9,QY,Q9⟩),#[QY,QY,(on (.str "Table" 818)),(on (.str "Table" 826)),(on (.builtin "object.__new__")),(on (.bool Q4))]⟩
noncomputable def b577:RA:=⟨(.type "getset_descriptor"),QY,(.fields #[(.str "__dict__" 933),(.ref 576),(.builtin "function.__dict__"),(.builtin "function.__dict__#set")]),#[]⟩
noncomputable def b578:RA:=⟨(.type "getset_descriptor"),QY,(.fields #[(.str "__weakref__" 935),(.ref 576),(.builtin "ExceptionGroup.__weakref__"),.none]),#[]⟩
noncomputable def b579:RA:=⟨(.type "super"),QY,(.fields #[(.ref 576),(.ref 576),(.ref 576)]),#[]⟩
def b580:RA:=B3 576
def b583:RA:=fB "_law_bag" "_law_bag" (c4 58)
def Om:RA:=cF "_law_bag" 943 331 1 0 581 181 946
def GX:RA:=fL "_law_bag" "_law_bag" 58 584
def b588:RA:=tS 952 ["_law_bag_here","_law_lot","_law_cells","_law_at","_law_cell"]
def b590:RA:=fB "_law_pull" "_law_pull" (c4 59)
def Ol:RA:=cG "_law_pull" 949 333 2 0 586 181 957
def GW:RA:=fL "_law_pull" "_law_pull" 59 591
def b595:RA:=fB "_law_grid" "_law_grid" (c4 60)
def Oj:RA:=cF "_law_grid" 960 343 4 0 593 181 963
def GV:RA:=fL "_law_grid" "_law_grid" 60 596
def b600:RA:=fB "_law_turned" "_law_turned" (c4 61)
def Oi:RA:=cF "_law_turned" 966 350 1 0 598 181 969
def GU:RA:=fL "_law_turned" "_law_turned" 61 601
def b605:RA:=fB "_law_rowsums" "_law_rowsums" (c4 62)
def Oh:RA:=cF "_law_rowsums" 972 352 1 0 603 181 975
def GT:RA:=fL "_law_rowsums" "_law_rowsums" 62 606
def b610:RA:=fB "_law_columnsums" "_law_columnsums" (c4 63)
def Og:RA:=cF "_law_columnsums" 978 354 1 0 608 181 981
def GS:RA:=fL "_law_columnsums" "_law_columnsums" 63 611
def b615:RA:=fB "_law_free" "_law_free" (c4 64)
def Of:RA:=cF "_law_free" 984 356 2 0 613 181 987
def GR:RA:=fL "_law_free" "_law_free" 64 616
def b620:RA:=fB "_law_copied" "_law_copied" (c4 65)
def Oe:RA:=cF "_law_copied" 990 358 1 0 618 181 993
def GQ:RA:=fL "_law_copied" "_law_copied" 65 621
def b625:RA:=fB "_law_fit" "_law_fit" (c4 66)
def Od:RA:=cF "_law_fit" 996 360 3 0 623 181 999
def GP:RA:=fL "_law_fit" "_law_fit" 66 626
def b630:RA:=fB "_law_less" "_law_less" (c4 67)
def Oc:RA:=cF "_law_less" 1002 369 2 0 628 181 1005
def GO:RA:=fL "_law_less" "_law_less" 67 631
def b635:RA:=fB "_law_listing" "_law_listing" (c4 68)
def Ob:RA:=cF "_law_listing" 1008 371 3 0 633 181 1011
def GN:RA:=fL "_law_listing" "_law_listing" 68 636
def b640:RA:=tS 1017 ["_law_grid_here","_law_limits"]
def b642:RA:=fB "_law_all" "_law_all" (c4 69)
def Oa:RA:=cG "_law_all" 1014 380 2 0 638 181 1019
def GM:RA:=fL "_law_all" "_law_all" 69 643
def b647:RA:=tS 1025 ["_law_script","_law_bag_here","_law_grid_here","_law_down","_law_lot","_law_one","_law_other","_law_table","_law_net","_law_joined","_law_block","_law_first","_law_behind","_law_total","_law_columns","_law_before","_law_start","_law_stop"]
def b649:RA:=fB "law" "law" (c4 70)
def N9:RA:=cG "law" 1022 382 1 0 645 181 1043
def GL:RA:=fL "law" "law" 70 650
def h0_3:RA:=⟨(.type "dict"),QY,(.dict (((mL P).take 9).set 0 (E P "__name__" 165 tx3)).toArray 9),#[]⟩
def QG:RA:=nO []
def h1_3:RA:=⟨(.type "dict"),QY,(.dict (((mL P).take 9).set 0 (E P "__name__" 165 tx3)).toArray 9),#[]⟩
def Qz:RA:=nT [1,0,20,5,0,27,10,0,47,14,0,67,18,0,87]
def k1_3:RA:=⟨(.type "dict"),QY,(.dict (((mL P).take 14).set 0 (E P "__name__" 165 h8)).toArray 14),#[]⟩
def Qy:RA:=⟨(.type "type"),QY,(.cls ⟨"EdgeError",[(.type "ValueError")],[(.ref 38),(.type "ValueError"),(.type "Exception"),(.type "BaseException"),(.type "object")],37,"EdgeError",Q4,[],[(.ref 59),(.ref 79),(.ref 99)],Q9,QY,Q9⟩),#[(on (.ref 22)),QY,(on (.str "EdgeError" 196)),(on tx4),(on (.builtin "ValueError.__new__")),(on (.bool Q4))]⟩
def Qx:RA:=nT [1,0,20,5,0,27,10,0,47,14,0,67,18,0,87,22,0,107,27,0,126,33,0,145,37,0,165]
def k2_3:RA:=⟨(.type "dict"),QY,(.dict (((mL P).take 18).set 0 (E P "__name__" 165 h8)).toArray 18),#[]⟩
def Qw:RA:=⟨(.type "type"),QY,(.cls ⟨"EdgeError",[(.type "ValueError")],[(.ref 38),(.type "ValueError"),(.type "Exception"),(.type "BaseException"),(.type "object")],37,"EdgeError",Q4,[],[(.ref 59),(.ref 79),(.ref 99),(.ref 118),(.ref 137),(.ref 157),(.ref 177)],Q9,QY,Q9⟩),#[(on (.ref 22)),QY,(on (.str "EdgeError" 196)),(on tx4),(on (.builtin "ValueError.__new__")),(on (.bool Q4))]⟩
def Qv:RA:=nT [1,0,20,5,0,27,10,0,47,14,0,67,18,0,87,22,0,107,27,0,126,33,0,145,37,0,165,41,0,185,50,0,205,52,0,210,64,0,215,75,0,222,78,0,229,81,0,236,85,0,241,94,0,246,97,0,253,102,0,260,110,0,265,120,0,270,122,0,275,125,0,280,127,0,285,129,0,290,131,0,295,136,0,302,143,0,309,149,0,316,154,0,321,156,0,326,158,0,331]
def k3_3:RA:=⟨(.type "dict"),QY,(.dict (((mL P).take 47).set 0 (E P "__name__" 165 ss)).toArray 47),#[]⟩
def Qu:RA:=nT [1,0,20,5,0,27,10,0,47,14,0,67,18,0,87,22,0,107,27,0,126,33,0,145,37,0,165,41,0,185,50,0,205,52,0,210,64,0,215,75,0,222,78,0,229,81,0,236,85,0,241,94,0,246,97,0,253,102,0,260,110,0,265,120,0,270,122,0,275,125,0,280,127,0,285,129,0,290,131,0,295,136,0,302,143,0,309,149,0,316,154,0,321,156,0,326,158,0,331,166,0,338,174,0,343,184,0,350,226,0,438,229,0,445,235,0,452,241,0,457,251,0,462,256,0,469,265,0,476,275,0,481]
def k4_3:RA:=⟨(.type "dict"),QY,(.dict (((mL P).take 58).set 0 (E P "__name__" 165 p_)).toArray 58),#[]⟩
def kL:List RA:=[b0 P,b1 P,b2,b3 P,b4,b5,b6,b7,b8,b9,b10,b7,b12,b13,b14,b7,b8,b17,b7,b19,b20,b21,b22,B6,b24 P,b7,b26,b27,b28,b7,b8,b31,b7,b33,b34,b35,b36,b37 P,b38,b39,b40,b41,L_,B6,b44 P,b7,b46,b47,b48,b49,b7,b8,b52,b7,b54,b55,b56,b7,b58 P,b59,b60,b61,L_,B6,b64 P,b7,b66,b67,b68,b69,b7,b8,b72,b7,b74,b75,b76,b7,b78 P,b79,b80,b81,L_,B6,b84 P,b7,b86,b87,b88,b89,b7,b8,b92,b7,b94,b95,b96,b7,b98 P,b99,b100,b101,L_,B6,b104 P,b7,b106,b107,b108,b7,b8,b111,b7,b113,b114,b115,b116,b117 P,b118,b119,b120,L_,B6,b123 P,b7,b125,b126,b127,b7,b8,b130,b7,b132,b133,b134,b135,b136 P,b137,b138,b139,L_,B6,b142 P,b7,b144,b145,b146,b147,b7,b8,b150,b7,b152,b153,b154,b7,b156 P,b157,b158,b159,L_,B6,b162 P,b7,b164,b165,b166,b167,b7,b8,b170,b7,b172,b173,b174,b7,b176 P,b177,b178,b179,L_,B6,b182 P,b7,b184,b185,b186,b187,b7,b8,b190,b7,b192,b193,b194,b7,b196 P,b197,b198,b199,Pf,Pe P,b7,b8,b204,Pd,IS,b7,b8,b209,Pc,IR,b7,b8,b214,Pb,IQ,b7,b8,b219,b7,b221,Pa,IO,b7,b8,b226,b7,b228,b229,b230,b7,b8,b233,b7,b235,O9,IN,b7,b8,b240,O8,IM,b7,b8,b245,O7,IL,b7,b8,b250,b7,b252,O6,IK,b7,b8,b257,b7,b259,O5,IJ,b7,b8,b264,O4,II,b7,b8,b269,O3,IH,b7,b8,b274,O1,IG,b7,b8,b279,O0,IF,b7,b8,b284,OZ,IE,b7,b8,b289,OY,ID,b7,b8,b294,OX,IC,b7,b8,b299,b7,b301,OW,IB,b7,b8,b306,b7,b308,OV,IA,b7,b8,b313,b7,b315,OU,HZ,b7,b8,b320,OT,HY,b7,b8,b325,OS,HX,b7,b8,b330,OR,HW,b7,b8,b335,b7,b337,OQ,HV,b7,b8,b342,OP,HU,b7,B6,b347 P,b7,b349,b350,b351,OO P,b7,b8,b355,b7,b357,ON,HS,b7,b8,b362,b7,b364,b365,b366,b7,b8,b369,b7,b371,b372,b373,b7,b8,b376,b7,b378,OM,HR,b7,b8,b383,b7,b385,OL,HQ,b7,b8,b390,b391,b392,b7,b8,b395,b7,b397,OK,HP,b7,b8,b402,b7,b404,OJ,HN,b7,b8,b409,b7,b411,OI,HM,b7,b8,b416,OH,HL,b7,b8,b421,b7,b423,b424,b425,b426,OG P,OF,b429,b430,b431,b432,b7,b8,b435,b7,b437,OE,HK,b7,b8,b442,b7,b444,OD,HJ,b7,b8,b449,b7,b451,OC,HI,b7,b8,b456,OB,HH,b7,b8,b461,OA,HG,b7,b8,b466,b7,b468,Oz,HF,b7,b8,b473,b7,b475,Oy,HE,b7,b8,b480,Ox,HD,b7,B6,b485 P,b7,b487,b488,b489,b7,b8,b492,Ov,HC,b7,b8,b497,b7,b499,b500,b501,b7,b8,b504,b7,b506,b507,b508,b7,b8,b511,b512,b513,b7,b8,b516,b7,b518,b519,b520,b7,b8,b523,Ou,HB,b7,b8,b528,Ot,HA,b7,b8,b533,Os,GZ,b7,b8,b538,b7,b540,b541,b542,b7,b8,b545,b7,b547,b548,b549,Oq P,b7,b8,b553,b7,b555,Op,GY,b558 P,b7,b8,b561,b7,b563,b564,b565,b566 P,b7,b8,b569,b7,b571,b572,b573,b574,Oo P,On,b577,b578,b579,b580,b7,b8,b583,Om,GX,b7,b8,b588,b7,b590,Ol,GW,b7,b8,b595,Oj,GV,b7,b8,b600,Oi,GU,b7,b8,b605,Oh,GT,b7,b8,b610,Og,GS,b7,b8,b615,Of,GR,b7,b8,b620,Oe,GQ,b7,b8,b625,Od,GP,b7,b8,b630,Oc,GO,b7,b8,b635,Ob,GN,b7,b8,b640,b7,b642,Oa,GM,b7,b8,b647,b7,b649,N9,GL]
def Ty:SE:=⟨⟨((kL P).take 11).set 3 (h0_3 P)⟩,{}⟩
def h1H:SE:=⟨⟨(((kL P).take 15).set 3 (h1_3 P)).set 12 (QG)⟩,{}⟩
def k1H:SE:=⟨⟨((((kL P).take 102).set 3 (k1_3 P)).set 12 (Qz)).set 38 (Qy)⟩,{}⟩
def k2H:SE:=⟨⟨((((kL P).take 180).set 3 (k2_3 P)).set 12 (Qx)).set 38 (Qw)⟩,{}⟩
def k3H:SE:=⟨⟨(((kL P).take 333).set 3 (k3_3 P)).set 12 (Qv)⟩,{}⟩
def k4H:SE:=⟨⟨(((kL P).take 483).set 3 (k4_3 P)).set 12 (Qu)⟩,{}⟩
noncomputable def k5H:SE:=⟨⟨kL P⟩,{}⟩
end
def KH:Yp->RB:=λP=>
[(2,b2),(3,b3 P),(34,b34),(35,b35),(37,b37 P),(38,b38),(200,Pf),(201,Pe P),(205,Pd),(206,IS),(210,Pc),(211,IR),(215,Pb),(216,IQ),(222,Pa),(223,IO),(236,O9),(237,IN),(241,O8),(242,IM),(246,O7),(247,IL),(253,O6),(254,IK),(260,O5),(261,IJ),(265,O4),(266,II),(270,O3),(271,IH),(275,O1),(276,IG),(280,O0),(281,IF),(285,OZ),(286,IE),(290,OY),(291,ID),(295,OX),(296,IC),(302,OW),(303,IB),(309,OV),(310,IA),(316,OU),(317,HZ),(321,OT),(322,HY),(326,OS),(327,HX),(331,OR),(332,HW),(338,OQ),(339,HV),(343,OP),(344,HU),(352,OO P),(358,ON),(359,HS),(379,OM),(380,HR),(386,OL),(387,HQ),(398,OK),(399,HP),(405,OJ),(406,HN),(412,OI),(413,HM),(417,OH),(418,HL),(427,OG P),(428,OF),(438,OE),(439,HK),(445,OD),(446,HJ),(452,OC),(453,HI),(457,OB),(458,HH),(462,OA),(463,HG),(469,Oz),(470,HF),(476,Oy),(477,HE),(481,Ox),(482,HD),(493,Ov),(494,HC),(524,Ou),(525,HB),(529,Ot),(530,HA),(534,Os),(535,GZ),(550,Oq P),(556,Op),(557,GY),(575,Oo P),(576,On),(584,Om),(585,GX),(591,Ol),(592,GW),(596,Oj),(597,GV),(601,Oi),(602,GU),(606,Oh),(607,GT),(611,Og),(612,GS),(616,Of),(617,GR),(621,Oe),(622,GQ),(626,Od),(627,GP),(631,Oc),(632,GO),(636,Ob),(637,GN),(643,Oa),(644,GM),(650,N9),(651,GL)]
noncomputable def aH:List Q6:=[2,3,34,35,37,38,200,201,205,206,210,211,215,216,222,223,236,237,241,242,246,247,253,254,260,261,265,266,270,271,275,276,280,281,285,286,290,291,295,296,302,303,309,310,316,317,321,322,326,327,331,332,338,339,343,344,352,358,359,379,380,386,387,398,399,405,406,412,413,417,418,427,428,438,439,445,446,452,453,457,458,462,463,469,470,476,477,481,482,493,494,524,525,529,530,534,535,550,556,557,575,576,584,585,591,592,596,597,601,602,606,607,611,612,616,617,621,622,626,627,631,632,636,637,643,644,650,651]
theorem eH:∀P,aH=(KH P).map (·.1):=λ_=>by kernel_rfl
noncomputable def qH:RT:={PySem.Challenge.pw_edgetally_k53_whole_joined_shares with main:={PySem.Challenge.pw_edgetally_k53_whole_joined_shares.main with body:=[c4 0,c4 2,c4 3,c4 4,c4 5,c4 6,c4 7,c4 8,c4 9,c4 10,c4 12,c4 13,c4 14,c4 15,c4 17,c4 18,c4 19,c4 20,c4 21,c4 22,c4 23,c4 25,c4 26,c4 27,c4 29,c4 30,c4 31,c4 32,c4 33,c4 34,c4 35,c4 37,c4 38,c4 39,c4 40,c4 41,c4 42,c4 43,c4 44,c4 45,c4 47,c4 48,c4 49,c4 50,c4 51,c4 52,c4 53,c4 55,c4 56,c4 58,c4 59,c4 60,c4 61,c4 62,c4 63,c4 64,c4 65,c4 66,c4 67,c4 68,c4 69,c4 70]}}
noncomputable abbrev lvH:List (R3×PySem.W.WData):=[("FREE",PySem.W.WData.tuple [Ym 0,Ym 40])]
noncomputable abbrev loH:List R3:=["BadTable","BadSums","BadBounds","BadCell","BadNumber","NoTable","FREE","free","Net","Table"]
abbrev hkH:=PySem.W.kHook KH aH eH
def xtH(s:Rg):Bool:=PySem.W.xlAt qH lvH s&&PySem.W.recOk (PySem.W.RowW.records (TR (T3 RW))) s
noncomputable abbrev pH:RT:=Yq (TR (T3 RW))
noncomputable def I_:List Sy:=PySem.W.behindTheImports pH
noncomputable def L4:Yi:={scope:=pH.main.scope,locals:=mainNs,globals:=mainNs,cells:=[],code:=(.ref 13),frame:=(on 14)}
def cH:Code:= .body I_ L4
noncomputable abbrev L1:List Frame:=[PySem.W.topFrame ⟨0,0,0,0⟩]
theorem opH(w:R8):(PySem.W.fencedOpening Tf pH w 9764).map (λs=>(s.heap,s.gens,s.drawn,s.toks))=on (Ty w.params,#[],{},181):=by kernel_rfl
theorem szH(w:R8):((Ty w.params).isNs TL&&(#[]:Array GenState).size==0,(Ty w.params).objs.size,(Ty w.params).nsMap TL "__annotations__")=(Q4,11,(on (.ref 6))):=by kernel_rfl
theorem r1H(w:R8)(os:WJ):PySem.W.topGo Tf pH w 11 (on (.ref 6)) 12 ⟨Ty w.params,#[],{},181,os⟩ (ZZ pH)=on (⟨h1H w.params,#[],{},187,os⟩,⟨denote Tf (.body I_ L4),cH,⟨0,0,0,0⟩,L1⟩):=by kernel_rfl
theorem r2H(w:R8)(os:WJ):Vb Tf pH w 11 (on (.ref 6)) 1 1 ⟨h1H w.params,#[],{},187,os⟩ (PySem.W.blockOf I_ L4 cH ⟨0,0,0,0⟩ L1)=on (.next,⟨h1H w.params,#[],{},187,os⟩,cH,⟨0,0,0,0⟩):=by kernel_rfl
theorem c1H(w:R8)(os:WJ):Vb Tf pH w 11 (on (.ref 6)) 1 996 ⟨h1H w.params,#[],{},187,os⟩ (Vi (I_.take 6) L4 cH ⟨0,0,0,0⟩ L1)=on (.next,⟨k1H w.params,#[],{},299,os⟩,cH,⟨18,0,21,47⟩):=by kernel_rfl
theorem c2H(w:R8)(os:WJ):Vb Tf pH w 11 (on (.ref 6)) 1 985 ⟨k1H w.params,#[],{},299,os⟩ (Vi ((I_.drop 6).take 4) L4 cH ⟨18,0,21,47⟩ L1)=on (.next,⟨k2H w.params,#[],{},401,os⟩,cH,⟨37,0,40,47⟩):=by kernel_rfl
theorem c3H(w:R8)(os:WJ):Vb Tf pH w 11 (on (.ref 6)) 1 980 ⟨k2H w.params,#[],{},401,os⟩ (Vi (((I_.drop 6).drop 4).take 33) L4 cH ⟨37,0,40,47⟩ L1)=on (.next,⟨k3H w.params,#[],{},610,os⟩,cH,⟨158,0,165,15⟩):=by kernel_rfl
theorem c4H(w:R8)(os:WJ):Vb Tf pH w 11 (on (.ref 6)) 1 873 ⟨k3H w.params,#[],{},610,os⟩ (Vi ((((I_.drop 6).drop 4).drop 33).take 13) L4 cH ⟨158,0,165,15⟩ L1)=on (.next,⟨k4H w.params,#[],{},818,os⟩,cH,⟨275,0,283,15⟩):=by kernel_rfl
theorem c5H(w:R8)(os:WJ):Vb Tf pH w 11 (on (.ref 6)) 1 990 ⟨k4H w.params,#[],{},818,os⟩ (Vi (((((I_.drop 6).drop 4).drop 33).drop 13).take 15) L4 cH ⟨275,0,283,15⟩ L1)=on (.next,⟨k5H w.params,#[],{},1046,os⟩,cH,⟨382,0,402,98⟩):=by kernel_rfl
theorem e0H:(((((I_.drop 6).drop 4).drop 33).drop 13).drop 15)=[]:=by kernel_rfl
theorem r9H(w:R8)(os:WJ):PySem.W.topRun Tf pH w 11 (on (.ref 6)) 2 ⟨k5H w.params,#[],{},1046,os⟩ ⟨PySem.W.doneF .next,cH,⟨382,0,402,98⟩,L1⟩=on ⟨k5H w.params,#[],{},1046,os⟩:=by kernel_rfl
theorem rnH(w:R8)(os:WJ):PySem.W.topRun Tf pH w 11 (on (.ref 6)) (12+(1+(996+(985+(980+(873+(990+2))))))) ⟨Ty w.params,#[],{},181,os⟩ (ZZ pH)=on ⟨k5H w.params,#[],{},1046,os⟩:=PySem.W.go_top (r1H w os) (PySem.W.piece_block (r2H w os) (jh 6 (c1H w os) (jh 4 (c2H w os) (jh 33 (c3H w os) (jh 13 (c4H w os) (jh 15 (c5H w os) (FU e0H (r9H w os))))))))
theorem hlH:PySem.W.LeftO pH qH loH xtH (PySem.W.Hook.obs hkH) (PySem.W.Hook.val hkH) 9764:=PySem.W.LeftO.of_pieces (H₀:=Ty) (H₁:=k5H) opH szH rnH (by decide +kernel) λw=>by kernel_rfl
theorem wsH:PySem.W.OpenLaw.wellSaid RW=Q4:=by decide +kernel
theorem okH:(PySem.W.chainsOk qH&&PySem.W.opensWell (Yq (TR (T3 RW)))&&(PySem.W.frees (TR (T3 RW))&&(PySem.W.RowW.within (TR (T3 RW))).isEmpty))=Q4:=by decide +kernel
abbrev adH:Ad:={Aa:=38,Ab:=35,Ac:=fD b35,Ae:=428,Af:=576,Ag:=206,Ah:=fD IS,Ai:=211,Aj:=fD IR,Ak:=216,Al:=fD IQ,Am:=223,An:=fD IO,Ao:=237,Aq:=fD IN,Ar:=242,As:=fD IM,At:=247,Au:=fD IL,Av:=254,Aw:=fD IK,Ax:=261,Ay:=fD IJ,Az:=266,A0:=fD II,A1:=271,A2:=fD IH,A3:=276,A4:=fD IG,A5:=281,A6:=fD IF,A7:=286,A8:=fD IE,A9:=291,Ba:=fD ID,Bb:=296,Bc:=fD IC,Bd:=303,Be:=fD IB,Bf:=310,Bh:=fD IA,Bi:=317,Bj:=fD HZ,Bk:=322,Bl:=fD HY,Bm:=327,Bn:=fD HX,Bo:=332,Bp:=fD HW,Bq:=339,Br:=fD HV,Bs:=344,Bt:=fD HU,Bu:=439,Bv:=fD HK,Bw:=446,Bx:=fD HJ,By:=453,Bz:=fD HI,B0:=458,B5:=fD HH,B7:=463,B8:=fD HG,Ca:=470,Cb:=fD HF,Cc:=477,Cd:=fD HE,Cf:=482,Cg:=fD HD,Ch:=585,Ci:=fD GX,Cj:=592,Ck:=fD GW,Cl:=597,Cm:=fD GV,Cn:=602,Co:=fD GU,Cp:=607,Cq:=fD GT,Cr:=612,Cs:=fD GS,Ct:=617,Cu:=fD GR,Cv:=622,Cw:=fD GQ,Cy:=627,Cz:=fD GP,C0:=632,C2:=fD GO,C3:=637,C4:=fD GN,C5:=644,C6:=fD GM,C7:=557,C8:=fD GY,C9:=494,Da:=fD HC,Db:=359,Dc:=fD HS,Dd:=406,Df:=fD HN,Dg:=399,Dh:=fD HP,Di:=380,Dj:=fD HR,Dl:=530,Dm:=fD HA,Do:=387,Dp:=fD HQ,Dq:=535,Dr:=fD GZ,Dt:=418,Du:=fD HL,Dv:=525,Dw:=fD HB,Dx:=413,Dy:=fD HM,Dz:=651,D0:=fD GL}
section
variable{P:Yp}{h:SE}{mg:R3->Option Ra}
theorem fH{x q:R3}{s:Sy}{f:Q6}{a b d e cd ct:Ra}{g:Option Q6}(l:(KH P).lookup f=on (fO (FN x q s a b d e g cd ct)):=by kernel_rfl)(c:VH (KH P) cd q=Q4:=by kernel_rfl)(k:WS (KH P) (.ref f)=Q4:=by kernel_rfl):dq (KH P) x q s f (FN x q s a b d e g cd ct):=Mf l c k
theorem mO(X:(KH P).In h)(G:h.Ns TL mg){n:R3}{v:Ra}(e:PySem.W.nsIn (KH P) TL n=on (on v):=by kernel_rfl):mg n=on v:=mg_of X G e
theorem mN(X:(KH P).In h)(G:h.Ns TL mg){n:R3}(e:PySem.W.nsIn (KH P) TL n=on QY:=by kernel_rfl):mg n=QY:=PySem.W.mg_none_of X G e
theorem nH(X:(KH P).In h)(G:h.Ns TL mg):F3 (KH P) mg adH where
 D3:=mN X G
 D4:=mN X G
 D5:=mN X G
 D6:=mN X G
 D7:=mN X G
 D8:=mN X G
 D9:=mN X G
 Ea:=mN X G
 Eb:=mN X G
 Ec:=mN X G
 Ed:=mN X G
 Ee:=mN X G
 Ef:=mN X G
 Eg:=mN X G
 Eh:=mN X G
 Ei:=qJ (u:=(.int 40 428)) (mO X G) nu
 Ej:=qJ (u:=(.int 6 432)) (mO X G) nu
 Ek:=qJ (u:=(.int 4 430)) (mO X G) nu
 El:=qJ (u:=(.int 500 571)) (mO X G) nu
 Em:=fH
 En:=mO X G
 Eo:=CA (us:=[(.ref 200)]) 2 rfl (λs us a b=>by obtain⟨c,d,rfl⟩:=lU2 b;exact ZF a λS=>by kernel_rfl) (xw (KV (p:=200) (q1:=(.type "tuple")) (q2:=QY) (q3:=#[(.int 0 434),(.int 40 428)]) (q4:=0) (q5:=#[]) (by kernel_rfl) rfl (by decide) (by repeat (first|exact trivial|refine⟨rfl,?_⟩))) BY)
 Ep:=fH
 Er:=mO X G
 Es:= .all (oD λ_=>rfl)
 Et:=fH
 Eu:=mO X G
 Ev:= .all (wh λ_ _=>rfl)
 Ew:=fH
 Ex:=mO X G
 Ey:= .all (wh λ_ _=>rfl)
 Ez:=fH
 E2:=mO X G
 E3:= .all (oD λ_=>rfl)
 E4:=fH
 E5:=mO X G
 E6:= .all (si λ_ _ _=>rfl)
 E7:=fH
 E8:=mO X G
 E9:= .all (oD λ_=>rfl)
 Fa:=fH
 Fb:=mO X G
 Fc:= .all (oD λ_=>rfl)
 Fd:=fH
 Fe:=mO X G
 Ff:= .all (oD λ_=>rfl)
 Fg:=fH
 Fh:=mO X G
 Fi:= .all (si λ_ _ _=>rfl)
 Fj:=fH
 Fk:=mO X G
 Fl:= .all (wh λ_ _=>rfl)
 Fm:=fH
 Fn:=mO X G
 Fo:= .all (bA4 λ_ _ _ _=>rfl)
 Fp:=fH
 Fq:=mO X G
 Fs:= .all (si λ_ _ _=>rfl)
 Ft:=fH
 Fu:=mO X G
 Fv:= .all (bA4 λ_ _ _ _=>rfl)
 Fw:=fH
 Fy:=mO X G
 Fz:= .all (si λ_ _ _=>rfl)
 F4:=fH
 F5:=mO X G
 F6:= .all (oD λ_=>rfl)
 F7:=fH
 F8:=mO X G
 F9:= .all (si λ_ _ _=>rfl)
 Ga:=fH
 Gb:=mO X G
 Gc:= .all (oD λ_=>rfl)
 Ge:=fH
 Gf:=mO X G
 Gg:= .all (si λ_ _ _=>rfl)
 Gh:=fH
 Gi:=mO X G
 Gj:= .all (bA4 λ_ _ _ _=>rfl)
 Gk:=fH
 Gm:=mO X G
 Gn:= .all (wh λ_ _=>rfl)
 Go:=fH
 Gp:=mO X G
 Gq:= .all (si λ_ _ _=>rfl)
 Gr:=fH
 Gs:=mO X G
 Gu:= .all (si λ_ _ _=>rfl)
 Gx:=fH
 Gy:=mO X G
 Gz:= .all (si λ_ _ _=>rfl)
 G0:=fH
 G1:=mO X G
 G2:= .all (wh λ_ _=>rfl)
 G3:=fH
 G4:=mO X G
 G5:= .all (si λ_ _ _=>rfl)
 G6:=fH
 G7:=mO X G
 G8:= .all (wh λ_ _=>rfl)
 G9:=fH
 Ha:=mO X G
 Hb:= .all (wh λ_ _=>rfl)
 Hc:=fH
 Hd:=mO X G
 He:= .all (wh λ_ _=>rfl)
 Hf:=fH
 Hg:=mO X G
 Hh:= .all (bA4 λ_ _ _ _=>rfl)
 Hi:=fH
 Hj:=mO X G
 Hk:= .all (wh λ_ _=>rfl)
 Hl:=fH
 Hm:=mO X G
 Hn:= .all (si λ_ _ _=>rfl)
 Ho:=fH
 Hq:=mO X G
 Hr:= .all (oD λ_=>rfl)
 Ht:=fH
 Hu:=mO X G
 Hv:= .all (wh λ_ _=>rfl)
 Hw:=fH
 Hx:=mO X G
 Hy:= .all (bA4 λ_ _ _ _=>rfl)
 Hz:=fH
 Ia:=mO X G
 Ib:= .all (oD λ_=>rfl)
 Id:=fH
 Ie:=mO X G
 Ig:= .all (oD λ_=>rfl)
 Ih:=fH
 Ii:=mO X G
 Ij:= .all (oD λ_=>rfl)
 Ik:=fH
 Il:=mO X G
 Im:= .all (wh λ_ _=>rfl)
 Io:=fH
 Ip:=mO X G
 Iq:= .all (oD λ_=>rfl)
 Ir:=fH
 Iu:=mO X G
 Iw:= .all (si λ_ _ _=>rfl)
 Ix:=fH
 Iy:=mO X G
 Iz:= .all (wh λ_ _=>rfl)
 I0:=fH
 I9:=mO X G
 Ja:= .all (si λ_ _ _=>rfl)
 Jb:=fH
 Jc:=mO X G
 Jd:= .all (wh λ_ _=>rfl)
 Je:=fH
 Jf:=⟨by kernel_rfl,by kernel_rfl,by kernel_rfl⟩
 Jg:=Qt (sv:=[.kw 0]) (.kw .nil) rfl (by decide) λs us i a e f=>by obtain⟨c,d,g,rfl⟩:=lU3 e;obtain⟨j,rfl⟩:=lU1 f;exact .of_eq rfl
 Jh:=fH
 Ji:=⟨by kernel_rfl,by kernel_rfl,by kernel_rfl,by kernel_rfl⟩
 Jj:= .all (wh λ_ _=>rfl)
 Jk:=fH
 Jl:=⟨by kernel_rfl,by kernel_rfl,by kernel_rfl,by kernel_rfl⟩
 Jm:=CA (us:=[.none]) 3 rfl (λs us a b=>by obtain⟨c,d,g,rfl⟩:=lU3 b;exact ZF a λS=>by kernel_rfl) (xw KW BY)
 Jn:=fH
 Jo:=⟨by kernel_rfl,by kernel_rfl,by kernel_rfl⟩
 Jp:= .all (oD λ_=>rfl)
 Jq:=fH
 Jr:=⟨by kernel_rfl,by kernel_rfl,by kernel_rfl⟩
 Js:= .all (si λ_ _ _=>rfl)
 Jt:=fH
 Ju:=⟨by kernel_rfl,by kernel_rfl,by kernel_rfl⟩
 Jv:= .all (oD λ_=>rfl)
 Jw:=fH
 Jx:=⟨by kernel_rfl,by kernel_rfl,by kernel_rfl⟩
 Jy:= .all (oD λ_=>rfl)
 Jz:=fH
 J0:=⟨by kernel_rfl,by kernel_rfl,by kernel_rfl⟩
 J1:= .all (oD λ_=>rfl)
 J2:=fH
 J3:=⟨by kernel_rfl,by kernel_rfl,by kernel_rfl⟩
 J4:= .all (oD λ_=>rfl)
 J5:=fH
 J6:=⟨by kernel_rfl,by kernel_rfl,by kernel_rfl⟩
 J7:= .all (si λ_ _ _=>rfl)
 J8:=fH
 J9:=⟨by kernel_rfl,by kernel_rfl,by kernel_rfl⟩
 Ka:= .all (oD λ_=>rfl)
 Kb:=fH
 Kc:=⟨by kernel_rfl,by kernel_rfl,by kernel_rfl⟩
 Kd:= .all (oD λ_=>rfl)
 Ke:=⟨by kernel_rfl,by kernel_rfl,by kernel_rfl,by kernel_rfl⟩
 Kf:=mO X G
 Kk:=⟨by kernel_rfl,by kernel_rfl,by kernel_rfl,by kernel_rfl⟩
 Kl:=mO X G
 Kg:=show Vc (KH P) _ _=_ by kernel_rfl
 Kh:=show Vc (KH P) _ _=_ by kernel_rfl
 Ki:=show Vc (KH P) _ _=_ by kernel_rfl
 Kj:=show Vc (KH P) _ _=_ by kernel_rfl
 Km:=show Vc (KH P) _ _=_ by kernel_rfl
 Kn:=fH
 Ko:= .all (si λ_ _ _=>rfl)
 Kq:=mO X G
 Kr:=⟨by kernel_rfl,by kernel_rfl,by kernel_rfl,by kernel_rfl⟩
theorem wlkH:PySem.W.WalkO qH loH (PySem.W.XL qH lvH) (PySem.W.Hook.says hkH) (TR (T3 RW)) (Option.get (PySem.W.defOf qH "law") rfl).1 [] (λf vs=>ZG f vs):=
 L2.walk_of (n:=63) (k:=8) (x:="_law_script") (CX:=λw=>hY _ w) (sp:=λw=>JO (KH w.params)) rfl (by decide) rfl ⟨rfl,by decide,by decide,rfl⟩ (λw h Y=>PySem.W.kIn_of Y) (λw mg i h c G b=>by
  have e:=b.symm.trans (mg_of c G (v:= .ref 651) (by kernel_rfl));cases e;exact⟨FN "law" "law" (c4 70) .none .none .none (.str "law_edgetally_k53_whole_joined_shares" 941) QY (.ref 650) .none,λs v=> .of_eq rfl,λbase _ _=>NA _ _ _ (a:=adH) (fH (by kernel_rfl) (by kernel_rfl) (by kernel_rfl)) (nH c G) λβ ok=>FH (K:=KH w.params) (a:=adH)  β ok⟩) (λ_ _ a ns d _ g=>⟨a,ns,rfl,g,d,λ_=>rfl⟩) λ_ _ _ _ _ h=>by obtain⟨x,C,j,_,fl⟩:=h;obtain⟨_,_,z⟩:=fl.wish;all_goals exact z
end
end Law
open PySem PySem.W PyProof.Rows
set_option maxHeartbeats 0 in
theorem PySem.Challenge.cw_edgetally_k53_whole_joined_shares_holds : PySem.Challenge.rw_edgetally_k53_whole_joined_shares.Holds := by
 w_on
 refine holds_law Law.wsH λsaid=>?_;refine holds_open (q:=Law.qH) (loose:=Law.loH) (Xt:=Law.xtH) (XP:=XL Law.qH Law.lvH) (Yf:=Hook.obs Law.hkH) (Ya:=Hook.val Law.hkH) (YP:=Hook.says Law.hkH) (N:=9764) Law.hlH (Hook.of Law.hkH) (Hook.keeps Law.hkH) (λs e=>xl_of s (Zk.mp e).1) XL.keeps (by rfl) (by rfl) (by rfl) (λs e=>recFacts_of (Zk.mp e).2) (by rfl) said Law.okH ⟨rfl,rfl,rfl,rfl,rfl,by decide +kernel⟩ ?hw ?hc
 case hw=>w_witness2
 exact Law.wlkH
